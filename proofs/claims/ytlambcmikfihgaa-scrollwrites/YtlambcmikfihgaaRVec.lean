/-
  The contract of (*Reader).Vec.
-/
import Derived.Test.YtlambcmikfihgaaVOf
import Derived.Test.YtlambcmikfihgaaRText
import Derived.Deep.RegionHeld3
namespace Go.Proofs.Ytlambcmikfihgaa
open Go.RowKit

/-- What Vec answers, and leaves. -/
def ToldV (b : Nat) (l : List Int) (r : List Int × Nat × Int) (w : World) (e : Ending) (w' : World) : Prop :=
  ∃ A c, e = .returned (.slice A r.1.length c) ∧ r.1.length ≤ c ∧ Row (fun g => w.heap.size ≤ g) w' A (i32s r.1) ∧ Took b (l.drop r.2.1) r.2.2 w w'

set_option maxRecDepth 100000 in
set_option maxHeartbeats 800000 in
theorem rvec_any (b : Nat) (most : Int) (l : List Int) (w : World) (h : Rd w b l 0) (hl : l.length ≤ 17592186044416) (h8 : Bytes8 l) (hm : most ≤ 9223372036854775807) (mo : Nat) (hmo : most.toNat = mo) :
    Calls Try.prog 19 #[.pointer (some ⟨b, 0, none⟩), .int .i64 most] w fun e w' => ToldV b l (vecR l mo) w e w' := by
  have hd := done_no b l w h
  obtain ⟨A, c, hb, hc, hrow⟩ := h
  have hmo' : mo ≤ 9223372036854775807 := by omega
  have hvec : ∀ u, Row (fun g => g < b) u A (u8s l) → Calls Try.prog 31 #[.slice A l.length c, .int .u64 mo] u fun e w' => GaveVec (vecR l mo) u e w' := fun u hu => vectorOf_any _ A c mo l u hu hl hc h8 hmo'
  have hor := vecR_or l mo
  have hle := vecR_le l mo
  obtain ⟨⟨xs, s, f⟩, hR⟩ : ∃ r, r = vecR l mo := ⟨_, rfl⟩
  rw [← hR] at hor hvec hle ⊢
  simp only at hor hle
  clear hR
  have h0 := two_cell0 hb
  have hblt := lt_of_block hb
  have h1 := two_cell1 hb
  have HD := Lib.hid hd
  have HB := Lib.hid hb
  have HM := Lib.hid hmo
  have HV := Lib.hid hvec
  clear hd hb hvec hmo
  go_enter Try.func19, Try.ntmps19
  go_wp2_with fail
  refine HD.out.mono ?_
  rintro e w1 ⟨rfl, rfl⟩
  go_wp2_with fail
  go_region_held3 (fun w' => w'.cell? ⟨b, 0, none⟩ = some (.slice A l.length c)) (first | assumption | exact h0)
    (first | (go_at_call 30; refine (atLeast_any most mo _ hm HM.out).mono ?_; rintro e w2 ⟨rfl, rfl⟩) | (go_at_call 31; refine (HV.out _ (by exact hrow)).mono ?_; rintro e w2 ⟨A2, c2, rfl, hc2, hr2, hb2⟩; have hk2 := (hb2.cell (p := ⟨b, 0, none⟩) (by exact hblt)).trans h0))
  have hb3 : Below w.heap.size w w2 := ⟨hb2.os, hb2.tape, hb2.output, hb2.size, hb2.block⟩
  have hr3 : Row (fun g => w.heap.size ≤ g) w2 A2 (i32s xs) := hr2
  have hblk := (hb3.block b hblt).trans HB.out
  have hrow2 := hrow.below hb3
  have q0 := two_cell0 hblk
  have q1 := two_cell1 hblk
  have qf0 := two_free (k := 0) hblk
  have qf1 := two_free (k := 1) hblk
  have hfr : ∀ k (u : Value), Fr b none w (w2.setCell ⟨b, k, none⟩ u) := fun k u => by
    refine ⟨hb3.os, hb3.tape, hb3.output, by have := hb3.size; simp [World.setCell]; omega, fun i hi hib _ => (Below.heap_setCell w2 _ u i hib).trans (hb3.block i hi)⟩
  have hr4 : ∀ k (u : Value), Row (fun g => w.heap.size ≤ g) (w2.setCell ⟨b, k, none⟩ u) A2 (i32s xs) := fun k u => hr3.kept (by simp [World.setCell]) fun g _ hg => Below.heap_setCell w2 _ u g (by simp; omega)
  have HBK := Lib.hid hblk
  have HFR := Lib.hid hfr
  have HR4 := Lib.hid hr4
  clear hb2 hr2 hk2 hb3 hr3 hblk hfr hr4 h0 h1
  rcases hor with ⟨hf, h1, h2⟩ | hf
  · have hf' : (f != 0) = true := by simpa using hf
    clear hf
    subst h1 h2
    go_wp2_with fail
    go_ret
    exact ⟨none, 0, rfl, Nat.le_refl _, Row.nil, ⟨A, c, two_set1 HBK.out, hc, hrow2.set _⟩, HFR.out 1 _⟩
  · subst hf
    have hcut := hrow2.cut s c (by rw [u8s_len]; exact hc)
    have hu : (u8s l).drop s = u8s (l.drop s) := by simp [u8s]
    have hlen : (l.drop s).length = l.length - s := List.length_drop ..
    rw [hu] at hcut
    have HLN := Lib.hid hlen
    clear hu hlen
    by_cases hcs : c ≤ s
    · rw [if_pos (by omega)] at hcut
      go_wp2_with fail
      go_ret
      refine ⟨A2, c2, rfl, hc2, HR4.out 0 _, ⟨A, 0, ?_, ?_, hcut.set _⟩, HFR.out 0 _⟩
      · show _ = some (Obj.cells #[.slice A (l.drop s).length 0, .int .i64 0] 61 (0, 0))
        rw [HLN.out]; exact two_set0 HBK.out
      · show (l.drop s).length ≤ 0
        rw [HLN.out]; omega
    · rw [if_neg (by omega)] at hcut
      go_wp2_with fail
      go_ret
      refine ⟨A2, c2, rfl, hc2, HR4.out 0 _, ⟨A.map (·.add s), c - s, ?_, ?_, hcut.set _⟩, HFR.out 0 _⟩
      · show _ = some (Obj.cells #[.slice (A.map (·.add s)) (l.drop s).length (c - s), .int .i64 0] 61 (0, 0))
        rw [HLN.out]; exact two_set0 HBK.out
      · show (l.drop s).length ≤ c - s
        rw [HLN.out]; omega

end Go.Proofs.Ytlambcmikfihgaa
