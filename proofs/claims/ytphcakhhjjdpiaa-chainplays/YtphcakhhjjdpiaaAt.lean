/-
  The contract of At.
-/
import Derived.Test.YtphcakhhjjdpiaaUpTo
namespace Go.Proofs.Ytphcakhhjjdpiaa
open Go.RowKit

/-- what versions say as of a stamp -/
def asOf (vs : List Ver) (s : Int) : List Int := ((vs.filter fun v => decide (v.1 ≤ s)).getLastD (0, [])).2
theorem Rise.filter {vs : List Ver} (h : Rise vs) (s : Int) : (vs.filter fun v => decide (v.1 ≤ s)) = vs.take (cnt vs s) := by
  obtain ⟨h1, h2, h3⟩ := h.parts s
  have e := List.take_append_drop (cnt vs s) vs
  have : vs.filter (fun v => decide (v.1 ≤ s)) = (vs.take (cnt vs s)).filter (fun v => decide (v.1 ≤ s)) ++ (vs.drop (cnt vs s)).filter (fun v => decide (v.1 ≤ s)) := by rw [← List.filter_append, e]
  rw [this]
  have e1 : (vs.take (cnt vs s)).filter (fun v => decide (v.1 ≤ s)) = vs.take (cnt vs s) := by
    rw [List.filter_eq_self]
    intro a ha
    obtain ⟨j, hj, rfl⟩ := List.getElem_of_mem ha
    rw [List.length_take] at hj
    rw [List.getElem_take]
    simpa using h2 j (by omega) (by omega)
  have e2 : (vs.drop (cnt vs s)).filter (fun v => decide (v.1 ≤ s)) = [] := by
    rw [List.filter_eq_nil_iff]
    intro a ha
    obtain ⟨j, hj, rfl⟩ := List.getElem_of_mem ha
    rw [List.length_drop] at hj
    rw [List.getElem_drop]
    have := h3 (cnt vs s + j) (by omega) (by omega)
    simp; omega
  rw [e1, e2, List.append_nil]
theorem Rise.asOf0 {vs : List Ver} (h : Rise vs) (s : Int) (h0 : cnt vs s = 0) : asOf vs s = [] := by
  unfold asOf; rw [h.filter, h0]; rfl
theorem Rise.asOf1 {vs : List Ver} (h : Rise vs) (s : Int) (m : Nat) (h0 : cnt vs s = m + 1) (hm : m < vs.length) : asOf vs s = vs[m].2 := by
  unfold asOf
  rw [h.filter, h0, List.take_succ_eq_append_getElem hm, List.getLastD_eq_getLast?, List.getLast?_concat]
  rfl

def GaveAt (w : World) (l : List Int) (e : Ending) (w' : World) : Prop :=
  ∃ A c, e = .returned (.tuple #[.slice A l.length c, .bool (!goneB l)]) ∧ l.length ≤ c ∧ Row (fun g => w.heap.size ≤ g) w' A (i32s l) ∧ FreeA (fun g => w.heap.size ≤ g) w' A ∧ Below w.heap.size w w'
theorem gaveAt_none {w w' : World} {l : List Int} (h : l = []) (hb : Below w.heap.size w w') : GaveAt w l (.returned (.tuple #[.slice none 0 0, .bool false])) w' := by
  subst h
  exact ⟨none, 0, rfl, Nat.le_refl _, Row.nil, (fun ad e => by cases e), hb⟩

theorem run_field1 (a b : Value) (W : World) : (Instr.field 41 (.agg #[a, b]) 1).run Try.prog W = .ok b W := by kernel_rfl

set_option maxHeartbeats 400000 in
theorem at_nil (s : Int) (w : World) : Calls Try.prog 17 #[.pointer none, .int .u64 s] w fun e w' => GaveAt w [] e w' := by
  have HU : Hid (∀ W, Calls Try.prog 24 #[.pointer none, .int .u64 s] W fun e w' => e = .returned (.int .i64 0) ∧ Below W.heap.size W w') := fun W => upTo_nil s W
  go_enter Try.func17, Try.ntmps17
  go_wp2_with fail
  refine (HU.out _).mono ?_
  rintro e w' ⟨rfl, hb⟩
  go_wp2_with fail
  go_ret2
  exact gaveAt_none rfl hb

set_option maxRecDepth 100000 in
set_option maxHeartbeats 1000000 in
theorem at_any (K : Nat → Prop) (B b : Nat) (v : Value) (vs : List Ver) (s : Int) (w : World) (L : Chn K w B b v vs) (hso : Rise vs) (hn : vs.length ≤ 1000) (hw : ∀ x ∈ vs, x.2.length ≤ 1000) :
    Calls Try.prog 17 #[.pointer (some ⟨b, 0, none⟩), .int .u64 s] w fun e w' => GaveAt w (asOf vs s) e w' := by
  have HU := Lib.hid (upTo_any K B b v vs s w L hso hn)
  have hcl := cnt_le vs s
  by_cases h0 : cnt vs s = 0
  · have HA := Lib.hid (hso.asOf0 s h0)
    rw [h0] at HU
    simp only [Int.natCast_zero] at HU
    clear h0 hso L hcl hn hw
    go_enter Try.func17, Try.ntmps17
    go_wp2_with fail
    refine (HU.out).mono ?_
    rintro e w' ⟨rfl, hb⟩
    go_wp2_with fail
    go_ret2
    exact gaveAt_none HA.out hb
  · obtain ⟨m, hm⟩ : ∃ m, cnt vs s = m + 1 := ⟨cnt vs s - 1, by omega⟩
    have hml : m < vs.length := by omega
    have HA := Lib.hid (hso.asOf1 s m hm hml)
    rw [hm] at HU
    have hvl := hw _ (List.getElem_mem hml)
    have hbl := L.lt.1
    have c0 := L.cell
    obtain ⟨A, ca, rfl, hca, hat⟩ := L.vers
    obtain ⟨ad, rfl, j1, hadl, a0, X, cx, a1, j2, hrow⟩ := hat m hml
    clear j1 hat L
    have i1 : IntKind.i64.wrap ((m : Int) + 1 - 1) = (m : Int) := by rw [IntKind.wrap_i64]; omega
    have i1' : IntKind.i64.wrap (m : Int) = (m : Int) := by rw [IntKind.wrap_i64]; omega
    have i2 : (m : Int) < (vs.length : Int) := by omega
    have i2' : (0 : Int) ≤ (m : Int) := by omega
    have i3 : ((m : Int) + 1 == 0) = false := by simp; omega
    have i4 : (m : Int) ≤ 1000 := by omega
    have hadl' : (ad.add (m * 2)).block < w.heap.size := by rw [block_add]; exact hadl
    have KEEP : Hid (∀ W, Below w.heap.size w W → W.cell? ⟨b, 0, none⟩ = some (.slice (some ad) vs.length ca) ∧ W.cell? (ad.add (m * 2)) = some (.int .u64 vs[m].1) ∧ W.cell? ⟨(ad.add (m * 2)).block, (ad.add (m * 2)).off + 1, none⟩ = some (.slice X vs[m].2.length cx)) := fun W hW =>
      ⟨(hW.cell (p := ⟨b, 0, none⟩) hbl).trans c0, (hW.cell (p := ad.add (m * 2)) hadl').trans a0, (hW.cell (p := ⟨(ad.add (m * 2)).block, (ad.add (m * 2)).off + 1, none⟩) hadl').trans a1⟩
    have HG : Hid (∀ W, Calls Try.prog 25 #[.agg #[.int .u64 vs[m].1, .slice X vs[m].2.length cx]] W fun e w' => e = .returned (.bool (goneB vs[m].2)) ∧ Below W.heap.size W w') := fun W => gone_any vs[m].1 X vs[m].2 cx W
    have HO : Hid (∀ W, Below w.heap.size w W → Calls Try.prog 28 #[.agg #[.int .u64 vs[m].1, .slice X vs[m].2.length cx]] W fun e w' => GaveVer W vs[m] e w') := fun W hW => own_any _ vs[m] X cx W (hrow.below hW) hvl
    have HVL := Lib.hid hvl
    clear hrow j2 c0 a0 a1 hm h0 hw hcl hca hso
    cases hg : goneB vs[m].2 with
    | true =>
      rw [hg] at HG
      have HN := Lib.hid (show asOf vs s = [] by rw [HA.out]; unfold goneB at hg; exact List.eq_nil_of_length_eq_zero (by simpa using hg))
      clear hg
      go_enter Try.func17, Try.ntmps17
      go_wp2_with fail
      refine (HU.out).mono ?_
      rintro e w1 ⟨rfl, hb1⟩
      obtain ⟨k1, k2, k3⟩ := KEEP.out w1 hb1
      go_wp2_with fail
      refine (HG.out _).mono ?_
      rintro e w2 ⟨rfl, hb2⟩
      go_wp2_with fail
      go_ret2
      exact gaveAt_none HN.out (hb1.trans (hb2.mono hb1.size))
    | false =>
      have HGF := Lib.hid hg
      rw [hg] at HG
      clear hg
      go_enter Try.func17, Try.ntmps17
      go_wp2_with fail
      refine (HU.out).mono ?_
      rintro e w1 ⟨rfl, hb1⟩
      obtain ⟨k1, k2, k3⟩ := KEEP.out w1 hb1
      go_wp2_with fail
      refine (HG.out _).mono ?_
      rintro e w2 ⟨rfl, hb2⟩
      have hb12 := hb1.trans (hb2.mono hb1.size)
      obtain ⟨q1, q2, q3⟩ := KEEP.out w2 hb12
      clear k1 k2 k3
      go_wp2_with fail
      refine (HO.out w2 hb12).mono ?_
      rintro e w3 ⟨A3, c3, rfl, hc3, r3, f3, hb3⟩
      clear q1 q2 q3
      have hfld : ∀ W : World, (Instr.field 41 (.agg #[.int .u64 vs[m].1, .slice A3 vs[m].2.length c3]) 1).run Try.prog W = .ok (.slice A3 vs[m].2.length c3) W := fun W => run_field1 _ _ W
      go_wp2_with fail
      go_ret2
      refine ⟨A3, c3, by rw [HA.out, HGF.out]; rfl, by rw [HA.out]; exact hc3, by rw [HA.out]; exact r3.mono fun g _ s => Nat.le_trans hb12.size s, f3.mono fun g _ s => Nat.le_trans hb12.size s, hb12.trans (hb3.mono hb12.size)⟩

end Go.Proofs.Ytphcakhhjjdpiaa
