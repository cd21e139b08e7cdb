/-
  The contract of ref02's Num.
-/
import Derived.Test.YtlambcmikfihgaaMany0
namespace Go.Proofs.Ytlambcmikfihgaa
open Go.RowKit

/-- bytes of the call's own -/
def GaveO (w : World) (l : List Int) (e : Ending) (w' : World) : Prop :=
  ∃ A c, e = .returned (.slice A l.length c) ∧ w'.ownsRow w.heap.size 5 1 (.slice A l.length c) l.length (u8s l) ∧ Below w.heap.size w w'
theorem own_one (w : World) (x : Int) : (w.alloc (.cells #[.int .u8 x] 5)).ownsRow w.heap.size 5 1 (.slice (some ⟨w.heap.size, 0, none⟩) 1 1) 1 (u8s [x]) :=
  ⟨rfl, .inr ⟨w.heap.size, 1, #[.int .u8 x], rfl, Nat.le_refl _, heap_alloc_new w _, Nat.le_refl _, by decide, rfl, rfl⟩⟩

set_option maxRecDepth 100000 in
set_option maxHeartbeats 400000 in
theorem refNum_any (n : Nat) : ∀ (w : World), n < U64 → Calls Try.prog 8 #[.int .u64 (n : Int)] w fun e w' => GaveO w (vi n) e w' := by
  induction n using Nat.strongRecOn with
  | ind n ih =>
    intro w hn
    obtain ⟨i0, hi, hz0, hz1, hz2⟩ := info_parts Try.info5
    unfold U64 at hn
    by_cases hs : n < 128
    · have i1 : (n : Int) < 128 := by omega
      have i2 : (n : Int) % 256 = (n : Int) := by omega
      have HV := Lib.hid (vi_lt hs)
      clear ih
      go_enter Try.func8, Try.ntmps8
      go_wp2_with fail
      go_ret
      rw [HV.out]
      exact ⟨_, _, rfl, own_one w _, (Below.refl _ _).alloc (Nat.le_refl _) _⟩
    · have i1 : ¬ (n : Int) < 128 := by omega
      have HV := Lib.hid (vi_ge (n := n) (by omega))
      obtain ⟨m, hm⟩ : ∃ m, n / 128 = m := ⟨_, rfl⟩
      obtain ⟨r, hr⟩ : ∃ r, n % 128 = r := ⟨_, rfl⟩
      have e1 : (n : Int) / 128 = (m : Int) := by omega
      have e2 : (n : Int).tdiv 128 = (m : Int) := by rw [Int.tdiv_eq_ediv_of_nonneg (by omega)]; exact e1
      have e3 : (n : Int) % 128 = (r : Int) := by omega
      have e4 : (n : Int).tmod 128 = (r : Int) := by rw [Int.tmod_eq_emod_of_nonneg (by omega)]; exact e3
      have hr2 : r < 128 := by omega
      have e5 : (r : Int) % 256 = (r : Int) := by omega
      have e6 : ((r : Int) + 128) % 256 = (r : Int) + 128 := by omega
      rw [hm, hr] at HV
      have hmn : m < n := by omega
      have hml : (vi m).length ≤ 10 := vi_len10 (by unfold U64; omega)
      have HI := Lib.hid (ih m hmn (w.alloc (.cells #[.int .u8 ((r : Int) + 128)] 5)) (by unfold U64; omega))
      clear ih hm hr
      have ho := own_one w ((r : Int) + 128)
      go_enter Try.func8, Try.ntmps8
      go_wp2_with fail
      refine (HI.out).mono ?_
      rintro e w2 ⟨A2, c2, rfl, ho2, hb2⟩
      obtain ⟨A2', c2', q1, hc2, _, r2⟩ := Row.of_own ho2
      injection q1 with q11 _ q13
      subst q11 q13
      have ho' := own_below ho hb2
      have hs2 := hb2.size
      have hs1 : (w.alloc (.cells #[.int .u8 ((r : Int) + 128)] 5)).heap.size = w.heap.size + 1 := by simp
      go_wp2_with (at_builtin; refine wpList_append_row _ rfl (.tmp 12) (.tmp 15) 25 rfl w.heap.size 5 i0 (.int .u8 0) 1 Try.underlying25 hi hz0 hz1 hz2 rfl (.slice (some ⟨w.heap.size, 0, none⟩) 1 1) 1 (u8s [(r : Int) + 128]) rfl ho' _ A2 (vi m).length c2 (u8s (vi m)) rfl (u8s_len _) r2 (u8s_one _) ?k1 ?k2 ?k3 ?_; rotate_right; intro A3 c3 w3 hown3 hgrow3 hat3)
      case k1 => unfold maxLen; omega
      case k2 => omega
      case k3 => omega
      have hb3 : Below w.heap.size w w3 := (((Below.refl _ _).alloc (Nat.le_refl _) _).trans (hb2.mono (by omega))).grown hgrow3 (by omega) (fun g hg => by simp [Value.ownBlock] at hg; omega)
      have HG : Hid (GaveO w (vi n) (.returned (.slice A3 (1 + (vi m).length) c3)) w3) := by
        rw [HV.out]
        refine ⟨A3, c3, by rw [List.length_cons, Nat.add_comm], ?_, hb3⟩
        rw [List.length_cons, Nat.add_comm]
        simpa [u8s] using hown3
      clear hown3 hgrow3 hat3 ho ho' ho2 r2 hb2
      go_wp2_with fail
      go_ret
      exact HG.out

end Go.Proofs.Ytlambcmikfihgaa
