/-
  Take that gives nothing; Drop.
-/
import Derived.Test.YtalifbajihkenaaNTake
namespace Go.Proofs.Ytalifbajihkenaa
open Go.RowKit Go.Maps
set_option linter.unusedSimpArgs false
set_option linter.unusedVariables false

section
variable {w w' : World} {B b mb n : Nat} {nodes x y i : Int} {v : Value} {ls : List L3} {sp : Int → Int → Bool}
set_option maxRecDepth 100000 in
set_option maxHeartbeats 1000000 in
theorem take_out (h : Nt w B b mb n nodes v ls sp) (i : Int) (hi : comesE sp ls i ≠ 0) : Calls Try.prog 10 #[.pointer (some ⟨b, 0, none⟩), .int .i64 i] w fun e w' => e = .returned (.tuple #[letV 0 0 none 0 0, .int .i64 (comesE sp ls i)]) ∧ Below w.heap.size w w' := by
  obtain ⟨w1, hw1⟩ : ∃ x, x = w.alloc (.cells #[.int .i64 0, .int .i64 0, .slice none 0 0] 37) := ⟨_, rfl⟩
  have hb1 : Below w.heap.size w w1 := by rw [hw1]; exact (Below.refl _ _).alloc (Nat.le_refl _) _
  have hX : w1.heap[w.heap.size]? = some (.cells #[.int .i64 0, .int .i64 0, .slice none 0 0] 37 (0, 0)) := by rw [hw1]; exact heap_alloc_new w _
  have HC := Lib.hid (comes_any (h.below hb1) i)
  have HX := Lib.hid hX
  have HB1 := Lib.hid hb1
  obtain ⟨e0, he0⟩ : ∃ x, x = comesE sp ls i := ⟨_, rfl⟩
  rw [← he0] at HC hi ⊢
  clear hX hb1 h he0
  unfold letV
  go_enter Try.func10, Try.ntmps10
  go_wp2_with fail
  rw [← hw1]
  refine (HC.out).mono ?_
  rintro e w' ⟨rfl, hF⟩
  have hX' := (hF.block _ (lt_of_block HX.out)).trans HX.out
  have y0 := three_cell0 hX'
  have y1 := three_cell1 hX'
  have y2 := three_cell2 hX'
  have p0 := three_free (k := 0) hX'
  have p1 := three_free (k := 1) hX'
  have p2 := three_free (k := 2) hX'
  have HX' := Lib.hid hX'
  have HF := Lib.hid hF
  clear hX' hF HC hw1
  go_wp2_with fail
  have HS := Lib.hid (Set3.mk' (x := .int .i64 0) (y := .int .i64 0) (z := .slice none 0 0) HX'.out)
  obtain ⟨w9, hw9⟩ : ∃ x, x = ((w'.setCell ⟨w.heap.size, 0, none⟩ (.int .i64 0)).setCell ⟨w.heap.size, 1, none⟩ (.int .i64 0)).setCell ⟨w.heap.size, 2, none⟩ (.slice none 0 0) := ⟨_, rfl⟩
  rw [← hw9] at HS ⊢
  have z0 := three_cell0 HS.out.at'
  have z1 := three_cell1 HS.out.at'
  have z2 := three_cell2 HS.out.at'
  have HG : Hid (Below w.heap.size w w9) := HS.out.below (HB1.out.trans (HF.out.mono HB1.out.size)) (Nat.le_refl _)
  clear hw9 y0 y1 y2 p0 p1 p2
  refine bodyPost_ret (v := .tuple #[.agg #[.int .i64 0, .int .i64 0, .slice none 0 0], .int .i64 e0]) (by simp [results, Try.results10, go_sem, z0, z1, z2]) rfl ?_
  exact ⟨rfl, HG.out⟩


set_option maxRecDepth 100000 in
set_option maxHeartbeats 1000000 in
theorem drop_in (h : Nt w B b mb n nodes v ls sp) {k : Nat} (hk : k < ls.length) (hbl : ∀ l ∈ ls, l.2.2.length ≤ 70368744177664) : Calls Try.prog 14 #[.pointer (some ⟨b, 0, none⟩), .int .i64 k] w fun e w' => e = .returned (.int .i64 0) ∧ ∃ v', v'.ownBlock = v.ownBlock ∧ Nt w' B b mb n nodes v' (ls.eraseIdx k) sp ∧ Did B b mb v w w' ∧ (Fit w v → Fit w' v') ∧ (∀ T, Low w v ls T → Low w' v' (ls.eraseIdx k) T) ∧ (∀ cs, OwnAt w B v ls.length cs → OwnAt w' B v' (ls.length - 1) (cut3 cs k)) := by
  have hf := flies_any h k
  rw [show fliesB (k : Int) ls.length = true by simp [fliesB, hk]] at hf
  have HF := Lib.hid hf
  have HR := Lib.hid (remove_any h hk hbl)
  clear hf h
  go_enter Try.func14, Try.ntmps14
  go_wp2_with fail
  refine (HF.out).mono ?_
  rintro e w' ⟨rfl, hw⟩
  have hw := hw.symm
  subst hw
  go_wp2_with fail
  refine (HR.out).mono ?_
  rintro e w3 ⟨rfl, hp⟩
  have HP := Lib.hid hp
  clear hp
  go_wp2_with fail
  go_ret
  exact ⟨rfl, HP.out⟩
set_option maxRecDepth 100000 in
set_option maxHeartbeats 1000000 in
theorem drop_out (h : Nt w B b mb n nodes v ls sp) (i : Int) (hi : fliesB i ls.length = false) : Calls Try.prog 14 #[.pointer (some ⟨b, 0, none⟩), .int .i64 i] w fun e w' => e = .returned (.int .i64 1) ∧ w' = w := by
  have hf := flies_any h i
  rw [hi] at hf
  have HF := Lib.hid hf
  clear hf h
  go_enter Try.func14, Try.ntmps14
  go_wp2_with fail
  refine (HF.out).mono ?_
  rintro e w' ⟨rfl, hw⟩
  have hw := hw.symm
  subst hw
  go_wp2_with fail
  go_ret
  exact ⟨rfl, rfl⟩
end

end Go.Proofs.Ytalifbajihkenaa
