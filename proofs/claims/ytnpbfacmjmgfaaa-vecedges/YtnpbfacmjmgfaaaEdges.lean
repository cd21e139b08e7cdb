/-
  What VecEdges does: it returns true, and turns nothing that was there.
-/
import Derived.Test.YtnpbfacmjmgfaaaLaws
import Derived.Deep.OwnRows
namespace Go.Proofs.Ytnpbfacmjmgfaaa
open Go.RowKit

theorem right_zeros (k i : Nat) (b : Int) (hi : i < k) : rightB ((List.replicate k (0 : Int)).set i b) = (decide (k ≤ 8) && okN b) := by
  have h1 : ((List.replicate k (0 : Int)).set i b).length = k := by simp
  have h2 : ((List.replicate k (0 : Int)).set i b).all okN = okN b := by
    cases hb : okN b with
    | true =>
      rw [List.all_eq_true]
      intro x hx
      rcases List.mem_or_eq_of_mem_set hx with h | h
      · rw [List.eq_of_mem_replicate h]; rfl
      · rw [h]; exact hb
    | false =>
      rw [List.all_eq_false]
      exact ⟨b, List.mem_set (by simpa using hi) _, by simp [hb]⟩
  unfold rightB
  rw [h1, h2, decide_eq_true (by omega : 1 ≤ k), Bool.true_and]

set_option maxRecDepth 100000 in
set_option maxHeartbeats 400000 in
theorem law_edges (n a : Nat) (b : Int) (w : World) (hn : n < 256) (ha : a < 256) :
    Calls Try.prog 10 #[.int .u8 (n : Int), .int .u8 (a : Int), .int .i32 b] w fun e w' => e = .returned (.bool true) ∧ Below w.heap.size w w' := by
  obtain ⟨k, hk⟩ : ∃ k : Nat, n % 11 = k := ⟨n % 11, rfl⟩
  have hk11 : k < 11 := by omega
  rcases Nat.eq_zero_or_pos k with rfl | hpos
  · have hk1 : (n : Int) % 11 = 0 := by omega
    have hk2 : (n : Int).tmod 11 = 0 := by rw [Int.tmod_eq_emod_of_nonneg (by omega)]; exact hk1
    clear hk
    have hmk : ∀ W : World, (Instr.makeSlice 22 (.int .i64 0) (.int .i64 0)).run Try.prog W = .ok (.slice (some ⟨W.heap.size, 0, none⟩) 0 0) (W.alloc (.cells #[] 21)) := fun _ => by kernel_rfl
    go_enter Try.func10, Try.ntmps10
    go_wp2_with fail
    refine (awake_any _).mono ?_
    rintro e w1 ⟨rfl, hb1⟩
    have HM : Hid (∀ W (A : Option Addr), Calls Try.prog 15 #[.slice A 0 0] W fun e w' => e = .returned (.bool false) ∧ W = w') := fun W A => right_any (fun _ => True) A 0 [] W Row.nil (by decide)
    go_wp2_with (first | (go_at_call 15; refine (HM.out _ _).mono ?_; rintro e w' ⟨rfl, rfl⟩))
    go_ret
    exact ⟨rfl, hb1.alloc hb1.size _⟩
  · have hk1 : (n : Int) % 11 = k := by omega
    have hk2 : (n : Int).tmod 11 = k := by rw [Int.tmod_eq_emod_of_nonneg (by omega)]; exact hk1
    have hk0 : ((k : Int) == 0) = false := by simp; omega
    obtain ⟨i, hi⟩ : ∃ i : Nat, (a : Int) % (k : Int) = i := ⟨a % k, (Int.natCast_emod _ _).symm⟩
    have hik : i < k := by
      have := Int.emod_lt_of_pos (a : Int) (show (0 : Int) < k by omega)
      omega
    have hi' : (a : Int).tmod k = i := by rw [Int.tmod_eq_emod_of_nonneg (by omega)]; exact hi
    clear hk
    have hmk := fun W => run_make_row' (P := Try.prog) 22 21 (.int .i32 0) 4 Try.underlying22 Try.info21 rfl .i64 .i64 k (by omega) (by omega) W
    have hC := toList_madeCells_one (.int .i32 0) k
    generalize madeCells #[.int .i32 0] k = C at hmk hC
    have hCi : C[i]? = some (.int .i32 0) := by
      rw [← Array.getElem?_toList, hC]; simp [hik]
    have HC := Lib.hid hC
    clear hC
    have h1 : (0 : Int) ≤ (i : Int) := by omega
    have h2 : (i : Int) < (k : Int) := by omega
    go_enter Try.func10, Try.ntmps10
    go_wp2_with fail
    refine (awake_any _).mono ?_
    rintro e w1 ⟨rfl, hb1⟩
    go_wp2_with fail
    have hrow : Row (fun _ => True) (w1.alloc (.cells (C.setIfInBounds i (.int .i32 b)) 21)) (some ⟨w1.heap.size, 0, none⟩) (i32s ((List.replicate k (0 : Int)).set i b)) := by
      have e : C.setIfInBounds i (.int .i32 b) = (i32s ((List.replicate k (0 : Int)).set i b)).toArray := by
        apply Array.toList_inj.1
        rw [Array.toList_setIfInBounds, HC.out]
        simp [i32s, List.map_set]
      rw [e]
      exact Row.of_block (heap_alloc_new w1 _) trivial
    have HR := Lib.hid (right_any (fun _ => True) (some ⟨w1.heap.size, 0, none⟩) k _ _ hrow (by simp; omega))
    rw [right_zeros k i b hik, List.length_set, List.length_replicate] at HR
    clear hrow
    refine (HR.out).mono ?_
    rintro e w' ⟨rfl, rfl⟩
    by_cases g1 : k ≤ 8
    · have g1' : (k : Int) ≤ 8 := by omega
      by_cases g2 : b ≤ 268435456
      · by_cases g3 : -268435456 ≤ b
        · rw [show (decide (k ≤ 8) && okN b) = true by unfold okN; simp [g1, g2, g3]]
          go_wp2_with fail
          go_ret
          exact ⟨rfl, hb1.alloc hb1.size _⟩
        · have g3' : decide (-268435456 ≤ b) = false := by simpa using g3
          rw [show (decide (k ≤ 8) && okN b) = false by unfold okN; simp [g3]]
          go_wp2_with fail
          go_ret
          exact ⟨rfl, hb1.alloc hb1.size _⟩
      · rw [show (decide (k ≤ 8) && okN b) = false by unfold okN; simp [g2]]
        go_wp2_with fail
        go_ret
        exact ⟨rfl, hb1.alloc hb1.size _⟩
    · have g1' : ¬ (k : Int) ≤ 8 := by omega
      rw [show (decide (k ≤ 8) && okN b) = false by simp [g1]]
      go_wp2_with fail
      go_ret
      exact ⟨rfl, hb1.alloc hb1.size _⟩

end Go.Proofs.Ytnpbfacmjmgfaaa
