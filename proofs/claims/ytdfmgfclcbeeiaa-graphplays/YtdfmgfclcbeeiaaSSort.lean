/-
  The contract of slices.Sort at []uint64: of a row, and of no row.
-/
import Derived.Test.YtdfmgfclcbeeiaaSPdq
namespace Go.Proofs.Ytdfmgfclcbeeiaa
open Go.RowKit Go.Sort
set_option linter.unusedSimpArgs false
set_option linter.unusedVariables false

theorem bitLenAux_le : ∀ f x : Nat, Lib.bitLenAux f x ≤ f
  | 0, _ => Nat.le_refl _
  | f + 1, x => by
    have := bitLenAux_le f (x / 2)
    unfold Lib.bitLenAux
    split <;> omega
theorem bitLen_64 (x : Nat) : Lib.bitLen x ≤ 64 := bitLenAux_le 64 x

set_option maxRecDepth 100000 in
set_option maxHeartbeats 2000000 in
theorem ins_none (p : Option Addr) (cap : Nat) (w : World) : Calls Try.prog 48 #[.slice p 0 cap, .int .i64 0, .int .i64 0] w fun e w' => e = .returned (.tuple #[]) ∧ w' = w := by
  go_enter Try.func48, Try.ntmps48
  go_wp2_with fail
  go_loopw [6] (fun s6 wr => s6 = .int .i64 1 ∧ wr = w) (fun _ _ => 0)
  case atStart => exact ⟨rfl, rfl⟩
  case round =>
    obtain ⟨rfl, rfl⟩ := hrel
    go_wp2_with fail
    go_end0
    exact ⟨rfl, rfl⟩

set_option maxRecDepth 100000 in
set_option maxHeartbeats 4000000 in
theorem pdq_none (p : Option Addr) (cap : Nat) (w : World) : Calls Try.prog 43 #[.slice p 0 cap, .int .i64 0, .int .i64 0, .int .i64 0] w fun e w' => e = .returned (.tuple #[]) ∧ w' = w := by
  go_enter Try.func43, Try.ntmps43
  go_wp2_with fail
  go_loopw [1, 2, 3, 8, 9, 10, 11, 12, 13, 14, 15, 16, 17, 18] (fun s1 s2 s3 s8 s9 _ _ _ _ _ _ _ _ _ wr => s1 = .int .i64 0 ∧ s2 = .int .i64 0 ∧ wr = w) (fun _ _ _ _ _ _ _ _ _ _ _ _ _ _ _ => 0)
  case atStart => exact ⟨rfl, rfl, rfl⟩
  case round =>
    obtain ⟨rfl, rfl, rfl⟩ := hrel
    go_wp2_with fail
    refine (ins_none p cap wr).mono ?_
    rintro e w' ⟨rfl, rfl⟩
    go_wp2_with fail
    refine bodyPost_ret (results_none rfl _ _ _) rfl ?_
    exact ⟨rfl, rfl⟩

set_option maxRecDepth 100000 in
set_option maxHeartbeats 2000000 in
theorem sort_none (p : Option Addr) (cap : Nat) (w : World) : Calls Try.prog 34 #[.slice p 0 cap] w fun e w' => e = .returned (.tuple #[]) ∧ w' = w := by
  have HL := Lib.hid (len_any 0 w (by omega))
  go_enter Try.func34, Try.ntmps34
  go_wp2_with fail
  refine (HL.out).mono ?_
  rintro e w' ⟨rfl, rfl⟩
  go_wp2_with fail
  refine (pdq_none p cap w').mono ?_
  rintro e w2 ⟨rfl, rfl⟩
  go_wp2_with fail
  go_end0
  exact ⟨rfl, rfl⟩

set_option maxRecDepth 100000 in
set_option maxHeartbeats 2000000 in
theorem sort_any (w : World) (blk off cap : Nat) (d : Array Int) (h : Holds encU w blk off d) (hblk : blk < w.heap.size) (hsz : d.size < 4611686018427387904) :
    Calls Try.prog 34 #[.slice (some ⟨blk, off, none⟩) d.size cap] w fun e w' => e = .returned (.tuple #[]) ∧ ∃ d', Moved w blk off 0 d.size d d' w' ∧ SortedIn ltInt 0 d.size d' := by
  have HL := Lib.hid (len_any d.size w (by omega))
  have hC : ∀ lim : Nat, lim ≤ 64 → Calls Try.prog 43 #[.slice (some ⟨blk, off, none⟩) d.size cap, .int .i64 (0 : Nat), .int .i64 (d.size : Nat), .int .i64 lim] w fun e w' => e = .returned (.tuple #[]) ∧ ∃ d', Moved w blk off 0 d.size d d' w' ∧ SortedIn ltInt 0 d.size d' := fun lim hl => pdq_all blk off cap d.size w d 0 d.size lim (by omega) h hblk (Nat.zero_le _) (Nat.le_refl _) hsz (Or.inl rfl) hl
  obtain ⟨n, hn⟩ : ∃ n, n = d.size := ⟨_, rfl⟩
  rw [← hn] at hC HL hsz ⊢
  have HC := Lib.hid hC
  obtain ⟨k, hk⟩ : ∃ k, k = Lib.bitLen n := ⟨_, rfl⟩
  have hk64 : k ≤ 64 := by rw [hk]; exact bitLen_64 n
  rw [← hk] at HL
  clear hC hn h hblk hk
  go_enter Try.func34, Try.ntmps34
  go_wp2_with fail
  refine (HL.out).mono ?_
  rintro e w' ⟨rfl, rfl⟩
  go_wp2_with fail
  refine ((HC.out) k hk64).mono ?_
  rintro e w2 ⟨rfl, hf⟩
  have HF := Lib.hid hf
  clear hf
  go_wp2_with fail
  go_end0
  exact ⟨rfl, HF.out⟩

/-- sorted and a permutation: it is the list sorted -/
theorem moved_sorted {w w' : World} {blk off : Nat} {d d' : Array Int} (hm : Moved w blk off 0 d.size d d' w') (hs : SortedIn ltInt 0 d.size d') : d'.toList = d.toList.mergeSort (fun x y => !ltInt y x) :=
  sorted_unique_holds swo_ltInt (fun x y h1 h2 => by simp only [ltInt, decide_eq_false_iff_not] at h1 h2; omega) d d' hm.2 hs

end Go.Proofs.Ytdfmgfclcbeeiaa
