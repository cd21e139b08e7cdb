/-
  ScrollSizes: how many bytes a number has.
-/
import Derived.Test.YtigigpeombahnaaNil
namespace Go.Proofs.Ytigigpeombahnaa
open Go.RowKit

/-- how many bytes are still to be counted -/
def more7 (m : Nat) : Nat := if m = 0 then 0 else (vi m).length
theorem more7_step {m : Nat} (h : 0 < m) : more7 m = 1 + more7 (m / 128) := by
  unfold more7
  rw [if_neg (by omega)]
  by_cases hm : m < 128
  · rw [vi_lt hm, if_pos (by omega)]; rfl
  · rw [vi_ge (by omega), if_neg (by omega)]; simp; omega
theorem len_more7 (a : Nat) : (vi a).length = 1 + more7 (a / 128) := by
  unfold more7
  by_cases hm : a < 128
  · rw [vi_lt hm, if_pos (by omega)]; rfl
  · rw [vi_ge (by omega), if_neg (by omega)]; simp; omega
theorem vi_mono : ∀ (b a : Nat), a ≤ b → (vi a).length ≤ (vi b).length := by
  intro b
  induction b using Nat.strongRecOn with
  | ind b ih =>
    intro a h
    by_cases hb : b < 128
    · rw [vi_lt hb, vi_lt (by omega)]; simp
    · by_cases ha : a < 128
      · rw [vi_lt ha]; have := vi_pos b; simp; omega
      · rw [vi_ge (n := b) (by omega), vi_ge (n := a) (by omega)]
        have := ih (b / 128) (by omega) (a / 128) (by omega)
        simp; omega

/-- a Writer, one number, its bytes -/
theorem one_num (n : Nat) : [] ++ [n].flatMap vi = vi n := by simp

set_option maxRecDepth 100000 in
set_option maxHeartbeats 1600000 in
theorem law_sizes (a b : Nat) (w : World) (ha : a < U64) (hb : b < U64) :
    Calls Try.prog 6 #[.int .u64 a, .int .u64 b] w fun e w' => e = .returned (.bool true) ∧ Below w.heap.size w w' := by
  have hla := vi_len10 ha
  have hlb := vi_len10 hb
  go_enter Try.func6, Try.ntmps6
  go_wp2_with fail
  refine (awake_any _).mono ?_
  rintro e w1 ⟨rfl, hb1⟩
  go_wp2_with fail
  obtain ⟨w2, hw2e⟩ : ∃ x, x = (w1.alloc (.cells #[.slice none 0 0] 27)).alloc (.cells #[.int .u64 a] 35) := ⟨_, rfl⟩
  have hw2 : Wr w2 w1.heap.size w1.heap.size (.slice none 0 0) [] := by rw [hw2e]; exact (Wr.new w1).alloc _
  have hr2 : Row (OffW w1.heap.size (.slice none 0 0)) w2 (some ⟨w1.heap.size + 1, 0, none⟩) (u64s [a]) := by
    rw [hw2e]
    exact Row.of_cells (new_at (by simp)) (by simp [u64s]) ((Wr.new w1).off (by simp))
  have hb2 : Below w1.heap.size w1 w2 := by rw [hw2e]; exact ((Below.refl _ _).alloc (Nat.le_refl _) _).alloc (by simp) _
  rw [← hw2e]
  clear hw2e
  refine (nums_any w1.heap.size w1.heap.size 1 _ [] [a] _ _ hw2 hr2 (by simpa using ha) (by simp)).mono ?_
  rintro e w3 ⟨rfl, hw3⟩
  have hb3 := hb2.trans (hw3.below hw2 (Nat.le_refl _))
  rw [one_num] at hw3
  obtain ⟨v3, hv3, _, _⟩ := hw3
  clear hw2 hr2 hb2
  go_wp2_with fail
  refine (bytes_any _ _ v3 _ _ hv3 (by omega)).mono ?_
  rintro e w4 ⟨g4, rfl, hg4, hgb4, hb4⟩
  have hb4' := (hb1.trans (hb3.mono hb1.size)).trans (hb4.mono (Nat.le_trans hb1.size hb3.size))
  clear hb1 hb3 hb4 hv3 hgb4 hg4
  go_wp2_with fail
  obtain ⟨w5, hw5e⟩ : ∃ x, x = (w4.alloc (.cells #[.slice none 0 0] 27)).alloc (.cells #[.int .u64 b] 35) := ⟨_, rfl⟩
  have hw5 : Wr w5 w4.heap.size w4.heap.size (.slice none 0 0) [] := by rw [hw5e]; exact (Wr.new w4).alloc _
  have hr5 : Row (OffW w4.heap.size (.slice none 0 0)) w5 (some ⟨w4.heap.size + 1, 0, none⟩) (u64s [b]) := by
    rw [hw5e]
    exact Row.of_cells (new_at (by simp)) (by simp [u64s]) ((Wr.new w4).off (by simp))
  have hb5 : Below w4.heap.size w4 w5 := by rw [hw5e]; exact ((Below.refl _ _).alloc (Nat.le_refl _) _).alloc (by simp) _
  rw [← hw5e]
  clear hw5e
  refine (nums_any w4.heap.size w4.heap.size 1 _ [] [b] _ _ hw5 hr5 (by simpa using hb) (by simp)).mono ?_
  rintro e w6 ⟨rfl, hw6⟩
  have hb6 := hb5.trans (hw6.below hw5 (Nat.le_refl _))
  rw [one_num] at hw6
  obtain ⟨v6, hv6, _, _⟩ := hw6
  clear hw5 hr5 hb5
  go_wp2_with fail
  refine (bytes_any _ _ v6 _ _ hv6 (by omega)).mono ?_
  rintro e w7 ⟨g7, rfl, hg7, hgb7, hb7⟩
  have hb7' := (hb4'.trans (hb6.mono hb4'.size)).trans (hb7.mono (Nat.le_trans hb4'.size hb6.size))
  clear hb4' hb6 hb7 hv6 hgb7 hg7
  have HL := Lib.hid (len_more7 a)
  have HM := Lib.hid (vi_mono b a)
  generalize (vi a).length = la at *
  generalize (vi b).length = lb at *
  go_wp2_with fail
  go_loop [7, 8] (fun t m => ∃ k r : Nat, t = .int .i64 k ∧ m = .int .u64 r ∧ k + more7 r = la ∧ r ≤ a) (fun _ m => (intOf m).toNat)
  case atStart => exact ⟨1, a / 128, rfl, by go_num, HL.out.symm, by omega⟩
  case round =>
    obtain ⟨k, r, rfl, rfl, hk, hr⟩ := hrel
    have hkl : k ≤ la := by omega
    have HK := Lib.hid hk
    clear hk
    by_cases hr0 : 0 < r
    · have hr0' : (0 : Int) < (r : Int) := by omega
      go_wp2_with fail
      go_round
      case rel => exact ⟨k + 1, r / 128, by go_num, by go_num, by have := HK.out; rw [more7_step hr0] at this; omega, by omega⟩
      case measure => simp [intOf]; omega
    · have hr0' : ¬ (0 : Int) < (r : Int) := by omega
      obtain rfl : la = k := by
        have := HK.out
        obtain rfl : r = 0 := by omega
        simpa [more7] using this.symm
      have hm := HM.out
      clear HK HL HM
      by_cases hab : b < a
      · go_wp2_with fail
        go_ret
        exact ⟨rfl, hb7'⟩
      · have hd : decide (la ≤ lb) = true := by simpa using hm (by omega)
        clear hm
        go_wp2_with fail
        go_ret
        exact ⟨rfl, hb7'⟩

end Go.Proofs.Ytigigpeombahnaa
