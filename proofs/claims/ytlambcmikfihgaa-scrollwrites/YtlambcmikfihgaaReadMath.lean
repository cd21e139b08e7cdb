/-
  What is written is read again: plain facts.
-/
import Derived.Test.YtlambcmikfihgaaOneMath
namespace Go.Proofs.Ytlambcmikfihgaa

theorem val_vi : ∀ n : Nat, val (vi n) = n := by
  intro n
  induction n using Nat.strongRecOn with
  | ind n ih =>
    by_cases h : n < 128
    · rw [vi_lt h]; simp [val]; omega
    · rw [vi_ge (by omega)]
      simp only [val]
      rw [ih (n / 128) (by omega)]
      omega

theorem nsz_vi (r : List Int) : ∀ n : Nat, nsz (vi n ++ r) = (vi n).length := by
  intro n
  induction n using Nat.strongRecOn with
  | ind n ih =>
    by_cases h : n < 128
    · rw [vi_lt h]; simp [nsz]; omega
    · have h1 := ih (n / 128) (by omega)
      have h2 := vi_pos (n / 128)
      rw [vi_ge (by omega)]
      simp only [List.cons_append, nsz, List.length_cons]
      rw [if_neg (by omega), h1, if_neg (by omega)]

/-- the last byte -/
theorem vi_last : ∀ (k n : Nat), (vi n).length = k + 1 → (vi n).getD k 0 = ((n / 128 ^ k : Nat) : Int) ∧ n < 128 ^ (k + 1) ∧ (0 < k → 128 ^ k ≤ n) := by
  intro k
  induction k with
  | zero =>
    intro n h
    by_cases hn : n < 128
    · rw [vi_lt hn]; simp; omega
    · rw [vi_ge (by omega)] at h
      have := vi_pos (n / 128)
      simp at h; simp [h] at this
  | succ k ih =>
    intro n h
    by_cases hn : n < 128
    · rw [vi_lt hn] at h; simp at h
    · rw [vi_ge (by omega)] at h ⊢
      simp only [List.length_cons, Nat.add_right_cancel_iff] at h
      obtain ⟨h1, h2, h3⟩ := ih (n / 128) h
      refine ⟨?_, ?_, fun _ => ?_⟩
      · simp only [List.getD_cons_succ]
        rw [h1, Nat.div_div_eq_div_mul, Nat.pow_succ, Nat.mul_comm]
      · rw [Nat.div_lt_iff_lt_mul (by omega)] at h2
        rwa [Nat.pow_succ]
      · rcases Nat.eq_zero_or_pos k with rfl | hk
        · simp; omega
        · have := h3 hk
          rw [Nat.pow_succ]
          rw [Nat.le_div_iff_mul_le (by omega)] at this
          exact this

theorem vi_good {n : Nat} (hn : n < U64) (r : List Int) : badForm (vi n ++ r) = false := by
  unfold badForm lastOf
  rw [nsz_vi]
  obtain ⟨k, hk⟩ : ∃ k, (vi n).length = k + 1 := ⟨(vi n).length - 1, by have := vi_pos n; omega⟩
  have h10 := vi_len10 hn
  obtain ⟨h1, h2, h3⟩ := vi_last k n hk
  rw [hk, Nat.add_sub_cancel]
  have e : (vi n ++ r).getD k 0 = (vi n).getD k 0 := by
    simp only [List.getD_eq_getElem?_getD]
    rw [List.getElem?_append_left (by omega)]
  rw [e, h1]
  apply decide_eq_false
  rintro (⟨a, b⟩ | a | ⟨a, b⟩)
  · have h4 := h3 (by omega)
    have hp : 0 < 128 ^ k := Nat.pow_pos (by omega)
    have : 1 ≤ n / 128 ^ k := by rw [Nat.le_div_iff_mul_le hp]; omega
    omega
  · omega
  · obtain rfl : k = 9 := by omega
    have : n / 128 ^ 9 ≤ 1 := by
      have h9 : (128 : Nat) ^ 9 = 9223372036854775808 := by decide
      rw [h9]
      unfold U64 at hn
      omega
    omega

theorem numR_vi {n : Nat} (hn : n < U64) (r : List Int) (most : Nat) : numR (vi n ++ r) most = if most < n then (0, 0, 3) else (n, (vi n).length, 0) := by
  have hp := vi_pos n
  unfold numR
  rw [nsz_vi, if_neg (by omega), vi_good hn, if_neg (by simp), List.take_left, val_vi]

theorem textR_text {t : List Int} (ht : t.length < U64) (r : List Int) (most : Nat) :
    textR (vi t.length ++ t ++ r) most = if most < t.length then ([], vi t.length ++ t ++ r, 3) else (t, r, 0) := by
  unfold textR
  rw [List.append_assoc, numR_vi ht]
  by_cases h : most < t.length
  · simp [h]
  · rw [if_neg h, if_neg h]
    simp only [ne_eq, not_true_eq_false, if_false]
    rw [if_neg (by simp), List.drop_left]
    simp

theorem wholesR_wholes : ∀ (xs r : List Int), (∀ x ∈ xs, I32 x) → wholesR xs.length (wholes xs ++ r) = (xs, (wholes xs).length, 0)
  | [], r, _ => by simp [wholesR, wholes]
  | x :: xs, r, h => by
    have hx := h x (List.mem_cons_self ..)
    have ih := wholesR_wholes xs r fun y hy => h y (List.mem_cons_of_mem _ hy)
    have hf := foldI_lt hx
    have e : wholes (x :: xs) ++ r = vi (foldI x) ++ (wholes xs ++ r) := by simp [wholes]
    have hm : ¬ M64 < foldI x := by unfold U64 at hf; unfold M64; omega
    have h32 : ¬ 4294967295 < foldI x := by
      unfold I32 at hx; unfold foldI; split <;> omega
    have hu : unfI (foldI x) = x := by
      unfold I32 at hx
      unfold unfI foldI
      split
      · split <;> omega
      · split <;> omega
    simp only [List.length_cons, wholesR]
    rw [e, numR_vi hf, if_neg hm]
    simp only [ne_eq, not_true_eq_false, if_false, h32, List.drop_left, ih, hu]
    simp [wholes]

theorem vecR_vec {xs : List Int} (hx : ∀ x ∈ xs, I32 x) (hl : xs.length < U64) (r : List Int) (most : Nat) :
    vecR (vecB xs ++ r) most = if most < xs.length then ([], 0, 3) else (xs, (vecB xs).length, 0) := by
  unfold vecR vecB
  rw [List.append_assoc, numR_vi hl]
  by_cases h : most < xs.length
  · simp [h]
  · rw [if_neg h, if_neg h]
    simp only [ne_eq, not_true_eq_false, if_false, List.drop_left, wholesR_wholes xs r hx, ahead]
    simp

end Go.Proofs.Ytlambcmikfihgaa
