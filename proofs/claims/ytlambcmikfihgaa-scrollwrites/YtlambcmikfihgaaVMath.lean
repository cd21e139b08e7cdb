/-
  Plain facts on vectors in bytes.
-/
import Derived.Test.YtlambcmikfihgaaMath
namespace Go.Proofs.Ytlambcmikfihgaa

/-- fold's way back -/
def unfI (n : Nat) : Int := if n % 2 = 1 then -((n / 2 : Nat) : Int) - 1 else ((n / 2 : Nat) : Int)

def M64 : Nat := 18446744073709551615

/-- So many whole numbers in front: they, how many bytes they have, the fault. -/
def wholesR : Nat → List Int → List Int × Nat × Int
  | 0, _ => ([], 0, 0)
  | k + 1, l =>
    if (numR l M64).2.2 ≠ 0 then ([], 0, (numR l M64).2.2)
    else if 4294967295 < (numR l M64).1 then ([], 0, 4)
    else if (wholesR k (l.drop (numR l M64).2.1)).2.2 ≠ 0 then ([], 0, (wholesR k (l.drop (numR l M64).2.1)).2.2)
    else (unfI (numR l M64).1 :: (wholesR k (l.drop (numR l M64).2.1)).1, (numR l M64).2.1 + (wholesR k (l.drop (numR l M64).2.1)).2.1, 0)

/-- xs, of d bytes, ahead of what is yet to come -/
def ahead (xs : List Int) (d : Nat) (r : List Int × Nat × Int) : List Int × Nat × Int := if r.2.2 ≠ 0 then ([], 0, r.2.2) else (xs ++ r.1, d + r.2.1, 0)

theorem wholesR_or (k : Nat) (l : List Int) : ((wholesR k l).2.2 ≠ 0 ∧ (wholesR k l).1 = [] ∧ (wholesR k l).2.1 = 0) ∨ (wholesR k l).2.2 = 0 := by
  cases k with
  | zero => simp [wholesR]
  | succ k =>
    simp only [wholesR]
    repeat' split
    all_goals simp_all

theorem ahead_nil (r : List Int × Nat × Int) (h : (r.2.2 ≠ 0 ∧ r.1 = [] ∧ r.2.1 = 0) ∨ r.2.2 = 0) : ahead [] 0 r = r := by
  obtain ⟨a, b, c⟩ := r
  unfold ahead
  rcases h with ⟨h, h1, h2⟩ | h
  · simp at h h1 h2; simp [h, h1, h2]
  · simp at h; simp [h]

theorem ahead_fault (xs : List Int) (d k : Nat) (l : List Int) (h : (numR l M64).2.2 ≠ 0) : ahead xs d (wholesR (k + 1) l) = ([], 0, (numR l M64).2.2) := by
  simp [ahead, wholesR, h]
theorem ahead_great (xs : List Int) (d k : Nat) (l : List Int) (h : (numR l M64).2.2 = 0) (h2 : 4294967295 < (numR l M64).1) : ahead xs d (wholesR (k + 1) l) = ([], 0, 4) := by
  simp [ahead, wholesR, h, h2]
theorem ahead_more (xs : List Int) (d k : Nat) (l : List Int) (h : (numR l M64).2.2 = 0) (h2 : ¬ 4294967295 < (numR l M64).1) :
    ahead xs d (wholesR (k + 1) l) = ahead (xs ++ [unfI (numR l M64).1]) (d + (numR l M64).2.1) (wholesR k (l.drop (numR l M64).2.1)) := by
  by_cases h3 : (wholesR k (l.drop (numR l M64).2.1)).2.2 = 0
  · simp only [ahead, wholesR, h, h2, h3]; simp [Nat.add_assoc]
  · simp only [ahead, wholesR, h, h2]; simp [h3]

/-- The vector in front. -/
def vecR (l : List Int) (most : Nat) : List Int × Nat × Int :=
  if (numR l most).2.2 ≠ 0 then ([], 0, (numR l most).2.2)
  else ahead [] (numR l most).2.1 (wholesR (numR l most).1 (l.drop (numR l most).2.1))

theorem ahead_or (xs : List Int) (d : Nat) (r : List Int × Nat × Int) : ((ahead xs d r).2.2 ≠ 0 ∧ (ahead xs d r).1 = [] ∧ (ahead xs d r).2.1 = 0) ∨ (ahead xs d r).2.2 = 0 := by
  unfold ahead
  split
  · left; simp_all
  · right; rfl
theorem vecR_or (l : List Int) (most : Nat) : ((vecR l most).2.2 ≠ 0 ∧ (vecR l most).1 = [] ∧ (vecR l most).2.1 = 0) ∨ (vecR l most).2.2 = 0 := by
  unfold vecR
  split
  · left; simp_all
  · exact ahead_or _ _ _
theorem wholesR_le : ∀ (k : Nat) (l : List Int), (wholesR k l).2.1 ≤ l.length
  | 0, l => by simp [wholesR]
  | k + 1, l => by
    have h1 := numR_or l M64
    have h2 := wholesR_le k (l.drop (numR l M64).2.1)
    rw [List.length_drop] at h2
    simp only [wholesR]
    split
    · simp
    · split
      · simp
      · split
        · simp
        · simp only
          have : (numR l M64).2.1 ≤ l.length := by rcases h1 with ⟨h, _⟩ | ⟨_, h⟩; contradiction; exact h
          omega
theorem vecR_le (l : List Int) (most : Nat) : (vecR l most).2.1 ≤ l.length := by
  have h1 := numR_or l most
  have h2 := wholesR_le (numR l most).1 (l.drop (numR l most).2.1)
  rw [List.length_drop] at h2
  unfold vecR
  split
  · simp
  · have : (numR l most).2.1 ≤ l.length := by rcases h1 with ⟨h, _⟩ | ⟨_, h⟩; contradiction; exact h
    unfold ahead
    split
    · simp
    · simp only; omega

theorem numR_pos (l : List Int) (most : Nat) (h : (numR l most).2.2 = 0) : 0 < (numR l most).2.1 := by
  revert h
  unfold numR
  repeat' split
  all_goals simp
  omega

theorem unfI_i32 {n : Nat} (h : n ≤ 4294967295) : I32 (unfI n) := by
  unfold unfI I32; split <;> omega

end Go.Proofs.Ytlambcmikfihgaa
