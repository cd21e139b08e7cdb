/-
  Plain facts on a number's bytes (varint): no program in it.
-/
namespace Go.Proofs.Ytlambcmikfihgaa

/-- A number's bytes: seven bits in each, the lowest first. -/
def vi (n : Nat) : List Int := if n < 128 then [(n : Int)] else ((n % 128 + 128 : Nat) : Int) :: vi (n / 128)
termination_by n

theorem vi_lt {n : Nat} (h : n < 128) : vi n = [(n : Int)] := by rw [vi, if_pos h]
theorem vi_ge {n : Nat} (h : 128 ≤ n) : vi n = ((n % 128 + 128 : Nat) : Int) :: vi (n / 128) := by rw [vi, if_neg (by omega)]

theorem vi_pos (n : Nat) : 0 < (vi n).length := by
  by_cases h : n < 128
  · rw [vi_lt h]; simp
  · rw [vi_ge (by omega)]; simp

theorem vi_len (k : Nat) : ∀ n, n < 128 ^ (k + 1) → (vi n).length ≤ k + 1 := by
  induction k with
  | zero => intro n h; rw [vi_lt (by simpa using h)]; simp
  | succ k ih =>
    intro n h
    by_cases hn : n < 128
    · rw [vi_lt hn]; simp
    · rw [vi_ge (by omega)]
      have := ih (n / 128) (by rw [Nat.div_lt_iff_lt_mul (by omega)]; rw [Nat.pow_succ] at h; omega)
      simp; omega

def U64 : Nat := 18446744073709551616
theorem vi_len10 {n : Nat} (h : n < U64) : (vi n).length ≤ 10 := vi_len 9 n (by unfold U64 at h; omega)
theorem flat_len : ∀ xs : List Nat, (∀ x ∈ xs, x < U64) → (xs.flatMap vi).length ≤ 10 * xs.length
  | [], _ => by simp
  | x :: r, h => by
    have h1 := vi_len10 (h x (List.mem_cons_self ..))
    have h2 := flat_len r fun y hy => h y (List.mem_cons_of_mem _ hy)
    simp only [List.flatMap_cons, List.length_append, List.length_cons]
    omega
theorem flat_take {xs : List Nat} {k : Nat} (h : k < xs.length) : (xs.take (k + 1)).flatMap vi = (xs.take k).flatMap vi ++ vi xs[k] := by
  rw [List.take_succ_eq_append_getElem h, List.flatMap_append]; simp

theorem vi_bytes (n : Nat) : ∀ x ∈ vi n, 0 ≤ x ∧ x < 256 := by
  induction n using Nat.strongRecOn with
  | ind n ih =>
    intro x hx
    by_cases h : n < 128
    · rw [vi_lt h] at hx; simp at hx; omega
    · rw [vi_ge (by omega)] at hx
      rcases List.mem_cons.1 hx with rfl | hx
      · omega
      · exact ih (n / 128) (by omega) x hx

/-- A whole number as one that isn't below 0. -/
def foldI (n : Int) : Nat := if n < 0 then (-2 * n - 1).toNat else (2 * n).toNat
def I32 (n : Int) : Prop := -2147483648 ≤ n ∧ n ≤ 2147483647
theorem foldI_lt {n : Int} (h : I32 n) : foldI n < U64 := by
  unfold I32 at h; unfold foldI U64; split <;> omega

/-- A vector's bytes. -/
def wholes (ys : List Int) : List Int := ys.flatMap fun n => vi (foldI n)
def vecB (ys : List Int) : List Int := vi ys.length ++ wholes ys

theorem wholes_len : ∀ ys : List Int, (∀ y ∈ ys, I32 y) → (wholes ys).length ≤ 10 * ys.length
  | [], _ => by simp [wholes]
  | y :: r, h => by
    have h1 := vi_len10 (foldI_lt (h y (List.mem_cons_self ..)))
    have h2 := wholes_len r fun z hz => h z (List.mem_cons_of_mem _ hz)
    unfold wholes at h2 ⊢
    simp only [List.flatMap_cons, List.length_append, List.length_cons]
    omega
theorem wholes_take {ys : List Int} {k : Nat} (h : k < ys.length) : wholes (ys.take (k + 1)) = wholes (ys.take k) ++ vi (foldI ys[k]) := by
  unfold wholes
  rw [List.take_succ_eq_append_getElem h, List.flatMap_append]; simp
theorem flatMap_take {α : Type} {f : α → List Int} {ys : List α} {k : Nat} (h : k < ys.length) : (ys.take (k + 1)).flatMap f = (ys.take k).flatMap f ++ f ys[k] := by
  rw [List.take_succ_eq_append_getElem h, List.flatMap_append]; simp

/-- how many bytes vectors have, at most -/
def bulkV (vss : List (List Int)) : Nat := (vss.map fun ys => 10 * ys.length + 10).sum
theorem vecB_len {ys : List Int} (h : ∀ y ∈ ys, I32 y) (hl : ys.length < U64) : (vecB ys).length ≤ 10 * ys.length + 10 := by
  have h1 := vi_len10 hl
  have h2 := wholes_len ys h
  unfold vecB
  rw [List.length_append]
  omega
theorem vecs_len : ∀ vss : List (List Int), (∀ ys ∈ vss, (∀ y ∈ ys, I32 y) ∧ ys.length < U64) → (vss.flatMap vecB).length ≤ bulkV vss
  | [], _ => by simp
  | ys :: r, h => by
    have h1 := vecB_len (h ys (List.mem_cons_self ..)).1 (h ys (List.mem_cons_self ..)).2
    have h2 := vecs_len r fun z hz => h z (List.mem_cons_of_mem _ hz)
    unfold bulkV at h2 ⊢
    simp only [List.flatMap_cons, List.length_append, List.map_cons, List.sum_cons]
    omega
theorem bulkV_take {vss : List (List Int)} {k : Nat} (h : k < vss.length) : bulkV (vss.take k) + (10 * (vss[k]).length + 10) ≤ bulkV vss := by
  have e : vss = vss.take k ++ vss[k] :: vss.drop (k + 1) := by rw [List.getElem_cons_drop, List.take_append_drop]
  conv => rhs; rw [e]
  unfold bulkV
  simp only [List.map_append, List.map_cons, List.sum_append, List.sum_cons]
  omega

/-- How many bytes the number in front has; 0: not all are there. -/
def nsz : List Int → Nat
  | [] => 0
  | x :: r => if x < 128 then 1 else if nsz r = 0 then 0 else nsz r + 1

theorem nsz_at : ∀ (l : List Int) (k : Nat) (h : k < l.length), (∀ j (hj : j < k), 128 ≤ l[j]'(by omega)) → l[k] < 128 → nsz l = k + 1
  | x :: r, 0, h, _, h2 => by simp at h2; simp [nsz, h2]
  | x :: r, k + 1, h, h1, h2 => by
    have hx : 128 ≤ x := by simpa using h1 0 (by omega)
    have := nsz_at r k (by simpa using h) (fun j hj => by simpa using h1 (j + 1) (by omega)) (by simpa using h2)
    simp only [nsz]
    rw [if_neg (by omega), this, if_neg (by omega)]
theorem nsz_none : ∀ (l : List Int), (∀ j (hj : j < l.length), 128 ≤ l[j]) → nsz l = 0
  | [], _ => rfl
  | x :: r, h1 => by
    have hx : 128 ≤ x := h1 0 (Nat.zero_lt_succ _)
    have := nsz_none r (fun j hj => h1 (j + 1) (Nat.succ_lt_succ hj))
    simp only [nsz]
    rw [if_neg (by omega), this, if_pos rfl]
theorem nsz_le : ∀ l : List Int, nsz l ≤ l.length
  | [] => by simp [nsz]
  | x :: r => by
    have := nsz_le r
    simp only [nsz, List.length_cons]
    split <;> try split
    all_goals omega

/-- What seven bits each make, the lowest first. -/
def val : List Int → Nat
  | [] => 0
  | x :: r => (x % 128).toNat + 128 * val r

/-- The last byte of the number in front. -/
def lastOf (l : List Int) : Int := l.getD (nsz l - 1) 0
/-- Its form isn't right. -/
def badForm (l : List Int) : Bool := decide (1 < nsz l ∧ lastOf l = 0 ∨ 10 < nsz l ∨ nsz l = 10 ∧ 1 < lastOf l)
/-- The number in front: it, how many bytes it has, the fault. -/
def numR (l : List Int) (most : Nat) : Nat × Nat × Int :=
  if nsz l = 0 then (0, 0, 2) else if badForm l = true then (0, 0, 4) else if most < val (l.take (nsz l)) then (0, 0, 3) else (val (l.take (nsz l)), nsz l, 0)

theorem numR_or (l : List Int) (most : Nat) : ((numR l most).2.2 ≠ 0 ∧ (numR l most).1 = 0 ∧ (numR l most).2.1 = 0) ∨ ((numR l most).2.2 = 0 ∧ (numR l most).2.1 ≤ l.length) := by
  have := nsz_le l
  unfold numR
  repeat' split
  all_goals simp
  exact this

theorem numR_le (l : List Int) (most : Nat) : (numR l most).1 ≤ most := by
  unfold numR
  repeat' split
  all_goals simp
  omega

/-- The text in front: it, what stands behind, the fault. -/
def textR (l : List Int) (most : Nat) : List Int × List Int × Int :=
  if (numR l most).2.2 ≠ 0 then ([], l, (numR l most).2.2)
  else if l.length - (numR l most).2.1 < (numR l most).1 then ([], l, 2)
  else ((l.drop (numR l most).2.1).take (numR l most).1, l.drop ((numR l most).2.1 + (numR l most).1), 0)

theorem val_append : ∀ (l r : List Int), val (l ++ r) = val l + 128 ^ l.length * val r
  | [], r => by simp [val]
  | x :: l, r => by
    simp only [List.cons_append, val, List.length_cons, val_append l r, Nat.pow_succ]
    rw [Nat.mul_add, ← Nat.mul_assoc, Nat.mul_comm 128 (128 ^ l.length)]
    omega
theorem val_lt : ∀ l : List Int, val l < 128 ^ l.length
  | [] => by simp [val]
  | x :: r => by
    have := val_lt r
    simp only [val, List.length_cons, Nat.pow_succ]
    omega
theorem val_take {l : List Int} {k : Nat} (h : k < l.length) : val (l.take (k + 1)) = val (l.take k) + 128 ^ k * (l[k] % 128).toNat := by
  rw [List.take_succ_eq_append_getElem h, val_append]
  simp [val, List.length_take, Nat.min_eq_left (Nat.le_of_lt h)]
theorem val_take_lt (l : List Int) (k : Nat) : val (l.take k) < 128 ^ k := by
  have h := val_lt (l.take k)
  have : 128 ^ (l.take k).length ≤ 128 ^ k := Nat.pow_le_pow_right (by omega) (List.length_take_le _ _)
  omega

end Go.Proofs.Ytlambcmikfihgaa
