/-
  A burst leaves a rest: what the sum makes of bits that are turned. No program in it.
-/
import Derived.Test.YtaihemmnpliehaaDoorCrc
import Derived.Test.YtaihemmnpliehaaDoorRef
namespace Go.Proofs.YtaihemmnpliehaaDoor

theorem Zn_add (a b c : Nat) : Zn (a + b) c = Zn a (Zn b c) := by
  induction a with
  | zero => simp [Zn]
  | succ a ih => rw [show a + 1 + b = (a + b) + 1 by omega]; simp only [Zn]; rw [ih]
theorem Zn_xor (k a b : Nat) : Zn k (a ^^^ b) = Zn k a ^^^ Zn k b := by
  induction k with
  | zero => rfl
  | succ k ih => simp only [Zn]; rw [ih, Z_xor]
theorem Zn_zero (k : Nat) : Zn k 0 = 0 := by
  induction k with
  | zero => rfl
  | succ k ih => simp only [Zn]; rw [ih]; rfl
theorem Zn_lt (k : Nat) {c : Nat} (h : c < 4294967296) : Zn k c < 4294967296 := by
  induction k with
  | zero => exact h
  | succ k ih => exact Z_lt ih
theorem Z_nonzero {c : Nat} (h : c < 4294967296) (h0 : c ≠ 0) : Z c ≠ 0 := by
  unfold Z
  by_cases h1 : c % 2 = 1
  · rw [if_pos h1]
    intro e
    have e2 : c / 2 = P32 := by
      have := congrArg (· ^^^ P32) e
      simp only [Nat.xor_assoc, Nat.xor_self, Nat.xor_zero, Nat.zero_xor] at this
      exact this
    unfold P32 at e2
    omega
  · rw [if_neg h1, Nat.xor_zero]
    omega
theorem Zn_nonzero (k : Nat) {c : Nat} (h : c < 4294967296) (h0 : c ≠ 0) : Zn k c ≠ 0 := by
  induction k with
  | zero => exact h0
  | succ k ih => exact Z_nonzero (Zn_lt k h) ih
theorem Zn_pow (i : Nat) : ∀ k, i ≤ k → Zn k (2 ^ i) = Zn (k - i) 1 := by
  induction i with
  | zero => intro k _; simp
  | succ i ih =>
    intro k hk
    have e : Zn k (2 ^ (i + 1)) = Zn (k - 1) (2 ^ i) := by
      have e1 : Zn k (2 ^ (i + 1)) = Zn ((k - 1) + 1) (2 ^ (i + 1)) := by rw [show k - 1 + 1 = k by omega]
      rw [e1, Zn_add]
      show Zn (k - 1) (Z (2 ^ (i + 1))) = _
      rw [Nat.pow_succ, Nat.mul_comm, Z_even]
    rw [e, ih (k - 1) (by omega)]
    congr 1
    omega
theorem Z8_Zn (c : Nat) : Z8 c = Zn 8 c := rfl

/-- what stands in the register goes on by itself -/
theorem crc_far (d : Nat) : ∀ (l : List Int) (c : Nat), crc (c ^^^ d) l = crc c l ^^^ Zn (8 * l.length) d
  | [], c => rfl
  | x :: l, c => by
    show crc (crcB (c ^^^ d) x) l = crc (crcB c x) l ^^^ _
    have e : crcB (c ^^^ d) x = crcB c x ^^^ Zn 8 d := by
      unfold crcB
      rw [Z8_Zn, Z8_Zn, Nat.xor_assoc, Nat.xor_comm d, ← Nat.xor_assoc, Zn_xor]
    rw [e, crc_far (Zn 8 d) l, List.length_cons, show 8 * (l.length + 1) = 8 * l.length + 8 by omega, Zn_add]

/-- one bit turned -/
def flip (l : List Int) (k : Nat) : List Int := l.set (k / 8) (((l.getD (k / 8) 0).toNat ^^^ 2 ^ (k % 8) : Nat) : Int)
theorem flip_len (l : List Int) (k : Nat) : (flip l k).length = l.length := by simp [flip]
theorem flip_crc (l : List Int) (k c : Nat) (hk : k < 8 * l.length) : crc c (flip l k) = crc c l ^^^ Zn (8 * l.length - k) 1 := by
  have hq : k / 8 < l.length := by omega
  have hl : l = l.take (k / 8) ++ l[k / 8] :: l.drop (k / 8 + 1) := by
    rw [← List.drop_eq_getElem_cons hq, List.take_append_drop]
  have hf : flip l k = l.take (k / 8) ++ (((l[k / 8]).toNat ^^^ 2 ^ (k % 8) : Nat) : Int) :: l.drop (k / 8 + 1) := by
    unfold flip
    rw [List.set_eq_take_append_cons_drop, if_pos hq]
    simp [hq]
  rw [hf, crc_append]
  conv => rhs; rw [show crc c l = crc c (l.take (k / 8) ++ l[k / 8] :: l.drop (k / 8 + 1)) by rw [← hl]]
  rw [crc_append]
  generalize crc c (l.take (k / 8)) = s
  show crc (crcB s _) _ = crc (crcB s _) _ ^^^ _
  have e : crcB s (((l[k / 8]).toNat ^^^ 2 ^ (k % 8) : Nat) : Int) = crcB s l[k / 8] ^^^ Zn (8 - k % 8) 1 := by
    unfold crcB
    rw [Int.toNat_natCast, ← Nat.xor_assoc, Z8_Zn, Z8_Zn, Zn_xor, Zn_pow _ _ (by omega)]
  rw [e, crc_far, ← Zn_add, List.length_drop]
  congr 2
  omega

/-- a pattern's bits turned, up to the i-th -/
def turnTo (l : List Int) (at_ pat : Nat) : Nat → List Int
  | 0 => l
  | i + 1 => if pat.testBit i = true ∧ at_ + i < 8 * l.length then flip (turnTo l at_ pat i) (at_ + i) else turnTo l at_ pat i
theorem turnTo_len (l : List Int) (at_ pat : Nat) : ∀ i, (turnTo l at_ pat i).length = l.length
  | 0 => rfl
  | i + 1 => by
    simp only [turnTo]
    split
    · rw [flip_len]; exact turnTo_len l at_ pat i
    · exact turnTo_len l at_ pat i
/-- the pattern as far as it is turned -/
def cutPat (m pat : Nat) : Nat → Nat
  | 0 => 0
  | i + 1 => if pat.testBit i = true ∧ i < m then cutPat m pat i ^^^ 2 ^ i else cutPat m pat i
theorem cutPat_lt (m pat : Nat) : ∀ i, cutPat m pat i < 2 ^ i
  | 0 => by simp [cutPat]
  | i + 1 => by
    have ih := cutPat_lt m pat i
    have h1 : 2 ^ i < 2 ^ (i + 1) := Nat.pow_lt_pow_right (by omega) (by omega)
    simp only [cutPat]
    split
    · exact Nat.xor_lt_two_pow (by omega) h1
    · omega
theorem cutPat_odd (m pat : Nat) (hm : 0 < m) (hp : pat.testBit 0 = true) : ∀ i, (cutPat m pat (i + 1)) % 2 = 1
  | 0 => by simp [cutPat, hp, hm]
  | i + 1 => by
    have ih := cutPat_odd m pat hm hp i
    have e : cutPat m pat (i + 1 + 1) = if pat.testBit (i + 1) = true ∧ i + 1 < m then cutPat m pat (i + 1) ^^^ 2 ^ (i + 1) else cutPat m pat (i + 1) := rfl
    rw [e]
    split
    · rw [show (cutPat m pat (i + 1) ^^^ 2 ^ (i + 1)) % 2 = (cutPat m pat (i + 1) % 2) ^^^ (2 ^ (i + 1) % 2) from Nat.xor_mod_two_pow (n := 1), ih, show 2 ^ (i + 1) % 2 = 0 by rw [Nat.pow_succ]; omega]; rfl
    · exact ih
theorem turnTo_crc (l : List Int) (at_ pat c : Nat) (hat : at_ < 8 * l.length) : ∀ i, crc c (turnTo l at_ pat i) = crc c l ^^^ Zn (8 * l.length - at_) (cutPat (8 * l.length - at_) pat i)
  | 0 => by simp [turnTo, cutPat, Zn_zero]
  | i + 1 => by
    have ih := turnTo_crc l at_ pat c hat i
    have e : (pat.testBit i = true ∧ at_ + i < 8 * l.length) ↔ (pat.testBit i = true ∧ i < 8 * l.length - at_) := ⟨fun h => ⟨h.1, by omega⟩, fun h => ⟨h.1, by omega⟩⟩
    simp only [turnTo, cutPat]
    by_cases h : pat.testBit i = true ∧ at_ + i < 8 * l.length
    · rw [if_pos h, if_pos (e.1 h), flip_crc _ _ _ (by rw [turnTo_len]; exact h.2), ih, turnTo_len, Nat.xor_assoc, Zn_xor, Zn_pow _ _ (by omega), show 8 * l.length - (at_ + i) = 8 * l.length - at_ - i by omega]
    · rw [if_neg h, if_neg (fun h' => h (e.2 h')), ih]

/-- EVERY BURST IS FOUND. -/
theorem burst (l : List Int) (at_ pat c : Nat) (hat : at_ < 8 * l.length) (hp : pat.testBit 0 = true) : crc c (turnTo l at_ pat 32) ≠ crc c l := by
  rw [turnTo_crc l at_ pat c hat 32]
  intro e
  have h0 : Zn (8 * l.length - at_) (cutPat (8 * l.length - at_) pat 32) = 0 := by
    have := congrArg (crc c l ^^^ ·) e
    simp only [← Nat.xor_assoc, Nat.xor_self, Nat.zero_xor] at this
    exact this
  exact Zn_nonzero _ (cutPat_lt _ pat 32) (fun e' => by have := cutPat_odd (8 * l.length - at_) pat (by omega) hp 31; rw [e'] at this; omega) h0

end Go.Proofs.YtaihemmnpliehaaDoor
