/-
  Plain facts on bits: what number's loop adds.
-/
import Derived.Test.YtlambcmikfihgaaMath
import Derived.WalkKit
import Derived.Laws.BitsAllLaws
namespace Go.Proofs.Ytlambcmikfihgaa
open Go.RowKit

theorem pow128 (k : Nat) : 128 ^ k = 2 ^ (7 * k) := by rw [Nat.pow_mul]

theorem wrap_u64_small (n : Nat) (h : n < U64) : IntKind.u64.wrap (n : Int) = n := by
  unfold U64 at h
  simp [IntKind.wrap, IntKind.bits, IntKind.signed]
  omega

theorem andNot128 (x : Int) (h1 : 0 ≤ x) (h2 : x < 256) : bits BinOp.andNot IntKind.u8 x 128 = (((x % 128).toNat : Nat) : Int) := by
  have h : ∀ k : Fin 256, bits BinOp.andNot IntKind.u8 (k.val : Int) 128 = (((k.val : Int) % 128).toNat : Int) := by decide +kernel
  have := h ⟨x.toNat, by omega⟩
  simp only at this
  rwa [show ((x.toNat : Nat) : Int) = x by omega] at this

theorem shifted_lt (k c : Nat) (hk : k ≤ 9) (hc : c < 128) (h9 : k = 9 → c ≤ 1) : 2 ^ (7 * k) * c < U64 := by
  unfold U64
  have hc1 : k ≤ 8 ∨ k = 9 := by omega
  rcases hc1 with h | rfl
  · have h1 : 2 ^ (7 * k) ≤ 2 ^ 56 := Nat.pow_le_pow_right (by omega) (by omega)
    have h2 : 2 ^ (7 * k) * c ≤ 2 ^ 56 * 127 := Nat.mul_le_mul h1 (by omega)
    have h3 : (2 : Nat) ^ 56 * 127 < 18446744073709551616 := by decide
    omega
  · have := h9 rfl
    have h2 : 2 ^ (7 * 9) * c ≤ 2 ^ 63 * 1 := Nat.mul_le_mul (by decide) this
    have h3 : (2 : Nat) ^ 63 * 1 < 18446744073709551616 := by decide
    omega

theorem orStep (n k : Nat) (x : Int) (hn : n < 128 ^ k) (hk : k ≤ 9) (h1 : 0 ≤ x) (h2 : x < 256) (h9 : k = 9 → (x % 128).toNat ≤ 1) :
    bits BinOp.or IntKind.u64 (n : Int) (IntKind.u64.wrap (IntKind.u64.wrap (bits BinOp.andNot IntKind.u8 x 128) * 2 ^ (7 * k))) = ((n + 128 ^ k * (x % 128).toNat : Nat) : Int) := by
  rw [andNot128 x h1 h2]
  have hc : (x % 128).toNat < 128 := by omega
  generalize (x % 128).toNat = c at *
  rw [wrap_u64_small c (by unfold U64; omega)]
  have hlt := shifted_lt k c hk hc h9
  have e : ((c : Int) * 2 ^ (7 * k)) = ((2 ^ (7 * k) * c : Nat) : Int) := by
    push_cast; exact Int.mul_comm _ _
  rw [e, wrap_u64_small _ hlt, pow128]
  rw [pow128] at hn
  have hn64 : n < 18446744073709551616 := by
    have : 2 ^ (7 * k) ≤ 2 ^ 63 := Nat.pow_le_pow_right (by omega) (by omega)
    have h3 : (2 : Nat) ^ 63 < 18446744073709551616 := by decide
    omega
  rw [u64_or_nat n _ hn64 (by unfold U64 at hlt; exact hlt), Nat.or_comm, ← Nat.two_pow_add_eq_or_of_lt hn c, Nat.add_comm]

end Go.Proofs.Ytlambcmikfihgaa
