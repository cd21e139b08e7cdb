/-
  The contracts of vec's Home, of math/bits' Mul64 (its low half), of ref03's Home and gap.
-/
import Derived.Test.YtnpbfacmjmgfaaaRight
namespace Go.Proofs.Ytnpbfacmjmgfaaa
open Go.RowKit

def big (id : Nat) : Nat := id * 11400714819323198485 % 18446744073709551616
def hm (id n : Nat) : Nat := big id / 4294967296 % n
def homeI (id : Nat) (n : Int) : Int := if n < 1 then 0 else (hm id n.toNat : Nat)

theorem homeI_lo (id : Nat) (n : Int) : 0 ≤ homeI id n := by unfold homeI; split <;> omega
theorem homeI_hi (id : Nat) (n : Int) (h : 1 ≤ n) : homeI id n < n := by
  unfold homeI hm
  rw [if_neg (by omega)]
  have := Nat.mod_lt (big id / 4294967296) (show n.toNat > 0 by omega)
  omega

theorem ret_int {k : IntKind} {a b : Int} (h : a = b) : Ending.returned (.int k a) = .returned (.int k b) := by rw [h]
theorem ret_bool {a b : Bool} (h : a = b) : Ending.returned (.bool a) = .returned (.bool b) := by rw [h]
theorem wrap_nat (a : Nat) : IntKind.u64.wrap (a : Int) = ((a % 18446744073709551616 : Nat) : Int) := by rw [IntKind.wrap_u64]; omega
theorem big_wrap (id : Nat) : IntKind.u64.wrap ((id : Int) * 11400714819323198485) = (big id : Nat) := by
  have := wrap_nat (id * 11400714819323198485)
  rw [Int.natCast_mul] at this
  exact this
theorem hm_small (id k : Nat) : hm id k < 4294967296 := by
  unfold hm
  have h1 : big id < 18446744073709551616 := Nat.mod_lt _ (by decide)
  have h2 : big id / 4294967296 < 4294967296 := by omega
  exact Nat.lt_of_le_of_lt (Nat.mod_le _ _) h2
theorem home_wrap (id k : Nat) : wrap64 (((big id : Nat) / 4294967296 : Int).tmod k) = (hm id k : Nat) := by
  have h1 : (((big id : Nat) / 4294967296 : Int).tmod k) = ((hm id k : Nat) : Int) := by
    unfold hm
    rw [Int.tmod_eq_emod_of_nonneg (by omega), show ((big id : Nat) : Int) / 4294967296 = ((big id / 4294967296 : Nat) : Int) by omega]
    exact (Int.natCast_emod _ _).symm
  have h2 := hm_small id k
  rw [h1]
  unfold wrap64
  omega

def lo32 (x : Int) : Int := bits BinOp.and IntKind.u64 x 4294967295
def hi64 (x y : Nat) : Int :=
  IntKind.u64.wrap (IntKind.u64.wrap (IntKind.u64.wrap ((x : Int) / 4294967296 * ((y : Int) / 4294967296)) +
      IntKind.u64.wrap (IntKind.u64.wrap ((x : Int) / 4294967296 * lo32 y) + IntKind.u64.wrap (lo32 x * lo32 y) / 4294967296) / 4294967296) +
    IntKind.u64.wrap (lo32 (IntKind.u64.wrap (IntKind.u64.wrap ((x : Int) / 4294967296 * lo32 y) + IntKind.u64.wrap (lo32 x * lo32 y) / 4294967296)) + IntKind.u64.wrap (lo32 x * ((y : Int) / 4294967296))) / 4294967296)

set_option maxHeartbeats 400000 in
theorem mul64_any (x y : Nat) (w : World) (hx : x < 18446744073709551616) (hy : y < 18446744073709551616) :
    Calls Try.prog 26 #[.int .u64 (x : Int), .int .u64 (y : Int)] w fun e w' => e = .returned (.tuple #[.int .u64 (hi64 x y), .int .u64 ((x * y % 18446744073709551616 : Nat) : Int)]) ∧ w = w' := by
  go_enter Try.func26, Try.ntmps26
  go_wp2
  go_ret2
  exact ⟨rfl, rfl⟩

set_option maxHeartbeats 400000 in
theorem home_any (id : Nat) (n : Int) (w : World) (hid : id < 18446744073709551616) (h2 : n ≤ 9223372036854775807) :
    Calls Try.prog 20 #[.int .u64 (id : Int), .int .i64 n] w fun e w' => e = .returned (.int .i64 (homeI id n)) ∧ w = w' := by
  by_cases h : n < 1
  · have HV := Lib.hid (show homeI id n = 0 by unfold homeI; rw [if_pos h])
    go_enter Try.func20, Try.ntmps20
    go_wp2
    go_ret
    exact ⟨by rw [HV.out]; rfl, rfl⟩
  · obtain ⟨k, rfl⟩ := Int.eq_ofNat_of_zero_le (show 0 ≤ n by omega)
    have HV := Lib.hid (show homeI id k = (hm id k : Nat) by unfold homeI; rw [if_neg h, Int.toNat_natCast])
    have HW := Lib.hid (home_wrap id k)
    have HB := Lib.hid (big_wrap id)
    go_enter Try.func20, Try.ntmps20
    go_wp2
    go_ret
    exact ⟨ret_int (by rw [HV.out, ← HW.out, ← HB.out]), rfl⟩

set_option maxHeartbeats 400000 in
theorem refHome_any (id : Nat) (n : Int) (w : World) (hid : id < 18446744073709551616) (h2 : n ≤ 9223372036854775807) :
    Calls Try.prog 21 #[.int .u64 (id : Int), .int .i64 n] w fun e w' => e = .returned (.int .i64 (homeI id n)) ∧ w = w' := by
  by_cases h : n < 1
  · have HV := Lib.hid (show homeI id n = 0 by unfold homeI; rw [if_pos h])
    go_enter Try.func21, Try.ntmps21
    go_wp2_with fail
    go_ret
    exact ⟨by rw [HV.out]; rfl, rfl⟩
  · obtain ⟨k, rfl⟩ := Int.eq_ofNat_of_zero_le (show 0 ≤ n by omega)
    have HV := Lib.hid (show homeI id k = (hm id k : Nat) by unfold homeI; rw [if_neg h, Int.toNat_natCast])
    have HW := Lib.hid (home_wrap id k)
    have HC := Lib.hid (mul64_any id 11400714819323198485 w hid (by decide))
    have hb : big id < 18446744073709551616 := Nat.mod_lt _ (by decide)
    have HE : Hid (id * 11400714819323198485 % 18446744073709551616 = big id) := rfl
    rw [HE.out] at HC
    generalize hi64 id 11400714819323198485 = hh at HC
    generalize big id = bb at *
    go_enter Try.func21, Try.ntmps21
    go_wp2_with (go_at_call 26; refine (HC.out).mono ?_; rintro e w' ⟨rfl, rfl⟩)
    go_ret
    exact ⟨ret_int (by rw [HV.out, ← HW.out, Int.tmod_eq_emod_of_nonneg (by omega)]), rfl⟩

def gapN (a b : Int) : Nat := (a - b).natAbs
set_option maxHeartbeats 400000 in
theorem gap_any (a b : Int) (w : World) (ha : -268435456 ≤ a ∧ a ≤ 268435456) (hb : -268435456 ≤ b ∧ b ≤ 268435456) :
    Calls Try.prog 27 #[.int .i32 a, .int .i32 b] w fun e w' => e = .returned (.int .u64 ((gapN a b : Nat) : Int)) ∧ w = w' := by
  obtain ⟨a1, a2⟩ := ha
  obtain ⟨b1, b2⟩ := hb
  by_cases h : a < b
  · have HV := Lib.hid (show ((gapN a b : Nat) : Int) = b - a by unfold gapN; omega)
    go_enter Try.func27, Try.ntmps27
    go_wp2
    go_ret
    exact ⟨ret_int HV.out.symm, rfl⟩
  · have HV := Lib.hid (show ((gapN a b : Nat) : Int) = a - b by unfold gapN; omega)
    go_enter Try.func27, Try.ntmps27
    go_wp2
    go_ret
    exact ⟨ret_int HV.out.symm, rfl⟩

end Go.Proofs.Ytnpbfacmjmgfaaa
