/-
  The contract of numberSize.
-/
import Derived.Test.YtlambcmikfihgaaBytes
namespace Go.Proofs.Ytlambcmikfihgaa
open Go.RowKit

def Bytes8 (l : List Int) : Prop := ∀ x ∈ l, 0 ≤ x ∧ x < 256

set_option maxRecDepth 100000 in
set_option maxHeartbeats 400000 in
theorem numberSize_any (S : Nat → Prop) (A : Option Addr) (c : Nat) (l : List Int) (w : World) (hrow : Row S w A (u8s l)) (hl : l.length ≤ 70368744177664) :
    Calls Try.prog 32 #[.slice A l.length c] w fun e w' => e = .returned (.int .i64 (nsz l)) ∧ w = w' := by
  go_enter Try.func32, Try.ntmps32
  go_wp2
  go_loop [7] (fun i => ∃ k : Nat, k ≤ l.length ∧ i = .int .i64 k ∧ ∀ j (hj : j < k) (hjl : j < l.length), 128 ≤ l[j]) (fun i => l.length - (intOf i).toNat)
  case atStart => exact ⟨0, Nat.zero_le _, rfl, fun j hj => by omega⟩
  case round =>
    obtain ⟨k, hk, rfl, hno⟩ := hrel
    have HN := Lib.hid hno
    clear hno
    by_cases hlt : k < l.length
    · obtain ⟨ad, rfl, _, _, hcell⟩ := hrow k (by rw [u8s_len]; exact hlt)
      rw [u8s_at hlt] at hcell
      by_cases hx : l[k] < 128
      · have HR := Lib.hid (nsz_at l k hlt (fun j hj => HN.out j hj (by omega)) hx)
        go_wp2
        go_ret
        exact ⟨by rw [HR.out]; rfl, rfl⟩
      · go_wp2
        go_round
        case rel => exact ⟨k + 1, by omega, by go_num, fun j hj hjl => by
          rcases Nat.lt_or_ge j k with h1 | h1
          · exact HN.out j h1 hjl
          · obtain rfl : j = k := by omega
            omega⟩
        case measure => simp [intOf]; omega
    · have HR := Lib.hid (nsz_none l (fun j hj => HN.out j (by omega) hj))
      go_wp2
      go_ret
      exact ⟨by rw [HR.out]; rfl, rfl⟩

end Go.Proofs.Ytlambcmikfihgaa
