/-
  The contract of (*Writer).Nums.
-/
import Derived.Test.YtlambcmikfihgaaNum
namespace Go.Proofs.Ytlambcmikfihgaa
open Go.RowKit

def u64s (xs : List Nat) : List Value := xs.map fun (n : Nat) => Value.int .u64 (n : Int)

theorem u64s_at {xs : List Nat} {k : Nat} (h : k < xs.length) : (u64s xs)[k]? = some (.int .u64 ((xs[k] : Nat) : Int)) := by simp [u64s, h]

set_option maxRecDepth 100000 in
set_option maxHeartbeats 400000 in
theorem nums_any (B b c : Nat) (v : Value) (l : List Int) (xs : List Nat) (A : Option Addr) (w : World) (hw : Wr w B b v l) (hr : Row (OffW b v) w A (u64s xs)) (hx : ∀ x ∈ xs, x < U64)
    (hl : l.length + 10 * xs.length ≤ 70368744177664) :
    Calls Try.prog 7 #[.pointer (some ⟨b, 0, none⟩), .slice A xs.length c] w fun e w' => e = .returned (.pointer (some ⟨b, 0, none⟩)) ∧ Wrote B b v w (l ++ xs.flatMap vi) w' := by
  go_enter Try.func7, Try.ntmps7
  go_wp2
  go_loopw [11] (fun i wr => ∃ k : Nat, k ≤ xs.length ∧ i = .int .i64 k ∧ Wrote B b v w (l ++ (xs.take k).flatMap vi) wr) (fun i _ => xs.length - (intOf i).toNat)
  case atStart => exact ⟨0, Nat.zero_le _, rfl, by simpa using Wrote.start hw⟩
  case round =>
    obtain ⟨k, hk, rfl, hwr⟩ := hrel
    by_cases hlt : k < xs.length
    · obtain ⟨v1, hw1, f1, t1⟩ := hwr
      obtain ⟨ad, rfl, _, _, hcell⟩ := (hr.wrote f1 t1) k (by simpa [u64s] using hlt)
      rw [u64s_at hlt] at hcell
      have hlen : ((xs.take k).flatMap vi).length ≤ 10 * k := by
        have := flat_len (xs.take k) fun x h => hx x (List.mem_of_mem_take h)
        rw [List.length_take] at this
        omega
      have hlen' : (l ++ (xs.take k).flatMap vi).length ≤ 70368744177664 := by rw [List.length_append]; omega
      have hxk : xs[k] < U64 := hx _ (List.getElem_mem hlt)
      go_wp2_with fail
      refine (num_any B b xs[k] v1 _ _ hw1 hxk hlen').mono ?_
      rintro e w2 ⟨rfl, hw2⟩
      go_wp2_with fail
      go_roundw
      case rel => exact ⟨k + 1, by omega, by go_num, by rw [flat_take hlt, ← List.append_assoc]; exact hw2.more f1 t1⟩
      case measure => simp [intOf]; omega
    · have hkl : k = xs.length := by omega
      rw [hkl, List.take_length] at hwr
      clear hkl
      go_wp2_with fail
      go_ret
      exact ⟨rfl, hwr⟩

end Go.Proofs.Ytlambcmikfihgaa
