/-
  The contract of saidSum.
-/
import Derived.Test.YtaihemmnpliehaaDoorEnd
namespace Go.Proofs.YtaihemmnpliehaaDoor
open Go.RowKit

/-- the first k of four bytes, as a number -/
def said4 (p : List Int) : Nat → Nat
  | 0 => 0
  | k + 1 => said4 p k + 256 ^ k * (p.getD k 0).toNat

theorem said4_lt {p : List Int} (h8 : Bytes8 p) : ∀ k, said4 p k < 256 ^ k
  | 0 => by simp [said4]
  | k + 1 => by
    have h := said4_lt h8 k
    have hx : (p.getD k 0).toNat < 256 := by
      rw [List.getD_eq_getElem?_getD]
      rcases Nat.lt_or_ge k p.length with h1 | h1
      · rw [List.getElem?_eq_getElem h1]; have := h8 _ (List.getElem_mem h1); simp; omega
      · rw [List.getElem?_eq_none h1]; simp
    simp only [said4, Nat.pow_succ]
    have : 256 ^ k * (p.getD k 0).toNat ≤ 256 ^ k * 255 := Nat.mul_le_mul_left _ (by omega)
    omega

theorem or_step {a b k : Nat} (ha : a < 256 ^ k) (hb : b < 256) (hk : k < 4) : bits BinOp.or IntKind.u32 (a : Int) ((b : Int) * 2 ^ (8 * k) % 4294967296) = ((a + 256 ^ k * b : Nat) : Int) := by
  have hp : (256 : Nat) ^ k = 2 ^ (8 * k) := by rw [show 256 = 2 ^ 8 from rfl, ← Nat.pow_mul]
  have h32 : 2 ^ (8 * k) * b < 4294967296 := by
    have h1 : 2 ^ (8 * k) ≤ 2 ^ 24 := Nat.pow_le_pow_right (by omega) (by omega)
    have h2 : 2 ^ (8 * k) * b ≤ 2 ^ 24 * 255 := Nat.mul_le_mul h1 (by omega)
    have h3 : (2 : Nat) ^ 24 * 255 < 4294967296 := by decide
    omega
  have e : ((b : Int) * 2 ^ (8 * k)) = ((2 ^ (8 * k) * b : Nat) : Int) := by push_cast; exact Int.mul_comm _ _
  have hw : ((2 ^ (8 * k) * b : Nat) : Int) % 4294967296 = ((2 ^ (8 * k) * b : Nat) : Int) := by
    generalize 2 ^ (8 * k) * b = m at *
    omega
  rw [hp] at ha ⊢
  have ha32 : a < 4294967296 := by
    have h1 : 2 ^ (8 * k) ≤ 2 ^ 24 := Nat.pow_le_pow_right (by omega) (by omega)
    have h3 : (2 : Nat) ^ 24 < 4294967296 := by decide
    omega
  rw [e, hw, u32_or_nat a _ ha32 h32, Nat.or_comm, ← Nat.two_pow_add_eq_or_of_lt ha b, Nat.add_comm]

set_option maxRecDepth 100000 in
set_option maxHeartbeats 800000 in
theorem saidSum_any (S : Nat → Prop) (A : Option Addr) (n c : Nat) (p : List Int) (w : World) (hn : p.length = n) (hrow : Row S w A (u8s p)) (h8 : Bytes8 p) (h4 : 4 ≤ n) :
    Calls Tryd.prog 29 #[.slice A n c] w fun e w' => e = .returned (.int .u32 ((said4 p 4 : Nat) : Int)) ∧ w = w' := by
  go_enter Tryd.func29, Tryd.ntmps29
  go_wp2
  go_loop [3, 5] (fun s i => ∃ k : Nat, k ≤ 4 ∧ i = .int .i64 k ∧ s = .int .u32 ((said4 p k : Nat) : Int)) (fun _ i => 4 - (intOf i).toNat)
  case atStart => exact ⟨0, Nat.zero_le _, rfl, rfl⟩
  case round =>
    obtain ⟨k, hk, rfl, rfl⟩ := hrel
    by_cases hlt : k < 4
    · have hkl : k < p.length := by omega
      obtain ⟨ad, rfl, _, _, hcell⟩ := hrow k (by rw [u8s_len]; exact hkl)
      rw [u8s_at hkl] at hcell
      have hx := h8 _ (List.getElem_mem hkl)
      obtain ⟨b, hb⟩ := Int.eq_ofNat_of_zero_le hx.1
      have hnx : said4 p (k + 1) = said4 p k + 256 ^ k * b := by
        simp only [said4]
        rw [List.getD_eq_getElem?_getD, List.getElem?_eq_getElem hkl, Option.getD_some, hb, Int.toNat_natCast]
      rw [hb] at hcell hx
      have hor := or_step (said4_lt h8 k) (show b < 256 by omega) hlt
      rw [← hnx] at hor
      generalize hs1 : said4 p (k + 1) = s1 at *
      generalize said4 p k = s0 at *
      have HS1 := Lib.hid hs1
      have HOR := Lib.hid hor
      clear hb hnx hs1 hor
      go_wp2_with fail
      go_round
      case rel => exact ⟨k + 1, by omega, by go_num, by rw [HOR.out, HS1.out]⟩
      case measure => simp [intOf]; omega
    · obtain rfl : k = 4 := by omega
      go_wp2_with fail
      go_ret
      exact ⟨rfl, rfl⟩

end Go.Proofs.YtaihemmnpliehaaDoor
