/-
  The contract of number.
-/
import Derived.Test.YtlambcmikfihgaaSize
import Derived.Test.YtlambcmikfihgaaBits
namespace Go.Proofs.Ytlambcmikfihgaa
open Go.RowKit

theorem lastOf_at {l : List Int} {s : Nat} (hs : nsz l = s) (h : s - 1 < l.length) : lastOf l = l[s - 1] := by
  unfold lastOf
  rw [hs, List.getD_eq_getElem?_getD, List.getElem?_eq_getElem h]; rfl

set_option maxRecDepth 100000 in
set_option maxHeartbeats 400000 in
theorem number_short (S : Nat → Prop) (A : Option Addr) (c most : Nat) (l : List Int) (w : World) (hrow : Row S w A (u8s l)) (hl : l.length ≤ 70368744177664) (h0 : nsz l = 0) :
    Calls Try.prog 29 #[.slice A l.length c, .int .u64 most] w fun e w' => e = .returned (.tuple #[.int .u64 0, .int .i64 0, .int .i64 2]) ∧ w = w' := by
  have H0 := Lib.hid h0
  clear h0
  go_enter Try.func29, Try.ntmps29
  go_wp2_with fail
  refine (numberSize_any S A c l _ hrow hl).mono ?_
  rintro e w1 ⟨rfl, rfl⟩
  rw [H0.out]
  go_wp2_with fail
  go_ret3
  exact ⟨rfl, rfl⟩

set_option maxRecDepth 100000 in
set_option maxHeartbeats 400000 in
theorem number_form (S : Nat → Prop) (A : Option Addr) (c most s : Nat) (l : List Int) (w : World) (hrow : Row S w A (u8s l)) (hl : l.length ≤ 70368744177664) (hs : nsz l = s) (h0 : 0 < s) (hb : badForm l = true) :
    Calls Try.prog 29 #[.slice A l.length c, .int .u64 most] w fun e w' => e = .returned (.tuple #[.int .u64 0, .int .i64 0, .int .i64 4]) ∧ w = w' := by
  have hsl : s ≤ l.length := by rw [← hs]; exact nsz_le l
  have hlt : s - 1 < l.length := by omega
  have hla := lastOf_at hs hlt
  have hb' : 1 < s ∧ l[s - 1] = 0 ∨ 10 < s ∨ s = 10 ∧ 1 < l[s - 1] := by
    have := of_decide_eq_true hb
    rwa [hs, hla] at this
  obtain ⟨ad, rfl, _, _, hcell⟩ := hrow (s - 1) (by rw [u8s_len]; exact hlt)
  rw [u8s_at hlt] at hcell
  clear hla hb
  have HS := Lib.hid hs
  clear hs
  obtain ⟨x, hx⟩ : ∃ x, x = l[s - 1] := ⟨_, rfl⟩
  rw [← hx] at hcell hb'
  clear hx
  have hz : ((s : Int) == 0) = false := by simp; omega
  go_enter Try.func29, Try.ntmps29
  go_wp2_with fail
  refine (numberSize_any S (some ad) c l _ hrow hl).mono ?_
  rintro e w1 ⟨rfl, rfl⟩
  rw [HS.out]
  go_wp2_with fail
  all_goals (go_ret3; exact ⟨rfl, rfl⟩)

/-- what the rest says: too much, or it -/
def valR (n s most : Nat) : Value := if most < n then .tuple #[.int .u64 0, .int .i64 0, .int .i64 3] else .tuple #[.int .u64 n, .int .i64 s, .int .i64 0]

set_option maxRecDepth 100000 in
set_option maxHeartbeats 800000 in
theorem number_good (S : Nat → Prop) (A : Option Addr) (c most s : Nat) (l : List Int) (w : World) (hrow : Row S w A (u8s l)) (hl : l.length ≤ 70368744177664) (hc : l.length ≤ c) (h8 : Bytes8 l) (hs : nsz l = s) (h0 : 0 < s) (hb : badForm l = false) :
    Calls Try.prog 29 #[.slice A l.length c, .int .u64 most] w fun e w' => e = .returned (valR (val (l.take s)) s most) ∧ w = w' := by
  have hsl : s ≤ l.length := by rw [← hs]; exact nsz_le l
  have hlt : s - 1 < l.length := by omega
  have hla := lastOf_at hs hlt
  have hb' : ¬ (1 < s ∧ l[s - 1] = 0 ∨ 10 < s ∨ s = 10 ∧ 1 < l[s - 1]) := by
    have := of_decide_eq_false hb
    rwa [hs, hla] at this
  obtain ⟨ad, rfl, _, _, hcell⟩ := hrow (s - 1) (by rw [u8s_len]; exact hlt)
  rw [u8s_at hlt] at hcell
  clear hla hb
  have HS := Lib.hid hs
  clear hs
  have hs10 : s ≤ 10 := by omega
  have HB := Lib.hid hb'
  have hz : ((s : Int) == 0) = false := by simp; omega
  obtain ⟨x, hx⟩ : ∃ x, x = l[s - 1] := ⟨_, rfl⟩
  rw [← hx] at hcell hb'
  clear hx
  have h3 : ((s : Int) ≤ 1 ∧ ((s : Int) == 10) = false) ∨ ((1 : Int) < s ∧ ((s : Int) == 10) = false ∧ (x == 0) = false) ∨ ((1 : Int) < s ∧ ((s : Int) == 10) = true ∧ (x == 0) = false ∧ decide (1 < x) = false) := by
    simp only [beq_eq_false_iff_ne, beq_iff_eq, decide_eq_false_iff_not]
    omega
  have g0 : decide ((10 : Int) < s) = false := by simp; omega
  clear hb'
  rcases h3 with ⟨g1, g2⟩ | ⟨g1, g2, g3⟩ | ⟨g1, g2, g3, g4⟩
  all_goals
    go_enter Try.func29, Try.ntmps29
    go_wp2_with fail
    refine (numberSize_any S (some ad) c l _ hrow hl).mono ?_
    rintro e w1 ⟨rfl, rfl⟩
    rw [HS.out]
    go_wp2_with fail
    clear g0 g1 g2
    try clear g3
    try clear g4
    go_loop [9, 43] (fun n i => ∃ k : Nat, k ≤ s ∧ i = .int .i64 k ∧ n = .int .u64 (val (l.take k))) (fun _ i => s - (intOf i).toNat)
    case atStart => exact ⟨0, Nat.zero_le _, rfl, rfl⟩
    case round =>
      obtain ⟨k, hk, rfl, rfl⟩ := hrel
      by_cases hks : k < s
      · have hkl : k < l.length := by omega
        obtain ⟨ad', e', _, _, hcell'⟩ := hrow k (by rw [u8s_len]; exact hkl)
        injection e' with e'
        subst e'
        rw [u8s_at hkl] at hcell'
        have h8k := h8 _ (List.getElem_mem hkl)
        have hst := orStep (val (l.take k)) k l[k] (val_take_lt l k) (by omega) h8k.1 h8k.2 (fun h => by
          have h1 := HB.out
          have h2 : l[k] = l[s - 1] := by congr 1; omega
          rw [h2]; omega)
        rw [← val_take hkl] at hst
        have HST := Lib.hid hst
        clear hst h8k
        go_wp2_with fail
        go_round
        case rel => exact ⟨k + 1, by omega, by go_num, by rw [HST.out]⟩
        case measure => simp [intOf]; omega
      · obtain rfl : s = k := by omega
        by_cases hm : val (l.take s) > most
        · go_wp2_with fail
          go_ret3
          exact ⟨by unfold valR; rw [if_pos hm]; rfl, rfl⟩
        · go_wp2_with fail
          go_ret3
          exact ⟨by unfold valR; rw [if_neg hm]; rfl, rfl⟩

def numV (l : List Int) (most : Nat) : Value := .tuple #[.int .u64 (numR l most).1, .int .i64 (numR l most).2.1, .int .i64 (numR l most).2.2]

theorem number_any (S : Nat → Prop) (A : Option Addr) (c most : Nat) (l : List Int) (w : World) (hrow : Row S w A (u8s l)) (hl : l.length ≤ 70368744177664) (hc : l.length ≤ c) (h8 : Bytes8 l) :
    Calls Try.prog 29 #[.slice A l.length c, .int .u64 most] w fun e w' => e = .returned (numV l most) ∧ w = w' := by
  by_cases h0 : nsz l = 0
  · refine (number_short S A c most l w hrow hl h0).mono fun e w' h => ⟨h.1.trans ?_, h.2⟩
    simp [numV, numR, h0]
  · cases hb : badForm l with
    | true =>
      refine (number_form S A c most (nsz l) l w hrow hl rfl (by omega) hb).mono fun e w' h => ⟨h.1.trans ?_, h.2⟩
      simp [numV, numR, h0, hb]
    | false =>
      refine (number_good S A c most (nsz l) l w hrow hl hc h8 rfl (by omega) hb).mono fun e w' h => ⟨h.1.trans ?_, h.2⟩
      by_cases hm : most < val (l.take (nsz l))
      · simp [numV, numR, h0, hb, hm, valR]
      · simp [numV, numR, h0, hb, hm, valR]

end Go.Proofs.Ytlambcmikfihgaa
