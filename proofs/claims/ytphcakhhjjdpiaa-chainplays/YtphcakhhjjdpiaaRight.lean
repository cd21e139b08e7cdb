/-
  The contracts of vec's Right and of ref03's Right: is a list of numbers a vector?
-/
import Derived.Test.YtphcakhhjjdpiaaMem
import Derived.Deep.QuietTactic
import Derived.BigQuiet
namespace Go.Proofs.Ytphcakhhjjdpiaa
open Go.RowKit

def okN (n : Int) : Bool := decide (-268435456 ≤ n) && decide (n ≤ 268435456)
def rightB (l : List Int) : Bool := decide (1 ≤ l.length) && decide (l.length ≤ 8) && l.all okN
/-- where the first number stands that is too great or too small; -1: nowhere -/
def badAt (l : List Int) : Int := if l.all okN = true then -1 else (l.findIdx (fun n => !okN n) : Nat)

theorem badAt_hit (l : List Int) (k : Nat) (h : k < l.length) (hno : ∀ j (hj : j < k), okN (l[j]'(by omega)) = true) (hk : okN l[k] = false) : badAt l = k := by
  unfold badAt
  have h1 : ¬ l.all okN = true := by
    intro h2
    rw [List.all_eq_true] at h2
    rw [h2 _ (List.getElem_mem h)] at hk
    cases hk
  have h3 : l.findIdx (fun n => !okN n) = k := by
    rw [List.findIdx_eq h]
    refine ⟨by simp [hk], fun j hj => by simp [hno j hj]⟩
  rw [if_neg h1, h3]
theorem badAt_miss (l : List Int) (hno : ∀ j (hj : j < l.length), okN l[j] = true) : badAt l = -1 := by
  unfold badAt
  rw [if_pos]
  rw [List.all_eq_true]
  intro x hx
  obtain ⟨j, hj, rfl⟩ := List.getElem_of_mem hx
  exact hno j hj
theorem badAt_sign (l : List Int) : decide (0 ≤ badAt l) = !(l.all okN) := by
  unfold badAt
  by_cases h : l.all okN = true
  · rw [if_pos h, h]; rfl
  · rw [if_neg h]; simp at h ⊢; exact h
theorem badAt_low (l : List Int) : -1 ≤ badAt l := by
  unfold badAt; split <;> omega

set_option maxHeartbeats 400000 in
theorem bad_any (n : Int) (w : World) : Calls Try.prog 33 #[.int .i32 n] w fun e w' => e = .returned (.bool (!okN n)) ∧ w = w' := by
  by_cases h1 : n < -268435456
  · have HF := Lib.hid (show okN n = false by unfold okN; simp; omega)
    go_enter Try.func33, Try.ntmps33
    go_wp2
    go_ret
    exact ⟨by rw [HF.out]; rfl, rfl⟩
  · by_cases h2 : 268435456 < n
    · have HF := Lib.hid (show okN n = false by unfold okN; simp; omega)
      go_enter Try.func33, Try.ntmps33
      go_wp2
      go_ret
      exact ⟨by rw [HF.out]; rfl, rfl⟩
    · have HF := Lib.hid (show okN n = true by unfold okN; simp; omega)
      go_enter Try.func33, Try.ntmps33
      go_wp2
      go_ret
      exact ⟨by rw [HF.out]; rfl, rfl⟩

set_option maxRecDepth 100000 in
set_option maxHeartbeats 400000 in
theorem indexBad_any (S : Nat → Prop) (A : Option Addr) (c : Nat) (l : List Int) (w : World) (hrow : Row S w A (i32s l)) (hl : l.length ≤ 70368744177664) :
    Calls Try.prog 34 #[.slice A l.length c, .func (.func 33) #[] #[]] w fun e w' => e = .returned (.int .i64 (badAt l)) ∧ w = w' := by
  go_enter Try.func34, Try.ntmps34
  go_wp2
  go_loop [5, 8] (fun _ i => ∃ k : Nat, k ≤ l.length ∧ i = .int .i64 k ∧ ∀ j (hj : j < k) (hjl : j < l.length), okN l[j] = true) (fun _ i => l.length - (intOf i).toNat)
  case atStart => exact ⟨0, Nat.zero_le _, rfl, fun j hj => by omega⟩
  case round =>
    obtain ⟨k, hk, rfl, hno⟩ := hrel
    have HN := Lib.hid hno
    clear hno
    by_cases hlt : k < l.length
    · obtain ⟨ad, rfl, _, _, hcell⟩ := hrow k (by rw [i32s_len]; exact hlt)
      rw [i32s_at hlt] at hcell
      have i1 : (k : Int) < (l.length : Int) := by omega
      have hcall := bad_any l[k] w
      cases hx : okN l[k] with
      | false =>
        have HR := Lib.hid (badAt_hit l k hlt (fun j hj => HN.out j hj (by omega)) hx)
        rw [hx] at hcall
        have HC := Lib.hid hcall
        clear hcall hx
        go_wp2_with (go_at_call 33; refine (HC.out).mono ?_; rintro e w' ⟨rfl, rfl⟩)
        go_ret
        exact ⟨by rw [HR.out]; rfl, rfl⟩
      | true =>
        have HX := Lib.hid hx
        rw [hx] at hcall
        have HC := Lib.hid hcall
        clear hcall hx
        go_wp2_with (go_at_call 33; refine (HC.out).mono ?_; rintro e w' ⟨rfl, rfl⟩)
        go_round
        case rel => exact ⟨k + 1, by omega, by go_num, fun j hj hjl => by
          rcases Nat.lt_or_ge j k with h1 | h1
          · exact HN.out j h1 hjl
          · obtain rfl : j = k := by omega
            exact HX.out⟩
        case measure => simp [intOf]; omega
    · have HR := Lib.hid (badAt_miss l (fun j hj => HN.out j (by omega) hj))
      go_wp2
      go_ret
      exact ⟨by rw [HR.out]; rfl, rfl⟩

set_option maxHeartbeats 400000 in
theorem contains_any (S : Nat → Prop) (A : Option Addr) (c : Nat) (l : List Int) (w : World) (hrow : Row S w A (i32s l)) (hl : l.length ≤ 70368744177664) :
    Calls Try.prog 32 #[.slice A l.length c, .func (.func 33) #[] #[]] w fun e w' => e = .returned (.bool (!(l.all okN))) ∧ w = w' := by
  have HC := Lib.hid (indexBad_any S A c l w hrow hl)
  have HS := Lib.hid (badAt_sign l)
  generalize badAt l = b at HC HS
  go_enter Try.func32, Try.ntmps32
  go_wp2_with (go_at_call 34; refine (HC.out).mono ?_; rintro e w' ⟨rfl, rfl⟩)
  go_ret
  exact ⟨by rw [← HS.out]; rfl, rfl⟩

set_option maxHeartbeats 400000 in
theorem right_any (S : Nat → Prop) (A : Option Addr) (c : Nat) (l : List Int) (w : World) (hrow : Row S w A (i32s l)) (hl : l.length ≤ 70368744177664) :
    Calls Try.prog 27 #[.slice A l.length c] w fun e w' => e = .returned (.bool (rightB l)) ∧ w = w' := by
  have HC := Lib.hid (contains_any S A c l w hrow hl)
  by_cases h1 : l.length < 1
  · have HF := Lib.hid (show rightB l = false by unfold rightB; simp; omega)
    have i1 : (l.length : Int) < 1 := by omega
    go_enter Try.func27, Try.ntmps27
    go_wp2_with fail
    go_ret
    exact ⟨by rw [HF.out]; rfl, rfl⟩
  · have i1 : ¬ (l.length : Int) < 1 := by omega
    by_cases h2 : 8 < l.length
    · have HF := Lib.hid (show rightB l = false by unfold rightB; simp; omega)
      have i2 : 8 < (l.length : Int) := by omega
      go_enter Try.func27, Try.ntmps27
      go_wp2_with fail
      go_ret
      exact ⟨by rw [HF.out]; rfl, rfl⟩
    · have HF := Lib.hid (show rightB l = l.all okN by unfold rightB; simp; omega)
      have i2 : ¬ 8 < (l.length : Int) := by omega
      generalize l.all okN = b at HC HF
      go_enter Try.func27, Try.ntmps27
      go_wp2_with (go_at_call 32; refine (HC.out).mono ?_; rintro e w' ⟨rfl, rfl⟩)
      go_ret
      exact ⟨by rw [HF.out]; simp, rfl⟩

set_option maxRecDepth 100000 in
set_option maxHeartbeats 400000 in
theorem refRight_any (S : Nat → Prop) (A : Option Addr) (c : Nat) (l : List Int) (w : World) (hrow : Row S w A (i32s l)) (hl : l.length ≤ 70368744177664) :
    Calls Try.prog 29 #[.slice A l.length c] w fun e w' => e = .returned (.bool (rightB l)) ∧ w = w' := by
  go_enter Try.func29, Try.ntmps29
  go_wp2
  go_loop [4, 7] (fun _ i => ∃ k : Nat, k ≤ l.length ∧ i = .int .i64 k ∧ ∀ j (hj : j < k) (hjl : j < l.length), okN l[j] = true) (fun _ i => l.length - (intOf i).toNat)
  case atStart => exact ⟨0, Nat.zero_le _, rfl, fun j hj => by omega⟩
  case round =>
    obtain ⟨k, hk, rfl, hno⟩ := hrel
    have HN := Lib.hid hno
    clear hno
    by_cases hlt : k < l.length
    · obtain ⟨ad, rfl, _, _, hcell⟩ := hrow k (by rw [i32s_len]; exact hlt)
      rw [i32s_at hlt] at hcell
      have i1 : (k : Int) < (l.length : Int) := by omega
      have hbad : okN l[k] = false → rightB l = false := fun h => by
        unfold rightB
        have : l.all okN = false := by
          rw [List.all_eq_false]
          exact ⟨_, List.getElem_mem hlt, by simp [h]⟩
        rw [this, Bool.and_false]
      by_cases g1 : 268435456 < l[k]
      · have HR := Lib.hid (hbad (by unfold okN; simp; omega))
        clear hbad
        go_wp2_with fail
        go_ret
        exact ⟨by rw [HR.out]; rfl, rfl⟩
      · by_cases g2 : l[k] < -268435456
        · have HR := Lib.hid (hbad (by unfold okN; simp; omega))
          clear hbad
          go_wp2_with fail
          go_ret
          exact ⟨by rw [HR.out]; rfl, rfl⟩
        · have HX := Lib.hid (show okN l[k] = true by unfold okN; simp; omega)
          clear hbad
          go_wp2_with fail
          go_round
          case rel => exact ⟨k + 1, by omega, by go_num, fun j hj hjl => by
            rcases Nat.lt_or_ge j k with h1 | h1
            · exact HN.out j h1 hjl
            · obtain rfl : j = k := by omega
              exact HX.out⟩
          case measure => simp [intOf]; omega
    · have hall : l.all okN = true := by
        rw [List.all_eq_true]
        intro x hx
        obtain ⟨j, hj, rfl⟩ := List.getElem_of_mem hx
        exact HN.out j (by omega) hj
      have HR := Lib.hid (show rightB l = (decide (1 ≤ l.length) && decide (l.length ≤ 8)) by unfold rightB; rw [hall, Bool.and_true])
      clear hall
      have i1 : ¬ (k : Int) < (l.length : Int) := by omega
      by_cases h1 : 1 ≤ l.length
      · have j1 : (1 : Int) ≤ (l.length : Int) := by omega
        by_cases h2 : l.length ≤ 8
        · have j2 : (l.length : Int) ≤ 8 := by omega
          have HV := Lib.hid (show rightB l = true by rw [HR.out]; simp [h1, h2])
          go_wp2_with fail
          go_ret
          exact ⟨by rw [HV.out]; rfl, rfl⟩
        · have j2 : ¬ (l.length : Int) ≤ 8 := by omega
          have HV := Lib.hid (show rightB l = false by rw [HR.out]; simp [h2])
          go_wp2_with fail
          go_ret
          exact ⟨by rw [HV.out]; rfl, rfl⟩
      · have j1 : ¬ (1 : Int) ≤ (l.length : Int) := by omega
        have HV := Lib.hid (show rightB l = false by rw [HR.out]; simp [h1])
        go_wp2_with fail
        go_ret
        exact ⟨by rw [HV.out]; rfl, rfl⟩

end Go.Proofs.Ytphcakhhjjdpiaa
