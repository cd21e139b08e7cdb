/-
  The contracts of vec's Dist and of ref03's Dist.
-/
import Derived.Test.YtnpbfacmjmgfaaaHome
namespace Go.Proofs.Ytnpbfacmjmgfaaa
open Go.RowKit

def sqI : List Int → List Int → Int
  | x :: xs, y :: ys => (x - y) * (x - y) + sqI xs ys
  | _, _ => 0

theorem sq_bd (d : Int) (h1 : -536870912 ≤ d) (h2 : d ≤ 536870912) : 0 ≤ d * d ∧ d * d ≤ 288230376151711744 := by
  have h3 : d * d = (d.natAbs * d.natAbs : Nat) := by rw [Int.natCast_mul, Int.natAbs_mul_self']
  have h4 : d.natAbs ≤ 536870912 := by omega
  have h5 : d.natAbs * d.natAbs ≤ 536870912 * 536870912 := Nat.mul_le_mul h4 h4
  rw [h3]
  omega
theorem okN_bd {n : Int} (h : okN n = true) : -268435456 ≤ n ∧ n ≤ 268435456 := by
  unfold okN at h; simpa using h
theorem sqI_bd : ∀ (a b : List Int), a.all okN = true → b.all okN = true → 0 ≤ sqI a b ∧ sqI a b ≤ 288230376151711744 * a.length
  | [], b, _, _ => by simp [sqI]
  | x :: a, [], _, _ => by simp [sqI]; omega
  | x :: a, y :: b, ha, hb => by
    simp only [List.all_cons, Bool.and_eq_true] at ha hb
    have h1 := okN_bd ha.1
    have h2 := okN_bd hb.1
    have h3 := sq_bd (x - y) (by omega) (by omega)
    have h4 := sqI_bd a b ha.2 hb.2
    simp only [sqI, List.length_cons]
    omega
theorem sqI_snoc : ∀ (a b : List Int) (x y : Int), a.length = b.length → sqI (a ++ [x]) (b ++ [y]) = sqI a b + (x - y) * (x - y)
  | [], [], x, y, _ => by simp [sqI]
  | [], z :: b, x, y, h => by simp at h
  | z :: a, [], x, y, h => by simp at h
  | u :: a, v :: b, x, y, h => by
    simp only [List.cons_append, sqI]
    rw [sqI_snoc a b x y (by simpa using h)]
    omega
theorem sqI_step (a b : List Int) (k : Nat) (ha : k < a.length) (hb : k < b.length) :
    sqI (a.take (k + 1)) (b.take (k + 1)) = sqI (a.take k) (b.take k) + (a[k] - b[k]) * (a[k] - b[k]) := by
  rw [List.take_succ_eq_append_getElem ha, List.take_succ_eq_append_getElem hb, sqI_snoc _ _ _ _ (by simp; omega)]
theorem all_take {l : List Int} (h : l.all okN = true) (k : Nat) : (l.take k).all okN = true := by
  rw [List.all_eq_true] at h ⊢
  exact fun x hx => h x (List.mem_of_mem_take hx)
theorem all_at {l : List Int} (h : l.all okN = true) (k : Nat) (hk : k < l.length) : -268435456 ≤ l[k] ∧ l[k] ≤ 268435456 := by
  rw [List.all_eq_true] at h
  exact okN_bd (h _ (List.getElem_mem hk))

def goodB (a b : List Int) : Bool := decide (a.length = b.length) && rightB a && rightB b
def distR (a b : List Int) : Value := if goodB a b = true then .tuple #[.int .u64 (sqI a b), .int .i64 0] else .tuple #[.int .u64 0, .int .i64 4]

theorem rightB_parts {l : List Int} (h : rightB l = true) : 1 ≤ l.length ∧ l.length ≤ 8 ∧ l.all okN = true := by
  unfold rightB at h
  simp only [Bool.and_eq_true, decide_eq_true_eq] at h
  exact ⟨h.1.1, h.1.2, h.2⟩

set_option maxRecDepth 100000 in
set_option maxHeartbeats 1000000 in
theorem dist_any (S T : Nat → Prop) (A B : Option Addr) (c d : Nat) (l m : List Int) (w : World) (h1 : Row S w A (i32s l)) (h2 : Row T w B (i32s m)) (hl : l.length ≤ 70368744177664) (hm : m.length ≤ 70368744177664) :
    Calls Try.prog 13 #[.slice A l.length c, .slice B m.length d] w fun e w' => e = .returned (distR l m) ∧ w = w' := by
  have HA := Lib.hid (right_any S A c l w h1 hl)
  have HB := Lib.hid (right_any T B d m w h2 hm)
  by_cases hne : l.length = m.length
  · have hne' : ((l.length : Int) != (m.length : Int)) = false := by simp [hne]
    have HN := Lib.hid hne
    clear hne
    cases ra : rightB l with
    | false =>
      have HV := Lib.hid (show distR l m = .tuple #[.int .u64 0, .int .i64 4] by unfold distR goodB; simp [ra])
      rw [ra] at HA
      clear ra
      go_enter Try.func13, Try.ntmps13
      go_wp2_with (go_at_call 15; refine (HA.out).mono ?_; rintro e w' ⟨rfl, rfl⟩)
      go_ret2
      exact ⟨by rw [HV.out]; rfl, rfl⟩
    | true =>
      cases rb : rightB m with
      | false =>
        have HV := Lib.hid (show distR l m = .tuple #[.int .u64 0, .int .i64 4] by unfold distR goodB; simp [rb])
        rw [ra] at HA
        rw [rb] at HB
        clear ra rb
        go_enter Try.func13, Try.ntmps13
        go_wp2_with (go_at_call 15; first | (with_reducible refine (HA.out).mono ?_; rintro e w' ⟨rfl, rfl⟩) | (with_reducible refine (HB.out).mono ?_; rintro e w' ⟨rfl, rfl⟩))
        go_ret2
        exact ⟨by rw [HV.out]; rfl, rfl⟩
      | true =>
        have HV := Lib.hid (show distR l m = .tuple #[.int .u64 (sqI l m), .int .i64 0] by unfold distR goodB; simp [ra, rb, HN.out])
        obtain ⟨_, l8, la⟩ := rightB_parts ra
        obtain ⟨_, m8, ma⟩ := rightB_parts rb
        have HLA := Lib.hid la
        have HMA := Lib.hid ma
        rw [ra] at HA
        rw [rb] at HB
        clear ra rb la ma
        go_enter Try.func13, Try.ntmps13
        go_wp2_with (go_at_call 15; first | (with_reducible refine (HA.out).mono ?_; rintro e w' ⟨rfl, rfl⟩) | (with_reducible refine (HB.out).mono ?_; rintro e w' ⟨rfl, rfl⟩))
        go_loop [6, 7, 8, 9, 27] (fun s _ _ _ i => ∃ k : Nat, k ≤ l.length ∧ i = .int .i64 k ∧ s = .int .u64 (sqI (l.take k) (m.take k))) (fun _ _ _ _ i => l.length - (intOf i).toNat)
        case atStart => exact ⟨0, Nat.zero_le _, rfl, rfl⟩
        case round =>
          obtain ⟨k, hk, rfl, rfl⟩ := hrel
          by_cases hlt : k < l.length
          · have hlm : k < m.length := by rw [← HN.out]; exact hlt
            obtain ⟨ad, rfl, _, _, hcA⟩ := h1 k (by rw [i32s_len]; exact hlt)
            obtain ⟨bd, rfl, _, _, hcB⟩ := h2 k (by rw [i32s_len]; exact hlm)
            rw [i32s_at hlt] at hcA
            rw [i32s_at hlm] at hcB
            have i1 : (k : Int) < (l.length : Int) := by omega
            have i2 : (k : Int) < (m.length : Int) := by omega
            have HS := Lib.hid (sqI_step l m k hlt hlm)
            obtain ⟨x1, x2⟩ := all_at HLA.out k hlt
            obtain ⟨y1, y2⟩ := all_at HMA.out k hlm
            obtain ⟨s1, s2⟩ := sqI_bd _ _ (all_take HLA.out k) (all_take HMA.out k)
            have s3 : sqI (l.take k) (m.take k) ≤ 2305843009213693952 := by
              have : (l.take k).length ≤ 8 := by rw [List.length_take]; omega
              omega
            clear s2
            generalize sqI (l.take k) (m.take k) = s at *
            generalize l[k] = x at *
            generalize m[k] = y at *
            obtain ⟨q1, q2⟩ := sq_bd (x - y) (by omega) (by omega)
            go_wp2_with fail
            go_round
            case rel => exact ⟨k + 1, by omega, by go_num, by rw [HS.out]⟩
            case measure => simp [intOf]; omega
          · have HT := Lib.hid (show sqI (l.take k) (m.take k) = sqI l m by rw [List.take_of_length_le (by omega), List.take_of_length_le (by have := HN.out; omega)])
            have i1 : ¬ (k : Int) < (l.length : Int) := by omega
            go_wp2_with fail
            go_ret2
            exact ⟨by rw [HV.out, ← HT.out]; rfl, rfl⟩
  · have hne' : ((l.length : Int) != (m.length : Int)) = true := by simp; omega
    have HV := Lib.hid (show distR l m = .tuple #[.int .u64 0, .int .i64 4] by unfold distR goodB; simp [hne])
    clear hne
    go_enter Try.func13, Try.ntmps13
    go_wp2_with fail
    go_ret2
    exact ⟨by rw [HV.out]; rfl, rfl⟩

end Go.Proofs.Ytnpbfacmjmgfaaa
