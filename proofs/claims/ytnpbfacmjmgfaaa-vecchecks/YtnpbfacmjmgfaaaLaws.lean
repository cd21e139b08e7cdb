/-
  What VecHomes and VecDists do: they return true, and turn nothing that was there.
-/
import Derived.Test.YtnpbfacmjmgfaaaCutVec
namespace Go.Proofs.Ytnpbfacmjmgfaaa
open Go.RowKit

set_option maxRecDepth 100000 in
set_option maxHeartbeats 400000 in
theorem law_homes (id : Nat) (n : Int) (w : World) (hid : id < 18446744073709551616) (h2 : n ≤ 9223372036854775807) :
    Calls Try.prog 5 #[.int .u64 (id : Int), .int .i64 n] w fun e w' => e = .returned (.bool true) ∧ Below w.heap.size w w' := by
  have HW := Lib.hid (awake_any w)
  have HH : Hid (∀ W, Calls Try.prog 20 #[.int .u64 (id : Int), .int .i64 n] W fun e w' => e = .returned (.int .i64 (homeI id n)) ∧ W = w') := fun W => home_any id n W hid h2
  have HR : Hid (∀ W, Calls Try.prog 21 #[.int .u64 (id : Int), .int .i64 n] W fun e w' => e = .returned (.int .i64 (homeI id n)) ∧ W = w') := fun W => refHome_any id n W hid h2
  have e1 := homeI_lo id n
  by_cases h : n < 1
  · have e0 : homeI id n = 0 := by unfold homeI; rw [if_pos h]
    rw [e0] at HH HR
    clear e1 e0
    have i1 : ¬ (0 : Int) < n := by omega
    go_enter Try.func5, Try.ntmps5
    go_wp2_with (go_at_call 11; refine (HW.out).mono ?_; rintro e w1 ⟨rfl, hb⟩)
    go_wp2_with (first | (go_at_call 20; refine (HH.out _).mono ?_; rintro e w' ⟨rfl, rfl⟩) | (go_at_call 21; refine (HR.out _).mono ?_; rintro e w' ⟨rfl, rfl⟩))
    go_ret
    exact ⟨rfl, hb⟩
  · have e2 := homeI_hi id n (by omega)
    generalize homeI id n = v at *
    go_enter Try.func5, Try.ntmps5
    go_wp2_with (go_at_call 11; refine (HW.out).mono ?_; rintro e w1 ⟨rfl, hb⟩)
    go_wp2_with (first | (go_at_call 20; refine (HH.out _).mono ?_; rintro e w' ⟨rfl, rfl⟩) | (go_at_call 21; refine (HR.out _).mono ?_; rintro e w' ⟨rfl, rfl⟩))
    go_ret
    exact ⟨rfl, hb⟩

theorem u64_of {n : Int} (h : (Lit.int .u64 n).wf = true) : 0 ≤ n ∧ n ≤ 18446744073709551615 := by
  simpa [Lit.wf, IntKind.min, IntKind.max, IntKind.signed, IntKind.bits] using h

theorem sqI_comm : ∀ a b : List Int, sqI b a = sqI a b
  | [], [] => rfl
  | [], _ :: _ => rfl
  | _ :: _, [] => rfl
  | x :: a, y :: b => by
    simp only [sqI]
    rw [sqI_comm a b, show y - x = -(x - y) by omega, Int.neg_mul_neg]
theorem sqI_zero : ∀ a b : List Int, a.length = b.length → a.all okN = true → b.all okN = true → (sqI a b == 0) = (a == b)
  | [], [], _, _, _ => rfl
  | [], _ :: _, h, _, _ => by simp at h
  | _ :: _, [], h, _, _ => by simp at h
  | x :: a, y :: b, h, ha, hb => by
    simp only [List.all_cons, Bool.and_eq_true] at ha hb
    have ih := sqI_zero a b (by simpa using h) ha.2 hb.2
    have h1 := okN_bd ha.1
    have h2 := okN_bd hb.1
    have h3 := sq_bd (x - y) (by omega) (by omega)
    have h4 := sqI_bd a b ha.2 hb.2
    rw [Bool.eq_iff_iff, beq_iff_eq, beq_iff_eq] at ih ⊢
    simp only [sqI, List.cons.injEq]
    constructor
    · intro he
      have e1 : (x - y) * (x - y) = 0 := by omega
      have e2 : x - y = 0 := by
        rcases Int.mul_eq_zero.1 e1 with e | e <;> exact e
      exact ⟨by omega, ih.1 (by omega)⟩
    · rintro ⟨rfl, rfl⟩
      have := ih.2 rfl
      rw [Int.sub_self]
      omega

theorem goodB_comm (a b : List Int) : goodB b a = goodB a b := by
  unfold goodB
  rw [show decide (b.length = a.length) = decide (a.length = b.length) by rw [decide_eq_decide]; exact eq_comm, Bool.and_assoc, Bool.and_assoc, Bool.and_comm (rightB b)]

set_option maxRecDepth 100000 in
set_option maxHeartbeats 1000000 in
theorem law_dists (S T : Nat → Prop) (A B : Option Addr) (c d : Nat) (l0 m0 : List Int) (w : World) (h1 : Row S w A (i32s l0)) (h2 : Row T w B (i32s m0)) (hc : l0.length ≤ c) (hd : m0.length ≤ d)
    (hl0 : l0.length ≤ 9223372036854775807) (hm0 : m0.length ≤ 9223372036854775807) :
    Calls Try.prog 3 #[.slice A l0.length c, .slice B m0.length d] w fun e w' => e = .returned (.bool true) ∧ Below w.heap.size w w' := by
  go_enter Try.func3, Try.ntmps3
  go_wp2_with fail
  refine (awake_any _).mono ?_
  rintro e w1 ⟨rfl, hb1⟩
  have r1 := h1.below hb1
  have s1 := h2.below hb1
  go_wp2_with fail
  refine (cutVec_any S A c 10 l0 _ r1 hc hl0 (by decide)).mono ?_
  rintro e w2 ⟨A2, c2, rfl, hc2, r2, hb2⟩
  have hl : (l0.take 10).length ≤ 10 := by rw [List.length_take]; omega
  have s2 := s1.below hb2
  rw [i32s_len] at hc2 ⊢
  generalize l0.take 10 = l at *
  go_wp2_with fail
  refine (cutVec_any T B d 10 m0 _ s2 hd hm0 (by decide)).mono ?_
  rintro e w3 ⟨A3, c3, rfl, hc3, s3, hb3⟩
  have hm : (m0.take 10).length ≤ 10 := by rw [List.length_take]; omega
  have r3 := r2.below hb3
  rw [i32s_len] at hc3 ⊢
  generalize m0.take 10 = m at *
  have hb : Below w.heap.size w w3 := (hb1.trans (hb2.mono hb1.size)).trans (hb3.mono (Nat.le_trans hb1.size hb2.size))
  clear h1 h2 hc hd hl0 hm0 r1 s1 r2 s2 hb1 hb2 hb3
  go_wp2_with fail
  refine (dist_any _ _ A2 A3 c2 c3 l m _ r3 s3 (by omega) (by omega)).mono ?_
  rintro e w4 ⟨rfl, rfl⟩
  have HRD := Lib.hid (refDist_any _ _ A2 A3 c2 c3 l m w3 r3 s3 (by omega) (by omega))
  have HQ : Hid (∀ W, Below w3.heap.size w3 W → Calls Try.prog 13 #[.slice A3 m.length c3, .slice A2 l.length c2] W fun e w' => e = .returned (distR m l) ∧ W = w') := fun W hW => dist_any _ _ A3 A2 c3 c2 m l W (s3.below hW) (r3.below hW) (by omega) (by omega)
  have HR1 : Hid (∀ W, Below w3.heap.size w3 W → Calls Try.prog 15 #[.slice A2 l.length c2] W fun e w' => e = .returned (.bool (rightB l)) ∧ W = w') := fun W hW => right_any _ A2 c2 l W (r3.below hW) (by omega)
  have HR2 : Hid (∀ W, Below w3.heap.size w3 W → Calls Try.prog 16 #[.slice A2 l.length c2] W fun e w' => e = .returned (.bool (rightB l)) ∧ W = w') := fun W hW => refRight_any _ A2 c2 l W (r3.below hW) (by omega)
  have HSV : Hid (∀ W, Below w3.heap.size w3 W → Calls Try.prog 17 #[.slice A2 l.length c2, .slice A3 m.length c3] W fun e w' => e = .returned (.bool (l == m)) ∧ Below W.heap.size W w') := fun W hW => sameVec_any _ _ A2 A3 c2 c3 l m W (r3.below hW) (s3.below hW) (by omega)
  cases hg : goodB l m with
  | true =>
    have e1 : distR l m = .tuple #[.int .u64 (sqI l m), .int .i64 0] := by unfold distR; rw [if_pos hg]
    have e2 : distR m l = .tuple #[.int .u64 (sqI l m), .int .i64 0] := by unfold distR; rw [if_pos (by rw [goodB_comm]; exact hg), sqI_comm]
    have e3 : (sqI l m == 0) = (l == m) := by
      unfold goodB at hg
      simp only [Bool.and_eq_true, decide_eq_true_eq] at hg
      exact sqI_zero l m hg.1.1 (rightB_parts hg.1.2).2.2 (rightB_parts hg.2).2.2
    rw [e1] at HRD ⊢
    rw [e2] at HQ
    rw [← e3] at HSV
    clear e1 e2 e3 hg
    generalize sqI l m = q at *
    generalize rightB l = rb at *
    go_wp2_with fail
    refine (HRD.out).mono ?_
    rintro e w5 ⟨rfl, hb5⟩
    go_wp2_with fail
    refine (HQ.out _ hb5).mono ?_
    rintro e w6 ⟨rfl, rfl⟩
    go_wp2_with (first | (go_at_call 15; refine (HR1.out _ hb5).mono ?_; rintro e w6 ⟨rfl, rfl⟩) | (go_at_call 16; refine (HR2.out _ hb5).mono ?_; rintro e w6 ⟨rfl, rfl⟩) | (go_at_call 17; refine (HSV.out _ hb5).mono ?_; rintro e w7 ⟨rfl, hb7⟩))
    go_ret
    exact ⟨rfl, (hb.trans (hb5.mono hb.size)).trans (hb7.mono (Nat.le_trans hb.size hb5.size))⟩
  | false =>
    have e1 : distR l m = .tuple #[.int .u64 0, .int .i64 4] := by unfold distR; rw [if_neg (by rw [hg]; decide)]
    have e2 : distR m l = .tuple #[.int .u64 0, .int .i64 4] := by unfold distR; rw [if_neg (by rw [goodB_comm, hg]; decide)]
    rw [e1] at HRD ⊢
    rw [e2] at HQ
    clear e1 e2 hg HSV
    generalize rightB l = rb at *
    go_wp2_with fail
    refine (HRD.out).mono ?_
    rintro e w5 ⟨rfl, hb5⟩
    go_wp2_with fail
    refine (HQ.out _ hb5).mono ?_
    rintro e w6 ⟨rfl, rfl⟩
    go_wp2_with (first | (go_at_call 15; refine (HR1.out _ hb5).mono ?_; rintro e w6 ⟨rfl, rfl⟩) | (go_at_call 16; refine (HR2.out _ hb5).mono ?_; rintro e w6 ⟨rfl, rfl⟩))
    go_ret
    exact ⟨rfl, hb.trans (hb5.mono hb.size)⟩

end Go.Proofs.Ytnpbfacmjmgfaaa
