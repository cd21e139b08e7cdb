/-
  The law NetSplits, walked.
-/
import Derived.Test.YtalifbajihkenaaNAwake
namespace Go.Proofs.Ytalifbajihkenaa
open Go.RowKit Go.Maps
set_option linter.unusedSimpArgs false
set_option linter.unusedVariables false

theorem apart4 (x y : Int) : apartB 4 x y = true ↔ 0 ≤ x ∧ x ≤ 3 ∧ 0 ≤ y ∧ y ≤ 3 ∧ x ≠ y := by
  unfold apartB thereB
  simp only [Bool.and_eq_true, decide_eq_true_eq, Bool.not_eq_true', beq_eq_false_iff_ne]
  constructor
  · rintro ⟨⟨⟨h1, h2⟩, h3, h4⟩, h5⟩; exact ⟨h1, by omega, h3, by omega, h5⟩
  · rintro ⟨h1, h2, h3, h4, h5⟩; exact ⟨⟨⟨h1, by omega⟩, h3, by omega⟩, h5⟩
theorem not_apart4 {x y : Int} (h : apartB 4 x y = false) : x < 0 ∨ (¬ x < 0 ∧ 3 < x) ∨ (¬ x < 0 ∧ ¬ 3 < x ∧ y < 0) ∨ (¬ x < 0 ∧ ¬ 3 < x ∧ ¬ y < 0 ∧ 3 < y) ∨ (¬ x < 0 ∧ ¬ 3 < x ∧ ¬ y < 0 ∧ ¬ 3 < y ∧ x = y) := by
  have : ¬ (0 ≤ x ∧ x ≤ 3 ∧ 0 ≤ y ∧ y ≤ 3 ∧ x ≠ y) := fun k => by rw [(apart4 x y).2 k] at h; cases h
  omega

theorem pair_same {a b c d : Int} : (min c d = min a b ∧ max c d = max a b) ↔ ((c = a ∧ d = b) ∨ (c = b ∧ d = a)) := by
  rcases Int.le_total a b with h | h <;> rcases Int.le_total c d with h' | h'
  · rw [Int.min_eq_left h, Int.min_eq_left h', Int.max_eq_right h, Int.max_eq_right h']; omega
  · rw [Int.min_eq_left h, Int.min_eq_right h', Int.max_eq_right h, Int.max_eq_left h']; omega
  · rw [Int.min_eq_right h, Int.min_eq_left h', Int.max_eq_left h, Int.max_eq_right h']; omega
  · rw [Int.min_eq_right h, Int.min_eq_right h', Int.max_eq_left h, Int.max_eq_left h']; omega
theorem split_pair (a b c d : Int) (p : List Int) : splitB (setS (fun _ _ => false) a b true) (c, d, p) = decide ((c = a ∧ d = b) ∨ (c = b ∧ d = a)) := by
  have h := @pair_same a b c d
  unfold splitB setS setP
  simp only []
  by_cases k : min c d = min a b ∧ max c d = max a b
  · rw [if_pos k]; exact (decide_eq_true (h.1 k)).symm
  · rw [if_neg k]; exact (decide_eq_false fun q => k (h.2 q)).symm


set_option maxRecDepth 100000 in
set_option maxHeartbeats 4000000 in
theorem splits_walk (w : World) (a b c d : Int) : Calls Try.prog 6 #[.int .i64 a, .int .i64 b, .int .i64 c, .int .i64 d] w fun e w' => e = .returned (.bool true) ∧ Below w.heap.size w w' := by
  have HA := Lib.hid (awake_any w)
  go_enter Try.func6, Try.ntmps6
  go_wp2_with fail
  refine (HA.out).mono ?_
  rintro e w1 ⟨rfl, hbw1⟩
  have HW1 := Lib.hid hbw1
  clear HA hbw1
  have HNEW := Lib.hid (new_any w1 4 (by decide) (by decide))
  go_wp2_with fail
  refine (HNEW.out).mono ?_
  rintro e w2 ⟨rfl, hN2, hbw2⟩
  have HN2 := Lib.hid hN2
  have HW2 := Lib.hid hbw2
  clear hN2 HNEW hbw2
  go_wp2_with fail
  obtain ⟨w3, hw3⟩ : ∃ x, x = w2.alloc (.cells #[.int .i64 c, .int .i64 d, .slice none 0 0] 37) := ⟨_, rfl⟩
  have hb3 : Below w2.heap.size w2 w3 := by rw [hw3]; exact (Below.refl _ _).alloc (Nat.le_refl _) _
  have hX3 : w3.heap[w2.heap.size]? = some (.cells #[.int .i64 c, .int .i64 d, .slice none 0 0] 37 (0, 0)) := by rw [hw3]; exact heap_alloc_new w2 _
  have hin : Lts (NB (w1.heap.size + 1) w1.heap.size (.slice none 0 0)) w3 (some ⟨w2.heap.size, 0, none⟩) [(c, d, [])] := lts_of hX3 fun j hj => by
    have hj2 : j = 0 := by simp at hj; omega
    subst hj2
    exact ⟨rfl, rfl, none, 0, rfl, Nat.le_refl _, Row.nil, fun a ea => by cases ea⟩
  rw [← hw3]
  have HP := Lib.hid (post_any (c := 1) (HN2.out.below hb3) (cs := []) (World.ownsRow_nil w3 _ 37 3) hin (fun a ea => by injection ea with ea; subst ea; exact HN2.out.fresh _ (Nat.le_refl _)) (by simp) (by simp))
  have HW3 : Hid (Below w1.heap.size w1 w3) := HW2.out.trans (hb3.mono HW2.out.size)
  clear hw3 hb3 hX3 hin
  have hpb : postB 4 (c, d, []) = apartB 4 c d := by simp [postB]
  cases hap : apartB 4 c d with
  | false =>
    rw [show [((c : Int), d, ([] : List Int))].filter (postB 4) = [] by simp [hpb, hap]] at HP
    have hor := not_apart4 hap
    clear hap hpb
    refine (HP.out).mono ?_
    rintro e w4 ⟨rfl, v4, cs4, _, _, hD4, _⟩
    have HW4 : Hid (Below w.heap.size w w4) := HW1.out.trans ((HW3.out.trans hD4.below).mono HW1.out.size)
    clear HP HN2 hD4
    rcases hor with h | h | h | h | h
    all_goals
      try obtain ⟨h1, h2⟩ := h
      try obtain ⟨h2, h3⟩ := h2
      try obtain ⟨h3, h4⟩ := h3
      try obtain ⟨h4, h5⟩ := h4
      go_wp2_with fail
      go_ret
      exact ⟨rfl, HW4.out⟩
  | true =>
    rw [show [((c : Int), d, ([] : List Int))].filter (postB 4) = [(c, d, [])] by simp [hpb, hap]] at HP
    refine (HP.out).mono ?_
    rintro e w4 ⟨rfl, v4, cs4, hN4, hO4, hD4, _⟩
    have HW4 : Hid (Below w1.heap.size w1 w4) := HW3.out.trans hD4.below
    clear hD4
    rw [show [((c : Int), d, ([] : List Int))].filter (postB 4) = [(c, d, [])] by simp [hpb, hap]] at hN4
    rw [List.nil_append] at hN4
    have hB4 : w1.heap.size ≤ w4.heap.size := by have := lt_of_block hN4.blk; omega
    have HS := Lib.hid (split_any hN4 (by decide) hB4 a b true)
    obtain ⟨f1, f2, f3, f4, f5⟩ := (apart4 c d).1 hap
    have HF : Hid (0 ≤ c ∧ c ≤ 3 ∧ 0 ≤ d ∧ d ≤ 3 ∧ c ≠ d) := ⟨f1, f2, f3, f4, f5⟩
    clear hpb hap HP HN2 hO4 hN4 f1 f2 f3 f4 f5
    go_wp2_with fail
    refine (HS.out).mono ?_
    rintro e w5 ⟨rfl, hN5, hD5⟩
    have hB5 : w1.heap.size ≤ w5.heap.size := Nat.le_trans hB4 hD5.below.size
    have HB5 := Lib.hid hB5
    have HW5 : Hid (Below w1.heap.size w1 w5) := HW4.out.trans hD5.below
    clear HS hD5 hB4 hB5
    cases hr : apartB 4 a b with
    | false =>
      rw [show splitE 4 a b = 1 by unfold splitE; rw [hr]; rfl]
      rw [hr, if_neg (by decide)] at hN5
      have hor := not_apart4 hr
      clear hr
      have hce : comesE (fun _ _ => false) [((c : Int), d, ([] : List Int))] 0 = 0 := by simp [comesE, splitB]
      have HN5 := Lib.hid hN5
      have HCE := Lib.hid hce
      clear hN5 hce
      rcases hor with h | h | h | h | h
      all_goals
        try obtain ⟨h1, h2⟩ := h
        try obtain ⟨h2, h3⟩ := h2
        try obtain ⟨h3, h4⟩ := h3
        try obtain ⟨h4, h5⟩ := h4
        go_wp2_with fail
        refine (open_any HN5.out 0).mono ?_
        rintro e w6 ⟨rfl, hb6⟩
        rw [HCE.out]
        have HC := Lib.hid (copy_in (HN5.out.below hb6) (k := 0) (by simp) HCE.out (by simp))
        simp only [show ((0 : Int) == 0) = true from rfl]
        go_wp2_with fail
        refine (HC.out).mono ?_
        rintro e w7 ⟨A7, c7, rfl, hF7⟩
        have hb67 := hb6.trans (hF7.2.2.2.mono hb6.size)
        clear HC hb6 hF7
        simp only [letV]
        go_wp2_with fail
        refine (heal_any (HN5.out.below (hb67.alloc hb67.size _))).mono ?_
        rintro e w9 ⟨rfl, hN9, hD9⟩
        have hB9 : w1.heap.size ≤ w9.heap.size := Nat.le_trans (Nat.le_trans HB5.out (hb67.alloc hb67.size _).size) hD9.below.size
        have HT := Lib.hid (take_in hN9 hB9 (k := 0) (by simp) (by simp [comesE, splitB]) (by simp))
        have HW9 : Hid (Below w1.heap.size w1 w9) := (HW5.out.trans ((hb67.alloc hb67.size _).mono HW5.out.size)).trans hD9.below
        clear hN9 hD9 hB9 HN5 hb67
        go_wp2_with fail
        refine (HT.out).mono ?_
        rintro e w10 ⟨Y, cy, v10, rfl, _, _, _, _, hN10, hD10, _⟩
        have HW10 : Hid (Below w1.heap.size w1 w10) := HW9.out.trans hD10.below
        clear hD10
        have HL := Lib.hid fun W (hW : Below w10.heap.size w10 W) => len_any (hN10.below hW)
        clear HT hN10
        simp only [letV]
        go_wp2_with fail
        refine (HL.out _ ((Below.refl _ _).alloc (Nat.le_refl _) _)).mono ?_
        rintro e w11 ⟨rfl, hw11⟩
        have hw11 := hw11.symm
        subst hw11
        simp only [List.eraseIdx, List.length_nil]
        go_wp2_with fail
        go_ret
        exact ⟨rfl, HW1.out.trans ((HW10.out.alloc HW10.out.size _).mono HW1.out.size)⟩
    | true =>
      rw [show splitE 4 a b = 0 by unfold splitE; rw [hr]; rfl]
      rw [hr, if_pos rfl] at hN5
      obtain ⟨f1, f2, f3, f4, f5⟩ := (apart4 a b).1 hr
      clear hr
      have HN5 := Lib.hid hN5
      clear hN5
      have f6 : (a != b) = true := by simp [f5]
      have f7 : a ≥ 0 := f1
      have HC10 : Hid (((c = a ∧ d = b) ∨ (c = b ∧ d = a)) → comesE (setS (fun _ _ => false) a b true) [((c : Int), d, ([] : List Int))] 0 = 10) := fun k => by simp [comesE, (split_pair a b c d []).trans (decide_eq_true k)]
      have HC0 : Hid (¬ ((c = a ∧ d = b) ∨ (c = b ∧ d = a)) → comesE (setS (fun _ _ => false) a b true) [((c : Int), d, ([] : List Int))] 0 = 0) := fun k => by simp [comesE, (split_pair a b c d []).trans (decide_eq_false k)]
      have f8 : b ≥ 0 := f3
      have f9 : ¬ a = b := f5
      by_cases k1 : a = c <;> by_cases k2 : b = d <;> by_cases k3 : a = d <;> by_cases k4 : b = c
      all_goals try (have k1 := Eq.symm k1; subst k1)
      all_goals try (have k2 := Eq.symm k2; subst k2)
      all_goals try (have k3 := Eq.symm k3; subst k3)
      all_goals try (have k4 := Eq.symm k4; subst k4)
      all_goals first
        | (exfalso; have := HF.out; omega)
        | (have hce : comesE (setS (fun _ _ => false) _ _ true) [((c : Int), d, ([] : List Int))] 0 = 10 := HC10.out (by have := HF.out; omega)
           have HCE := Lib.hid hce
           clear hce
           go_wp2_with fail
           refine (open_any HN5.out 0).mono ?_
           rintro e w6 ⟨rfl, hb6⟩
           rw [HCE.out]
           have HC := Lib.hid (copy_out (HN5.out.below hb6) 0 (by rw [HCE.out]; decide))
           rw [HCE.out] at HC
           simp only [show ((10 : Int) == 0) = false from rfl]
           go_wp2_with fail
           refine (HC.out).mono ?_
           rintro e w7 ⟨rfl, hb7⟩
           have hb67 := hb6.trans (hb7.mono hb6.size)
           clear HC hb6 hb7
           simp only [letV]
           go_wp2_with fail
           refine (heal_any (HN5.out.below (hb67.alloc hb67.size _))).mono ?_
           rintro e w9 ⟨rfl, hN9, hD9⟩
           have hB9 : w1.heap.size ≤ w9.heap.size := Nat.le_trans (Nat.le_trans HB5.out (hb67.alloc hb67.size _).size) hD9.below.size
           have HT := Lib.hid (take_in hN9 hB9 (k := 0) (by simp) (by simp [comesE, splitB]) (by simp))
           have HW9 : Hid (Below w1.heap.size w1 w9) := (HW5.out.trans ((hb67.alloc hb67.size _).mono HW5.out.size)).trans hD9.below
           clear hN9 hD9 hB9 HN5 hb67
           go_wp2_with fail
           refine (HT.out).mono ?_
           rintro e w10 ⟨Y, cy, v10, rfl, _, _, _, _, hN10, hD10, _⟩
           have HW10 : Hid (Below w1.heap.size w1 w10) := HW9.out.trans hD10.below
           clear hD10
           have HL := Lib.hid fun W (hW : Below w10.heap.size w10 W) => len_any (hN10.below hW)
           clear HT hN10
           simp only [letV]
           go_wp2_with fail
           refine (HL.out _ ((Below.refl _ _).alloc (Nat.le_refl _) _)).mono ?_
           rintro e w11 ⟨rfl, hw11⟩
           have hw11 := hw11.symm
           subst hw11
           simp only [List.eraseIdx, List.length_nil]
           go_wp2_with fail
           go_ret
           exact ⟨rfl, HW1.out.trans ((HW10.out.alloc HW10.out.size _).mono HW1.out.size)⟩)
        | (have hce : comesE (setS (fun _ _ => false) _ _ true) [((c : Int), d, ([] : List Int))] 0 = 0 := HC0.out (by have := HF.out; omega)
           have HCE := Lib.hid hce
           clear hce
           go_wp2_with fail
           refine (open_any HN5.out 0).mono ?_
           rintro e w6 ⟨rfl, hb6⟩
           rw [HCE.out]
           have HC := Lib.hid (copy_in (HN5.out.below hb6) (k := 0) (by simp) HCE.out (by simp))
           simp only [show ((0 : Int) == 0) = true from rfl]
           go_wp2_with fail
           refine (HC.out).mono ?_
           rintro e w7 ⟨A7, c7, rfl, hF7⟩
           have hb67 := hb6.trans (hF7.2.2.2.mono hb6.size)
           clear HC hb6 hF7
           simp only [letV]
           go_wp2_with fail
           refine (heal_any (HN5.out.below (hb67.alloc hb67.size _))).mono ?_
           rintro e w9 ⟨rfl, hN9, hD9⟩
           have hB9 : w1.heap.size ≤ w9.heap.size := Nat.le_trans (Nat.le_trans HB5.out (hb67.alloc hb67.size _).size) hD9.below.size
           have HT := Lib.hid (take_in hN9 hB9 (k := 0) (by simp) (by simp [comesE, splitB]) (by simp))
           have HW9 : Hid (Below w1.heap.size w1 w9) := (HW5.out.trans ((hb67.alloc hb67.size _).mono HW5.out.size)).trans hD9.below
           clear hN9 hD9 hB9 HN5 hb67
           go_wp2_with fail
           refine (HT.out).mono ?_
           rintro e w10 ⟨Y, cy, v10, rfl, _, _, _, _, hN10, hD10, _⟩
           have HW10 : Hid (Below w1.heap.size w1 w10) := HW9.out.trans hD10.below
           clear hD10
           have HL := Lib.hid fun W (hW : Below w10.heap.size w10 W) => len_any (hN10.below hW)
           clear HT hN10
           simp only [letV]
           go_wp2_with fail
           refine (HL.out _ ((Below.refl _ _).alloc (Nat.le_refl _) _)).mono ?_
           rintro e w11 ⟨rfl, hw11⟩
           have hw11 := hw11.symm
           subst hw11
           simp only [List.eraseIdx, List.length_nil]
           go_wp2_with fail
           go_ret
           exact ⟨rfl, HW1.out.trans ((HW10.out.alloc HW10.out.size _).mono HW1.out.size)⟩)

end Go.Proofs.Ytalifbajihkenaa
