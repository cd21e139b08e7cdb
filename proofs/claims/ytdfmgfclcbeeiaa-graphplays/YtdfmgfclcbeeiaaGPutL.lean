/-
  The contract of the document's Put: a number more, in its place.
-/
import Derived.Test.YtdfmgfclcbeeiaaGApp
namespace Go.Proofs.Ytdfmgfclcbeeiaa
open Go.RowKit Go.Maps Go.Sort
set_option linter.unusedSimpArgs false
set_option linter.unusedVariables false

theorem add_add (a : Addr) (i j : Nat) : (a.add i).add j = a.add (i + j) := by
  unfold Addr.add
  by_cases hi : i = 0 <;> by_cases hj : j = 0 <;> simp [hi, hj, Nat.add_assoc]

/-- what Put answers -/
def PutG (w : World) (n : Nat) (l' : List Int) (e : Ending) (w' : World) : Prop :=
  ∃ A' c', e = .returned (.slice A' (n + 1) c') ∧ w'.ownsRow w.heap.size 31 1 (.slice A' (n + 1) c') (n + 1) (us l') ∧ Below w.heap.size w w'

set_option maxRecDepth 100000 in
set_option maxHeartbeats 4000000 in
theorem put_any (A : Option Addr) (c n : Nat) (l : List Int) (y : Int) (w : World) (hn : l.length = n) (h1 : Row w A (us l)) (hc : n ≤ c) (hl : n ≤ 1099511627776) :
    Calls Try.prog 28 #[.slice A n c, .int .u64 y] w (PutG w n (putL l y)) := by
  have HN := Lib.hid hn
  have H1 := Lib.hid h1
  clear hn h1
  go_enter Try.func28, Try.ntmps28
  go_wp2_with fail
  go_loop [5] (fun i => ∃ k : Nat, k ≤ n ∧ i = .int .i64 k ∧ ∀ j, j < k → l.getD j 0 < y) (fun i => n - (intOf i).toNat)
  case atStart => exact ⟨0, Nat.zero_le _, rfl, fun j hj => by omega⟩
  case round =>
    obtain ⟨k, hk, rfl, hno⟩ := hrel
    have HNO := Lib.hid hno
    clear hno
    by_cases hgo : k < n ∧ l.getD k 0 < y
    · obtain ⟨hlt, hly⟩ := hgo
      have hlt' : k < l.length := by rw [HN.out]; exact hlt
      obtain ⟨ad, rfl, _, hcA⟩ := H1.out k (by rw [us_len]; exact hlt')
      rw [us_at hlt'] at hcA
      have i1 : (k : Int) < (n : Int) := by omega
      have HNN : Hid (∀ j, j < k + 1 → l.getD j 0 < y) := fun j hj => by
        by_cases e : j = k
        · rw [e]; exact hly
        · exact HNO.out j (by omega)
      generalize l.getD k 0 = z at *
      clear hlt'
      go_wp2_with fail
      go_round
      case rel => exact ⟨k + 1, by omega, by go_num, HNN.out⟩
      case measure => simp [intOf]; omega
    · have HP : Hid (putL l y = l.take k ++ [y] ++ l.drop k) := putL_at l y k (by rw [HN.out]; exact hk) HNO.out (fun h1 h2 => hgo ⟨by rw [← HN.out]; exact h1, h2⟩)
      have hb0 : Below w.heap.size w w.drew := (Below.refl _ _).drew
      have hba1 : Below w.heap.size w (w.drew.alloc (.cells #[] 31)) := hb0.alloc hb0.size _
      have hba2 : Below w.heap.size w ((w.drew.alloc (.cells #[] 31)).alloc (.cells #[.int .u64 y] 31)) := hba1.alloc hba1.size _
      have hbb1 : Below w.heap.size w (w.drew.alloc (.cells #[.int .u64 y] 31)) := hb0.alloc hb0.size _
      have hba3 : Below w.heap.size w ((w.drew.alloc (.cells #[.int .u64 y] 31)).alloc (.cells #[] 31)) := hbb1.alloc hbb1.size _
      have HOlit : Hid (∀ W, Below w.heap.size w W → (W.alloc (.cells #[] 31)).ownsRow w.heap.size 31 1 (.slice (some ⟨W.heap.size, 0, none⟩) 0 0) 0 []) := fun W hW => World.ownsRow_lit W #[] 0 hW.size (by decide) rfl
      have HOlit2 : Hid (∀ W, Below w.heap.size w W → ∀ o, ((W.alloc o).alloc (.cells #[] 31)).ownsRow w.heap.size 31 1 (.slice (some ⟨W.heap.size + 1, 0, none⟩) 0 0) 0 []) := fun W hW o => by
        have := World.ownsRow_lit (base := w.heap.size) (e := 31) (size := 1) (W.alloc o) #[] 0 (by have := hW.size; simp; omega) (by decide) rfl
        have hz : (W.alloc o).heap.size = W.heap.size + 1 := by simp
        rw [hz] at this
        exact this
      have HNEW1 : Hid (∀ (W : World) (o o' : Obj), ((W.alloc o).alloc o').heap[W.heap.size + 1]? = some o') := fun W o o' => by
        have := heap_alloc_new (W.alloc o) o'
        simpa using this
      have HNEW0 : Hid (∀ (W : World) (o o' : Obj), ((W.alloc o).alloc o').heap[W.heap.size]? = some o) := fun W o o' => by
        rw [Below.heap_alloc _ _ _ (by simp)]
        exact heap_alloc_new W o
      have HT1 : Hid ((us (l.take k)).length = k * 1 ∧ ∀ u ∈ us (l.take k), u.oneCell' = true) := ⟨by rw [us_len, List.length_take, HN.out]; omega, us_one _⟩
      have HT2 : Hid ((us (l.drop k)).length = (n - k) * 1 ∧ ∀ u ∈ us (l.drop k), u.oneCell' = true) := ⟨by rw [us_len, List.length_drop, HN.out]; omega, us_one _⟩
      have HFIN : Hid (∀ A9 c9 (w9 : World), w9.ownsRow w.heap.size 31 1 (.slice A9 (k + 1 + (n - k)) c9) (k + 1 + (n - k)) (us (l.take k) ++ [.int .u64 y] ++ us (l.drop k)) → Below w.heap.size w w9 → PutG w n (putL l y) (.returned (.slice A9 (k + 1 + (n - k)) c9)) w9) := fun A9 c9 w9 ho hb => by
        have e1 : k + 1 + (n - k) = n + 1 := by omega
        rw [e1] at ho ⊢
        exact ⟨A9, c9, rfl, by rw [HP.out]; simpa [us, encU] using ho, hb⟩
      by_cases hlt : k < n
      · have hlt' : k < l.length := by rw [HN.out]; exact hlt
        obtain ⟨ad, rfl, _, hcA⟩ := H1.out k (by rw [us_len]; exact hlt')
        rw [us_at hlt'] at hcA
        have i1 : (k : Int) < (n : Int) := by omega
        have i2 : ¬ l.getD k 0 < y := fun h => hgo ⟨hlt, h⟩
        have HSRC : Hid (∀ W, Below w.heap.size w W → ∀ j u, (us l)[j]? = some u → W.cell? (ad.add j) = some u) := fun W hW j u hj => by
          obtain ⟨ad', e, _, hc9⟩ := (H1.out.below hW) j (List.getElem?_eq_some_iff.1 hj).1
          injection e with e
          subst e
          exact hc9.trans hj
        have HN1 : Hid (∀ W, Below w.heap.size w W → ∀ j u, (us (l.take k))[j]? = some u → ∃ ad', (some ad : Option Addr) = some ad' ∧ W.cell? (ad'.add j) = some u) := fun W hW j u hj => by
          refine ⟨_, rfl, HSRC.out W hW j u ?_⟩
          unfold us at hj ⊢
          rw [List.map_take, List.getElem?_take] at hj
          split at hj
          · exact hj
          · cases hj
        have HN2 : Hid (∀ W, Below w.heap.size w W → ∀ j u, (us (l.drop k))[j]? = some u → ∃ ad', (some (ad.add k) : Option Addr) = some ad' ∧ W.cell? (ad'.add j) = some u) := fun W hW j u hj => by
          refine ⟨_, rfl, ?_⟩
          unfold us at hj
          rw [List.map_drop, List.getElem?_drop] at hj
          rw [add_add]
          exact HSRC.out W hW _ u hj
        have hck : c ≠ k := by omega
        have i3 : (0 : Int) ≤ (k : Int) := by omega
        have i4 : (k : Int) ≤ (c : Int) := by omega
        have i5 : (k : Int) ≤ (n : Int) := by omega
        have i6 : (n : Int) ≤ (c : Int) := by omega
        generalize l.getD k 0 = z at *
        clear hlt' hgo
        go_wp2_with fail
        go_region_held3 (fun _ => True) (exact trivial)
          (first
            | (refine step_append_el0 elem22 (by rfl) (.tmp 20) (.tmp 23) (by rfl) w.heap.size _ (by rfl) ((HOlit.out w.drew hb0).alloc (.cells #[.int .u64 y] 31)) _ k _ (us (l.take k)) (by rfl) HT1.out.1 (HN1.out _ hba2) HT1.out.2 (by unfold maxLen; omega) (by omega) hba2.size ?_; intro A5 c5 w5 ho5 hg5 ha5; have hb5 : Below w.heap.size w w5 := hba2.grown hg5 hba2.size (fun g e => by have e' : some w.heap.size = some g := e; injection e' with e'; omega); have hk5 : w5.heap[w.heap.size + 1]? = some (.cells #[.int .u64 y] 31 (0, 0)) := (hg5.block (w.heap.size + 1) (by simp) (fun e => by have e' : some (w.heap.size + 1) = some w.heap.size := e; injection e' with e'; omega)).trans (HNEW1.out w.drew _ _))
            | (refine step_append_el0 elem22 (by rfl) (.tmp 20) (.tmp 23) (by rfl) w.heap.size _ (by rfl) (HOlit2.out w.drew hb0 (.cells #[.int .u64 y] 31)) _ k _ (us (l.take k)) (by rfl) HT1.out.1 (HN1.out _ hba3) HT1.out.2 (by unfold maxLen; omega) (by omega) hba3.size ?_; intro A5 c5 w5 ho5 hg5 ha5; have hb5 : Below w.heap.size w w5 := hba3.grown hg5 hba3.size (fun g e => by have e' : some (w.heap.size + 1) = some g := e; injection e' with e'; omega); have hk5 : w5.heap[w.heap.size]? = some (.cells #[.int .u64 y] 31 (0, 0)) := (hg5.block w.heap.size (by simp; omega) (fun e => by have e' : some w.heap.size = some (w.heap.size + 1) := e; injection e' with e'; omega)).trans (HNEW0.out w.drew _ _))
            | (refine step_append_el0 elem22 (by rfl) (.tmp 20) (.tmp 23) (by rfl) w.heap.size _ (by rfl) (HOlit.out w.drew hb0) _ k _ (us (l.take k)) (by rfl) HT1.out.1 (HN1.out _ hba1) HT1.out.2 (by unfold maxLen; omega) (by omega) hba1.size ?_; intro A5 c5 w5 ho5 hg5 ha5; have hb5 : Below w.heap.size w w5 := hba1.grown hg5 hba1.size (fun g e => by have e' : some w.heap.size = some g := e; injection e' with e'; omega))
            | (refine step_append_el elem22 (by rfl) (.tmp 24) (.tmp 26) (by rfl) w.heap.size (.slice A5 k c5) k (us (l.take k)) (by rfl) ho5 _ 1 1 [.int .u64 y] (by rfl) (by rfl) (news_one hk5) (by simp [Value.oneCell']) (by unfold maxLen; omega) (by omega) hb5.size ?_; intro A7 c7 w7 ho7 hg7 ha7; have hb7 : Below w.heap.size w w7 := hb5.grown hg7 hb5.size (fun g e => (own_lt ho5 e).1))
            | (refine step_append_el elem22 (by rfl) (.tmp 24) (.tmp 26) (by rfl) w.heap.size (.slice A5 k c5) k (us (l.take k)) (by rfl) (ho5.alloc (.cells #[.int .u64 y] 31)) _ 1 1 [.int .u64 y] (by rfl) (by rfl) (news_one (heap_alloc_new w5 (.cells #[.int .u64 y] 31))) (by simp [Value.oneCell']) (by unfold maxLen; omega) (by omega) (Below.size (hb5.alloc hb5.size (.cells #[.int .u64 y] 31))) ?_; intro A7 c7 w7 ho7 hg7 ha7; have hb7 : Below w.heap.size w w7 := Below.grown (hb5.alloc hb5.size (.cells #[.int .u64 y] 31)) hg7 (Below.size (hb5.alloc hb5.size (.cells #[.int .u64 y] 31))) (fun g e => (own_lt ho5 e).1))
            | (refine step_append_el elem22 (by rfl) (.tmp 27) (.tmp 30) (by rfl) w.heap.size (.slice A7 (k + 1) c7) (k + 1) (us (l.take k) ++ [.int .u64 y]) (by rfl) ho7 _ (n - k) _ (us (l.drop k)) (by rfl) HT2.out.1 (HN2.out _ hb7) HT2.out.2 (by unfold maxLen; omega) (by omega) hb7.size ?_; intro A9 c9 w9 ho9 hg9 ha9; have hb9 : Below w.heap.size w w9 := hb7.grown hg9 hb7.size (fun g e => (own_lt ho7 e).1))
            | fail)
        all_goals
          have HG9 := Lib.hid (HFIN.out A9 c9 w9 ho9 hb9)
          clear ho9 hg9 ha9 hb9 ho7 hg7 ha7 hb7 ho5 hg5 ha5 hb5
          go_wp2_with fail
          go_ret
          exact HG9.out

      · have i1 : ¬ (k : Int) < (n : Int) := by omega
        obtain rfl : k = n := by omega
        have HN1 : Hid (∀ W, Below w.heap.size w W → ∀ j u, (us (l.take k))[j]? = some u → ∃ ad', A = some ad' ∧ W.cell? (ad'.add j) = some u) := fun W hW j u hj => by
          rw [List.take_of_length_le (by rw [HN.out]; omega)] at hj
          obtain ⟨ad', e, _, hc9⟩ := (H1.out.below hW) j (List.getElem?_eq_some_iff.1 hj).1
          exact ⟨ad', e, hc9.trans hj⟩
        have HN2 : Hid (∀ A2 : Option Addr, ∀ W, Below w.heap.size w W → ∀ j u, (us (l.drop k))[j]? = some u → ∃ ad', A2 = some ad' ∧ W.cell? (ad'.add j) = some u) := fun A2 W hW j u hj => by
          rw [List.drop_of_length_le (by rw [HN.out]; omega)] at hj
          simp [us] at hj
        have i3 : (0 : Int) ≤ (k : Int) := by omega
        have i4 : (k : Int) ≤ (c : Int) := by omega
        have hkk : k - k = 0 := by omega
        rw [hkk] at HFIN HT2
        clear hgo hlt hkk
        by_cases hck : c = k
        · subst hck
          go_wp2_with fail
          go_region_held3 (fun _ => True) (exact trivial)
            (first
              | (refine step_append_el0 elem22 (by rfl) (.tmp 20) (.tmp 23) (by rfl) w.heap.size _ (by rfl) ((HOlit.out w.drew hb0).alloc (.cells #[.int .u64 y] 31)) _ c _ (us (l.take c)) (by rfl) HT1.out.1 (HN1.out _ hba2) HT1.out.2 (by unfold maxLen; omega) (by omega) hba2.size ?_; intro A5 c5 w5 ho5 hg5 ha5; have hb5 : Below w.heap.size w w5 := hba2.grown hg5 hba2.size (fun g e => by have e' : some w.heap.size = some g := e; injection e' with e'; omega); have hk5 : w5.heap[w.heap.size + 1]? = some (.cells #[.int .u64 y] 31 (0, 0)) := (hg5.block (w.heap.size + 1) (by simp) (fun e => by have e' : some (w.heap.size + 1) = some w.heap.size := e; injection e' with e'; omega)).trans (HNEW1.out w.drew _ _))
              | (refine step_append_el0 elem22 (by rfl) (.tmp 20) (.tmp 23) (by rfl) w.heap.size _ (by rfl) (HOlit2.out w.drew hb0 (.cells #[.int .u64 y] 31)) _ c _ (us (l.take c)) (by rfl) HT1.out.1 (HN1.out _ hba3) HT1.out.2 (by unfold maxLen; omega) (by omega) hba3.size ?_; intro A5 c5 w5 ho5 hg5 ha5; have hb5 : Below w.heap.size w w5 := hba3.grown hg5 hba3.size (fun g e => by have e' : some (w.heap.size + 1) = some g := e; injection e' with e'; omega); have hk5 : w5.heap[w.heap.size]? = some (.cells #[.int .u64 y] 31 (0, 0)) := (hg5.block w.heap.size (by simp; omega) (fun e => by have e' : some w.heap.size = some (w.heap.size + 1) := e; injection e' with e'; omega)).trans (HNEW0.out w.drew _ _))
              | (refine step_append_el0 elem22 (by rfl) (.tmp 20) (.tmp 23) (by rfl) w.heap.size _ (by rfl) (HOlit.out w.drew hb0) _ c _ (us (l.take c)) (by rfl) HT1.out.1 (HN1.out _ hba1) HT1.out.2 (by unfold maxLen; omega) (by omega) hba1.size ?_; intro A5 c5 w5 ho5 hg5 ha5; have hb5 : Below w.heap.size w w5 := hba1.grown hg5 hba1.size (fun g e => by have e' : some w.heap.size = some g := e; injection e' with e'; omega))
              | (refine step_append_el elem22 (by rfl) (.tmp 24) (.tmp 26) (by rfl) w.heap.size (.slice A5 c c5) c (us (l.take c)) (by rfl) ho5 _ 1 1 [.int .u64 y] (by rfl) (by rfl) (news_one hk5) (by simp [Value.oneCell']) (by unfold maxLen; omega) (by omega) hb5.size ?_; intro A7 c7 w7 ho7 hg7 ha7; have hb7 : Below w.heap.size w w7 := hb5.grown hg7 hb5.size (fun g e => (own_lt ho5 e).1))
              | (refine step_append_el elem22 (by rfl) (.tmp 24) (.tmp 26) (by rfl) w.heap.size (.slice A5 c c5) c (us (l.take c)) (by rfl) (ho5.alloc (.cells #[.int .u64 y] 31)) _ 1 1 [.int .u64 y] (by rfl) (by rfl) (news_one (heap_alloc_new w5 (.cells #[.int .u64 y] 31))) (by simp [Value.oneCell']) (by unfold maxLen; omega) (by omega) (Below.size (hb5.alloc hb5.size (.cells #[.int .u64 y] 31))) ?_; intro A7 c7 w7 ho7 hg7 ha7; have hb7 : Below w.heap.size w w7 := Below.grown (hb5.alloc hb5.size (.cells #[.int .u64 y] 31)) hg7 (Below.size (hb5.alloc hb5.size (.cells #[.int .u64 y] 31))) (fun g e => (own_lt ho5 e).1))
              | (refine step_append_el elem22 (by rfl) (.tmp 27) (.tmp 30) (by rfl) w.heap.size (.slice A7 (c + 1) c7) (c + 1) (us (l.take c) ++ [.int .u64 y]) (by rfl) ho7 _ 0 _ (us (l.drop c)) (by rfl) HT2.out.1 (HN2.out _ _ hb7) HT2.out.2 (by unfold maxLen; omega) (by omega) hb7.size ?_; intro A9 c9 w9 ho9 hg9 ha9; have hb9 : Below w.heap.size w w9 := hb7.grown hg9 hb7.size (fun g e => (own_lt ho7 e).1))
              | fail)
          all_goals
            have HG9 := Lib.hid (HFIN.out A9 c9 w9 ho9 hb9)
            clear ho9 hg9 ha9 hb9 ho7 hg7 ha7 hb7 ho5 hg5 ha5 hb5
            go_wp2_with fail
            go_ret
            exact HG9.out

        · go_wp2_with fail
          go_region_held3 (fun _ => True) (exact trivial)
            (first
              | (refine step_append_el0 elem22 (by rfl) (.tmp 20) (.tmp 23) (by rfl) w.heap.size _ (by rfl) ((HOlit.out w.drew hb0).alloc (.cells #[.int .u64 y] 31)) _ k _ (us (l.take k)) (by rfl) HT1.out.1 (HN1.out _ hba2) HT1.out.2 (by unfold maxLen; omega) (by omega) hba2.size ?_; intro A5 c5 w5 ho5 hg5 ha5; have hb5 : Below w.heap.size w w5 := hba2.grown hg5 hba2.size (fun g e => by have e' : some w.heap.size = some g := e; injection e' with e'; omega); have hk5 : w5.heap[w.heap.size + 1]? = some (.cells #[.int .u64 y] 31 (0, 0)) := (hg5.block (w.heap.size + 1) (by simp) (fun e => by have e' : some (w.heap.size + 1) = some w.heap.size := e; injection e' with e'; omega)).trans (HNEW1.out w.drew _ _))
              | (refine step_append_el0 elem22 (by rfl) (.tmp 20) (.tmp 23) (by rfl) w.heap.size _ (by rfl) (HOlit2.out w.drew hb0 (.cells #[.int .u64 y] 31)) _ k _ (us (l.take k)) (by rfl) HT1.out.1 (HN1.out _ hba3) HT1.out.2 (by unfold maxLen; omega) (by omega) hba3.size ?_; intro A5 c5 w5 ho5 hg5 ha5; have hb5 : Below w.heap.size w w5 := hba3.grown hg5 hba3.size (fun g e => by have e' : some (w.heap.size + 1) = some g := e; injection e' with e'; omega); have hk5 : w5.heap[w.heap.size]? = some (.cells #[.int .u64 y] 31 (0, 0)) := (hg5.block w.heap.size (by simp; omega) (fun e => by have e' : some w.heap.size = some (w.heap.size + 1) := e; injection e' with e'; omega)).trans (HNEW0.out w.drew _ _))
              | (refine step_append_el0 elem22 (by rfl) (.tmp 20) (.tmp 23) (by rfl) w.heap.size _ (by rfl) (HOlit.out w.drew hb0) _ k _ (us (l.take k)) (by rfl) HT1.out.1 (HN1.out _ hba1) HT1.out.2 (by unfold maxLen; omega) (by omega) hba1.size ?_; intro A5 c5 w5 ho5 hg5 ha5; have hb5 : Below w.heap.size w w5 := hba1.grown hg5 hba1.size (fun g e => by have e' : some w.heap.size = some g := e; injection e' with e'; omega))
              | (refine step_append_el elem22 (by rfl) (.tmp 24) (.tmp 26) (by rfl) w.heap.size (.slice A5 k c5) k (us (l.take k)) (by rfl) ho5 _ 1 1 [.int .u64 y] (by rfl) (by rfl) (news_one hk5) (by simp [Value.oneCell']) (by unfold maxLen; omega) (by omega) hb5.size ?_; intro A7 c7 w7 ho7 hg7 ha7; have hb7 : Below w.heap.size w w7 := hb5.grown hg7 hb5.size (fun g e => (own_lt ho5 e).1))
              | (refine step_append_el elem22 (by rfl) (.tmp 24) (.tmp 26) (by rfl) w.heap.size (.slice A5 k c5) k (us (l.take k)) (by rfl) (ho5.alloc (.cells #[.int .u64 y] 31)) _ 1 1 [.int .u64 y] (by rfl) (by rfl) (news_one (heap_alloc_new w5 (.cells #[.int .u64 y] 31))) (by simp [Value.oneCell']) (by unfold maxLen; omega) (by omega) (Below.size (hb5.alloc hb5.size (.cells #[.int .u64 y] 31))) ?_; intro A7 c7 w7 ho7 hg7 ha7; have hb7 : Below w.heap.size w w7 := Below.grown (hb5.alloc hb5.size (.cells #[.int .u64 y] 31)) hg7 (Below.size (hb5.alloc hb5.size (.cells #[.int .u64 y] 31))) (fun g e => (own_lt ho5 e).1))
              | (refine step_append_el elem22 (by rfl) (.tmp 27) (.tmp 30) (by rfl) w.heap.size (.slice A7 (k + 1) c7) (k + 1) (us (l.take k) ++ [.int .u64 y]) (by rfl) ho7 _ 0 _ (us (l.drop k)) (by rfl) HT2.out.1 (HN2.out _ _ hb7) HT2.out.2 (by unfold maxLen; omega) (by omega) hb7.size ?_; intro A9 c9 w9 ho9 hg9 ha9; have hb9 : Below w.heap.size w w9 := hb7.grown hg9 hb7.size (fun g e => (own_lt ho7 e).1))
              | fail)
          all_goals
            have HG9 := Lib.hid (HFIN.out A9 c9 w9 ho9 hb9)
            clear ho9 hg9 ha9 hb9 ho7 hg7 ha7 hb7 ho5 hg5 ha5 hb5
            go_wp2_with fail
            go_ret
            exact HG9.out


end Go.Proofs.Ytdfmgfclcbeeiaa
