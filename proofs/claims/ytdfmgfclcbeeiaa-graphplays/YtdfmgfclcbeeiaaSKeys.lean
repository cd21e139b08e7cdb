/-
  maps.Keys at uint64, and the list of a map's keys, sorted.
-/
import Derived.Sort.MapsRangeIn
import Derived.Sort.KeysCollected
import Derived.Test.YtdfmgfclcbeeiaaSSorted
namespace Go.Proofs.Ytdfmgfclcbeeiaa
open Go.RowKit Go.Maps Go.Sort Go.Shelf
attribute [local go_sem] Oper.semAt_some
set_option linter.unusedSimpArgs false
set_option linter.unusedVariables false

section
variable {H : Type} {D0 : DataW H} {left : Lit → Bool} {xs : List Int}

/-- the keys that have come: those of the map that are not left -/
structure Col (D0 : DataW H) (left : Lit → Bool) (xs : List Int) : Prop where
  nd : xs.Nodup
  mem : ∀ x, x ∈ xs ↔ has D0 (.int .u64 x) = true ∧ left (.int .u64 x) = false

theorem Col.start (D0 : DataW H) : Col D0 (has D0) [] := ⟨List.nodup_nil, fun x => by cases has D0 (.int .u64 x) <;> simp⟩

theorem Col.step (h : Col D0 left xs) {x : Int} {y : DataW H} (hlk : left (.int .u64 x) = true) (hat : ∀ zd, D0.atKey (.int .u64 x) zd = y) : Col D0 (fun z => left z && !z.sameKey (.int .u64 x)) (xs ++ [x]) where
  nd := List.nodup_append.2 ⟨h.nd, by simp, fun a ha b hb e => by
    simp at hb
    subst hb
    subst e
    have := ((h.mem a).1 ha).2
    rw [hlk] at this
    cases this⟩
  mem z := by
    have hh : has D0 (.int .u64 x) = true := has_true_of_atKey hat
    by_cases hz : z = x
    · subst hz; simp [hh, Lit.sameKey]
    · simp [h.mem z, hz, Lit.sameKey]
end

/-- all keys of a map, each once -/
def AllKeys {H : Type} (D0 : DataW H) (xs : List Int) : Prop := xs.Nodup ∧ ∀ x, x ∈ xs ↔ has D0 (.int .u64 x) = true

theorem ownsMap_below {H : Type} {w W : World} {k : TypeId} {R : Value → Option (DataW H × List MemPlace)} {b nn : Nat} {D0 : DataW H} (h : w.ownsMap Try.prog k R b nn D0) (hB : Below w.heap.size w W) : W.ownsMap Try.prog k R b nn D0 := by
  have hbl := h.lt
  obtain ⟨es, clock, hb, Ft, hs, hD⟩ := h
  exact ⟨es, clock, (hB.block b hbl).trans hb, Ft, hs, hD⟩

theorem row_base {W : World} {base base' : Nat} {e : TypeId} {size : Nat} {v : Value} {k : Nat} {xs : List Value} (h : W.ownsRow base e size v k xs) (hb : base' ≤ base) : W.ownsRow base' e size v k xs := by
  refine ⟨h.1, ?_⟩
  rcases h.2 with hn | ⟨g, cap, cur, hv, hbg, rest⟩
  · exact .inl hn
  · exact .inr ⟨g, cap, cur, hv, Nat.le_trans hb hbg, rest⟩

theorem upU_perm (xs : List Int) : (upU xs).Perm xs := List.mergeSort_perm _ _

theorem upU_le (xs : List Int) : (upU xs).Pairwise (fun x y => x ≤ y) := by
  have h := List.pairwise_mergeSort (le := fun x y : Int => !ltInt y x) (fun a b c h1 h2 => by simp [ltInt] at *; omega) (fun a b => by simp [ltInt]; omega) xs
  exact h.imp fun {a b} hab => by simpa [ltInt] using hab

/-- the keys in their order: each once, rising -/
theorem upU_keys {H : Type} {D0 : DataW H} {xs : List Int} (h : AllKeys D0 xs) : (upU xs).Pairwise (fun x y => x < y) ∧ ∀ x, x ∈ upU xs ↔ has D0 (.int .u64 x) = true := by
  refine ⟨?_, fun x => by rw [(upU_perm xs).mem_iff]; exact h.2 x⟩
  have hn : (upU xs).Nodup := (upU_perm xs).nodup_iff.2 h.1
  exact ((upU_le xs).and hn).imp fun {a b} hab => by have := hab.1; have := hab.2; omega

set_option maxRecDepth 100000 in
set_option maxHeartbeats 1000000 in
theorem iter42 {H : Type} (Bm b nn : Nat) (D0 : DataW H) {R : Value → Option (DataW H × List MemPlace)} (w : World) (hBm : Bm < w.heap.size) (hm : w.cell? ⟨Bm, 0, none⟩ = some (.map (some b))) (hown : w.ownsMap Try.prog 31 R b nn D0) :
    SeqStopsK Fence.wide 2 Try.prog 42 #[.pointer (some ⟨Bm, 0, none⟩)] (fun x : Int => #[.int .u64 x]) KeepsWalks (AllKeys D0) (fun _ => True) (Maps.size D0) w := by
  intro l J Jx W hW hJ hJx hY h0
  have hown' := ownsMap_below hown hW
  have hm' := (hW.cell (p := ⟨Bm, 0, none⟩) hBm).trans hm
  show CallsIn Fence.wide 2 Try.prog 42 #[.func (.yield l) #[] #[], .pointer (some ⟨Bm, 0, none⟩)] W _
  refine callsIn_of_wp Try.func42 rfl trivial ?_ rfl
  simp only [Try.ntmps42, List.size_toArray, List.length_cons, List.length_nil, Nat.reduceAdd, Nat.reduceSub, Array.replicate_succ, Array.replicate_zero, List.push_toArray, List.append_toArray, List.nil_append, List.cons_append]
  gi_wp2_with (first
    | (gi_at_range; refine wpListIn_range_own _ rfl _ 64 rfl 31 65 (int_keyed Try.underlying31) Try.underlying64 _ b nn _ rfl hown' ?_; intro w0 hrg0 hg0 hs0)
    | gi_in)
  (try go_frame)
  gi_loopw [3] (fun _ wr => ∃ (left : Lit → Bool) (cnt : Nat) (xs : List Int), wr.ranges Try.prog 31 R b W.heap.size nn D0 left cnt ∧ xs.length + cnt ≤ Maps.size D0 ∧ Col D0 left xs ∧ J xs wr) (fun _ wr => wr.rangeLeft b W.heap.size)
  case atStart => exact ⟨_, _, [], hrg0, by simp, Col.start D0, hJ [] W w0 none h0 hg0 (fun r e => by cases e)⟩
  case round =>
    obtain ⟨left, cnt, xs, hrg, hcs, hC, hJs⟩ := hrel
    gi_wp2_with (first
      | (gi_at_next; refine wpListIn_next_ranges _ rfl _ rfl 31 (int_keyed Try.underlying31) R (Value.int .u64) id (fun key kl hk => by obtain ⟨x, hx, _⟩ := Maps.keyOf_int_inv Try.underlying31 hk; exact ⟨x, hx⟩) (fun v _ _ => ⟨v, rfl⟩) b W.heap.size nn _ _ _ rfl hrg ?_ ?_)
      | gi_in)
    · intro hc0 hl0
      gi_wp2
      go_end0
      exact ⟨⟨_, rfl⟩, .inl ⟨xs, ⟨hC.nd, fun x => by rw [hC.mem x, hl0]; simp⟩, hJs⟩⟩
    · intro x c kl yd yp w2 cnt2 hkey hlk hv hat hrg2 hlt hg2 hs2 hen
      obtain ⟨x', ex, rfl, _⟩ := Maps.keyOf_int_inv Try.underlying31 hkey
      obtain rfl : x = x' := by cases ex; rfl
      have hJ2 : J xs w2 := hJ xs wr w2 (some W.heap.size) hJs hg2 (fun r e => by cases e; exact ⟨Nat.le_refl _, hrg.iter_walk⟩)
      obtain ⟨fn, tmps, assign, body, hy, hR⟩ := hY xs x w2 hJ2 (by omega)
      clear hs2
      gi_wp2
      refine hR.mono ?_
      rintro e W3 (⟨rfl, hJ3, hk3⟩ | ⟨rfl, hJx3⟩)
      · gi_wp2
        have hrg3 := hrg2.of_walks hk3
        go_roundw
        case rel => exact ⟨_, cnt2, xs ++ [x], hrg3, by simp; omega, hC.step hlk hat, hJ3⟩
        case measure => rw [hrg3.left_eq, hrg.left_eq]; exact hlt
      · gi_wp2
        refine bodyPost_ret (results_none rfl _ _ _) rfl ?_
        exact ⟨⟨_, rfl⟩, .inr ⟨xs ++ [x], trivial, hJx3⟩⟩

set_option maxRecDepth 100000 in
set_option maxHeartbeats 1000000 in
theorem iter45 {H : Type} (Bm b nn : Nat) (D0 : DataW H) {R : Value → Option (DataW H × List MemPlace)} (w : World) (hBm : Bm < w.heap.size) (hm : w.cell? ⟨Bm, 0, none⟩ = some (.map (some b))) (hown : w.ownsMap Try.prog 31 R b nn D0) :
    SeqStopsK Fence.wide 2 Try.prog 45 #[.pointer (some ⟨Bm, 0, none⟩)] (fun x : Int => #[.int .u64 x]) KeepsWalks (AllKeys D0) (fun _ => True) (Maps.size D0) w := by
  intro l J Jx W hW hJ hJx hY h0
  have hown' := ownsMap_below hown hW
  have hm' := (hW.cell (p := ⟨Bm, 0, none⟩) hBm).trans hm
  show CallsIn Fence.wide 2 Try.prog 45 #[.func (.yield l) #[] #[], .pointer (some ⟨Bm, 0, none⟩)] W _
  refine callsIn_of_wp Try.func45 rfl trivial ?_ rfl
  simp only [Try.ntmps45, List.size_toArray, List.length_cons, List.length_nil, Nat.reduceAdd, Nat.reduceSub, Array.replicate_succ, Array.replicate_zero, List.push_toArray, List.append_toArray, List.nil_append, List.cons_append]
  gi_wp2_with (first
    | (gi_at_range; refine wpListIn_range_own _ rfl _ 68 rfl 31 67 (int_keyed Try.underlying31) Try.underlying68 _ b nn _ rfl hown' ?_; intro w0 hrg0 hg0 hs0)
    | gi_in)
  (try go_frame)
  gi_loopw [3] (fun _ wr => ∃ (left : Lit → Bool) (cnt : Nat) (xs : List Int), wr.ranges Try.prog 31 R b W.heap.size nn D0 left cnt ∧ xs.length + cnt ≤ Maps.size D0 ∧ Col D0 left xs ∧ J xs wr) (fun _ wr => wr.rangeLeft b W.heap.size)
  case atStart => exact ⟨_, _, [], hrg0, by simp, Col.start D0, hJ [] W w0 none h0 hg0 (fun r e => by cases e)⟩
  case round =>
    obtain ⟨left, cnt, xs, hrg, hcs, hC, hJs⟩ := hrel
    gi_wp2_with (first
      | (gi_at_next; refine wpListIn_next_ranges _ rfl _ rfl 31 (int_keyed Try.underlying31) R (Value.int .u64) id (fun key kl hk => by obtain ⟨x, hx, _⟩ := Maps.keyOf_int_inv Try.underlying31 hk; exact ⟨x, hx⟩) (fun v _ _ => ⟨v, rfl⟩) b W.heap.size nn _ _ _ rfl hrg ?_ ?_)
      | gi_in)
    · intro hc0 hl0
      gi_wp2
      go_end0
      exact ⟨⟨_, rfl⟩, .inl ⟨xs, ⟨hC.nd, fun x => by rw [hC.mem x, hl0]; simp⟩, hJs⟩⟩
    · intro x c kl yd yp w2 cnt2 hkey hlk hv hat hrg2 hlt hg2 hs2 hen
      obtain ⟨x', ex, rfl, _⟩ := Maps.keyOf_int_inv Try.underlying31 hkey
      obtain rfl : x = x' := by cases ex; rfl
      have hJ2 : J xs w2 := hJ xs wr w2 (some W.heap.size) hJs hg2 (fun r e => by cases e; exact ⟨Nat.le_refl _, hrg.iter_walk⟩)
      obtain ⟨fn, tmps, assign, body, hy, hR⟩ := hY xs x w2 hJ2 (by omega)
      clear hs2
      gi_wp2
      refine hR.mono ?_
      rintro e W3 (⟨rfl, hJ3, hk3⟩ | ⟨rfl, hJx3⟩)
      · gi_wp2
        have hrg3 := hrg2.of_walks hk3
        go_roundw
        case rel => exact ⟨_, cnt2, xs ++ [x], hrg3, by simp; omega, hC.step hlk hat, hJ3⟩
        case measure => rw [hrg3.left_eq, hrg.left_eq]; exact hlt
      · gi_wp2
        refine bodyPost_ret (results_none rfl _ _ _) rfl ?_
        exact ⟨⟨_, rfl⟩, .inr ⟨xs ++ [x], trivial, hJx3⟩⟩

set_option maxRecDepth 100000 in
set_option maxHeartbeats 1000000 in
theorem iter46 {H : Type} (Bm b nn : Nat) (D0 : DataW H) {R : Value → Option (DataW H × List MemPlace)} (w : World) (hBm : Bm < w.heap.size) (hm : w.cell? ⟨Bm, 0, none⟩ = some (.map (some b))) (hown : w.ownsMap Try.prog 31 R b nn D0) :
    SeqStopsK Fence.wide 2 Try.prog 46 #[.pointer (some ⟨Bm, 0, none⟩)] (fun x : Int => #[.int .u64 x]) KeepsWalks (AllKeys D0) (fun _ => True) (Maps.size D0) w := by
  intro l J Jx W hW hJ hJx hY h0
  have hown' := ownsMap_below hown hW
  have hm' := (hW.cell (p := ⟨Bm, 0, none⟩) hBm).trans hm
  show CallsIn Fence.wide 2 Try.prog 46 #[.func (.yield l) #[] #[], .pointer (some ⟨Bm, 0, none⟩)] W _
  refine callsIn_of_wp Try.func46 rfl trivial ?_ rfl
  simp only [Try.ntmps46, List.size_toArray, List.length_cons, List.length_nil, Nat.reduceAdd, Nat.reduceSub, Array.replicate_succ, Array.replicate_zero, List.push_toArray, List.append_toArray, List.nil_append, List.cons_append]
  gi_wp2_with (first
    | (gi_at_range; refine wpListIn_range_own _ rfl _ 55 rfl 31 64 (int_keyed Try.underlying31) Try.underlying55 _ b nn _ rfl hown' ?_; intro w0 hrg0 hg0 hs0)
    | gi_in)
  (try go_frame)
  gi_loopw [3] (fun _ wr => ∃ (left : Lit → Bool) (cnt : Nat) (xs : List Int), wr.ranges Try.prog 31 R b W.heap.size nn D0 left cnt ∧ xs.length + cnt ≤ Maps.size D0 ∧ Col D0 left xs ∧ J xs wr) (fun _ wr => wr.rangeLeft b W.heap.size)
  case atStart => exact ⟨_, _, [], hrg0, by simp, Col.start D0, hJ [] W w0 none h0 hg0 (fun r e => by cases e)⟩
  case round =>
    obtain ⟨left, cnt, xs, hrg, hcs, hC, hJs⟩ := hrel
    gi_wp2_with (first
      | (gi_at_next; refine wpListIn_next_ranges _ rfl _ rfl 31 (int_keyed Try.underlying31) R (Value.int .u64) id (fun key kl hk => by obtain ⟨x, hx, _⟩ := Maps.keyOf_int_inv Try.underlying31 hk; exact ⟨x, hx⟩) (fun v _ _ => ⟨v, rfl⟩) b W.heap.size nn _ _ _ rfl hrg ?_ ?_)
      | gi_in)
    · intro hc0 hl0
      gi_wp2
      go_end0
      exact ⟨⟨_, rfl⟩, .inl ⟨xs, ⟨hC.nd, fun x => by rw [hC.mem x, hl0]; simp⟩, hJs⟩⟩
    · intro x c kl yd yp w2 cnt2 hkey hlk hv hat hrg2 hlt hg2 hs2 hen
      obtain ⟨x', ex, rfl, _⟩ := Maps.keyOf_int_inv Try.underlying31 hkey
      obtain rfl : x = x' := by cases ex; rfl
      have hJ2 : J xs w2 := hJ xs wr w2 (some W.heap.size) hJs hg2 (fun r e => by cases e; exact ⟨Nat.le_refl _, hrg.iter_walk⟩)
      obtain ⟨fn, tmps, assign, body, hy, hR⟩ := hY xs x w2 hJ2 (by omega)
      clear hs2
      gi_wp2
      refine hR.mono ?_
      rintro e W3 (⟨rfl, hJ3, hk3⟩ | ⟨rfl, hJx3⟩)
      · gi_wp2
        have hrg3 := hrg2.of_walks hk3
        go_roundw
        case rel => exact ⟨_, cnt2, xs ++ [x], hrg3, by simp; omega, hC.step hlk hat, hJ3⟩
        case measure => rw [hrg3.left_eq, hrg.left_eq]; exact hlt
      · gi_wp2
        refine bodyPost_ret (results_none rfl _ _ _) rfl ?_
        exact ⟨⟨_, rfl⟩, .inr ⟨xs ++ [x], trivial, hJx3⟩⟩

set_option maxHeartbeats 1000000 in
theorem keys33 (mb : Option Nat) (w : World) : Calls Try.prog 33 #[.map mb] w fun e w' => e = .returned (.func (.func 42) #[] #[.pointer (some ⟨w.heap.size, 0, none⟩)]) ∧ w' = w.alloc (.cells #[.map mb] 64) := by
  go_enter Try.func33, Try.ntmps33
  go_wp2_with fail
  go_ret
  exact ⟨rfl, rfl⟩

theorem sorted42 {H : Type} (b nn : Nat) (D0 : DataW H) {R : Value → Option (DataW H × List MemPlace)} (w : World) (hown : w.ownsMap Try.prog 31 R b nn D0) (hN : Maps.size D0 ≤ 17592186044416) :
    Calls Try.prog 32 #[.func (.func 42) #[] #[.pointer (some ⟨w.heap.size, 0, none⟩)]] (w.alloc (.cells #[.map (some b)] 64)) fun e w' => ∃ (v : Value) (xs : List Int), e = .returned v ∧ (AllKeys D0 xs ∧ xs.length ≤ Maps.size D0) ∧ w'.ownsRow w.heap.size 31 1 v xs.length ((upU xs).map encU) ∧ (v = .slice none 0 0 ↔ xs = []) ∧ Below w.heap.size w w' := by
  have hB : Below w.heap.size w (w.alloc (.cells #[.map (some b)] 64)) := (Below.refl _ w).alloc (Nat.le_refl _) _
  have hs := iter42 w.heap.size b nn D0 (w.alloc (.cells #[.map (some b)] 64)) (by simp) (by simp) (ownsMap_below hown hB)
  refine (sorted_any (enters_of Try.func42 (by kernel_rfl) rfl) hN _ hs).mono ?_
  rintro e w' ⟨v, xs, rfl, h, hr, hn, hB2⟩
  exact ⟨v, xs, rfl, h, row_base hr (by simp), hn, hB.trans (hB2.mono (by simp))⟩

set_option maxHeartbeats 1000000 in
theorem keys35 (mb : Option Nat) (w : World) : Calls Try.prog 35 #[.map mb] w fun e w' => e = .returned (.func (.func 45) #[] #[.pointer (some ⟨w.heap.size, 0, none⟩)]) ∧ w' = w.alloc (.cells #[.map mb] 68) := by
  go_enter Try.func35, Try.ntmps35
  go_wp2_with fail
  go_ret
  exact ⟨rfl, rfl⟩

theorem sorted45 {H : Type} (b nn : Nat) (D0 : DataW H) {R : Value → Option (DataW H × List MemPlace)} (w : World) (hown : w.ownsMap Try.prog 31 R b nn D0) (hN : Maps.size D0 ≤ 17592186044416) :
    Calls Try.prog 32 #[.func (.func 45) #[] #[.pointer (some ⟨w.heap.size, 0, none⟩)]] (w.alloc (.cells #[.map (some b)] 68)) fun e w' => ∃ (v : Value) (xs : List Int), e = .returned v ∧ (AllKeys D0 xs ∧ xs.length ≤ Maps.size D0) ∧ w'.ownsRow w.heap.size 31 1 v xs.length ((upU xs).map encU) ∧ (v = .slice none 0 0 ↔ xs = []) ∧ Below w.heap.size w w' := by
  have hB : Below w.heap.size w (w.alloc (.cells #[.map (some b)] 68)) := (Below.refl _ w).alloc (Nat.le_refl _) _
  have hs := iter45 w.heap.size b nn D0 (w.alloc (.cells #[.map (some b)] 68)) (by simp) (by simp) (ownsMap_below hown hB)
  refine (sorted_any (enters_of Try.func45 (by kernel_rfl) rfl) hN _ hs).mono ?_
  rintro e w' ⟨v, xs, rfl, h, hr, hn, hB2⟩
  exact ⟨v, xs, rfl, h, row_base hr (by simp), hn, hB.trans (hB2.mono (by simp))⟩

set_option maxHeartbeats 1000000 in
theorem keys37 (mb : Option Nat) (w : World) : Calls Try.prog 37 #[.map mb] w fun e w' => e = .returned (.func (.func 46) #[] #[.pointer (some ⟨w.heap.size, 0, none⟩)]) ∧ w' = w.alloc (.cells #[.map mb] 55) := by
  go_enter Try.func37, Try.ntmps37
  go_wp2_with fail
  go_ret
  exact ⟨rfl, rfl⟩

theorem sorted46 {H : Type} (b nn : Nat) (D0 : DataW H) {R : Value → Option (DataW H × List MemPlace)} (w : World) (hown : w.ownsMap Try.prog 31 R b nn D0) (hN : Maps.size D0 ≤ 17592186044416) :
    Calls Try.prog 32 #[.func (.func 46) #[] #[.pointer (some ⟨w.heap.size, 0, none⟩)]] (w.alloc (.cells #[.map (some b)] 55)) fun e w' => ∃ (v : Value) (xs : List Int), e = .returned v ∧ (AllKeys D0 xs ∧ xs.length ≤ Maps.size D0) ∧ w'.ownsRow w.heap.size 31 1 v xs.length ((upU xs).map encU) ∧ (v = .slice none 0 0 ↔ xs = []) ∧ Below w.heap.size w w' := by
  have hB : Below w.heap.size w (w.alloc (.cells #[.map (some b)] 55)) := (Below.refl _ w).alloc (Nat.le_refl _) _
  have hs := iter46 w.heap.size b nn D0 (w.alloc (.cells #[.map (some b)] 55)) (by simp) (by simp) (ownsMap_below hown hB)
  refine (sorted_any (enters_of Try.func46 (by kernel_rfl) rfl) hN _ hs).mono ?_
  rintro e w' ⟨v, xs, rfl, h, hr, hn, hB2⟩
  exact ⟨v, xs, rfl, h, row_base hr (by simp), hn, hB.trans (hB2.mono (by simp))⟩

end Go.Proofs.Ytdfmgfclcbeeiaa
