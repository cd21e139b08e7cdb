/-
  Rows of numbers and of edges, and the document's graph in memory. What only reads: SameNums, is, in, Has, find.
-/
import Derived.Test.YtdfmgfclcbeeiaaGAwake
import Derived.Deep.AppendLies
import Derived.Deep.RegionHeld3
import Derived.Lib.SmallJoins
namespace Go.Proofs.Ytdfmgfclcbeeiaa
open Go.RowKit Go.Maps Go.Sort
set_option linter.unusedSimpArgs false
set_option linter.unusedVariables false

/-- a slice that reads as the cells xs -/
def Row (w : World) (A : Option Addr) (xs : List Value) : Prop :=
  ∀ j, j < xs.length → ∃ ad, A = some ad ∧ ad.block < w.heap.size ∧ w.cell? (ad.add j) = xs[j]?
theorem block_add (a : Addr) (n : Nat) : (a.add n).block = a.block := by unfold Addr.add; split <;> rfl
def us (l : List Int) : List Value := l.map encU
theorem us_len (l : List Int) : (us l).length = l.length := by simp [us]
theorem us_at {l : List Int} {k : Nat} (h : k < l.length) : (us l)[k]? = some (.int .u64 (l.getD k 0)) := by simp [us, encU, List.getD, h]
/-- is it one of them? -/
def hasN (l : List Int) (y : Int) : Bool := l.contains y
theorem hasN_iff {l : List Int} {y : Int} : hasN l y = true ↔ y ∈ l := List.contains_iff_mem
theorem hasN_not {l : List Int} {y : Int} : hasN l y = false ↔ y ∉ l := by rw [← hasN_iff]; simp
theorem us_one (l : List Int) : ∀ u ∈ us l, u.oneCell' = true := fun u hu => by obtain ⟨x, _, rfl⟩ := List.mem_map.1 hu; rfl

theorem Row.kept {w w' : World} {A : Option Addr} {xs : List Value} (h : Row w A xs) (hs : w.heap.size ≤ w'.heap.size) (hk : ∀ ad, A = some ad → ad.block < w.heap.size → w'.heap[ad.block]? = w.heap[ad.block]?) : Row w' A xs :=
  fun j hj => by
    obtain ⟨ad, e, lt, c⟩ := h j hj
    exact ⟨ad, e, by omega, (World.cell?_of_block (by rw [block_add]; exact hk ad e lt)).trans c⟩
theorem Row.nil {w : World} {A : Option Addr} : Row w A [] := fun j hj => by simp at hj
theorem Row.below {w w' : World} {A : Option Addr} {xs : List Value} (h : Row w A xs) (hb : Below w.heap.size w w') : Row w' A xs := h.kept hb.size fun ad _ hg => hb.block _ hg
theorem Row.of_own {w : World} {base n e : Nat} {v : Value} {xs : List Value} (h : w.ownsRow base e 1 v n xs) : ∃ A c, v = .slice A n c ∧ n ≤ c ∧ Row w A xs := by
  have hl : xs.length = n := by simpa using h.1
  rcases h.2 with ⟨rfl, rfl⟩ | ⟨g, cap, cur, rfl, hg, hh, hnc, _, hcs, htake⟩
  · have : xs = [] := List.eq_nil_of_length_eq_zero hl
    subst this
    exact ⟨none, 0, rfl, Nat.le_refl _, Row.nil⟩
  · refine ⟨_, cap, rfl, hnc, fun j hj => ⟨_, rfl, lt_of_block hh, ?_⟩⟩
    rw [h.cells (g := g) rfl j xs[j] (by simp)]; simp [hj]

/-- a slice that reads as edges -/
def Edges (w : World) (A : Option Addr) (E : List Edg) : Prop :=
  ∀ j (hj : j < E.length), ∃ ad, A = some ad ∧ ad.block < w.heap.size ∧ w.cell? (ad.add (j * 3)) = some (.int .u64 (E[j]'hj).1) ∧ w.cell? ⟨(ad.add (j * 3)).block, (ad.add (j * 3)).off + 1, none⟩ = some (.int .u64 (E[j]'hj).2.1) ∧
    w.cell? ⟨(ad.add (j * 3)).block, (ad.add (j * 3)).off + 2, none⟩ = some (.bool (E[j]'hj).2.2)
def flatE (E : List Edg) : List Value := E.flatMap fun e => [.int .u64 e.1, .int .u64 e.2.1, .bool e.2.2]
theorem flatE_len (E : List Edg) : (flatE E).length = E.length * 3 := by
  induction E with
  | nil => rfl
  | cons e E ih =>
    show ([Value.int .u64 e.1, .int .u64 e.2.1, .bool e.2.2] ++ flatE E).length = _
    rw [List.length_append, ih, List.length_cons]
    simp
    omega
theorem flatE_one (E : List Edg) : ∀ u ∈ flatE E, u.oneCell' = true := fun u hu => by
  obtain ⟨e, _, he⟩ := List.mem_flatMap.1 hu
  simp at he
  rcases he with rfl | rfl | rfl <;> rfl
theorem flatE_append (E E' : List Edg) : flatE (E ++ E') = flatE E ++ flatE E' := by simp [flatE]
theorem flatE_take : ∀ (E : List Edg) (k : Nat), flatE (E.take k) = (flatE E).take (k * 3)
  | [], k => by simp [flatE]
  | e :: E, 0 => by simp [flatE]
  | e :: E, k + 1 => by
    show [Value.int .u64 e.1, .int .u64 e.2.1, .bool e.2.2] ++ flatE (E.take k) = ([Value.int .u64 e.1, .int .u64 e.2.1, .bool e.2.2] ++ flatE E).take ((k + 1) * 3)
    rw [flatE_take E k, List.take_append, show (k + 1) * 3 - [Value.int .u64 e.1, .int .u64 e.2.1, .bool e.2.2].length = k * 3 by show (k + 1) * 3 - 3 = k * 3; omega]
    rw [show ([Value.int .u64 e.1, .int .u64 e.2.1, .bool e.2.2]).take ((k + 1) * 3) = [Value.int .u64 e.1, .int .u64 e.2.1, .bool e.2.2] from List.take_of_length_le (by show 3 ≤ (k + 1) * 3; omega)]
theorem flatE_drop : ∀ (E : List Edg) (k : Nat), flatE (E.drop k) = (flatE E).drop (k * 3)
  | [], k => by simp [flatE]
  | e :: E, 0 => by simp [flatE]
  | e :: E, k + 1 => by
    show flatE (E.drop k) = ([Value.int .u64 e.1, .int .u64 e.2.1, .bool e.2.2] ++ flatE E).drop ((k + 1) * 3)
    rw [flatE_drop E k, List.drop_append, show (k + 1) * 3 - [Value.int .u64 e.1, .int .u64 e.2.1, .bool e.2.2].length = k * 3 by show (k + 1) * 3 - 3 = k * 3; omega]
    rw [show ([Value.int .u64 e.1, .int .u64 e.2.1, .bool e.2.2]).drop ((k + 1) * 3) = [] from List.drop_of_length_le (by show 3 ≤ (k + 1) * 3; omega)]
    rfl
theorem flatE_at : ∀ (E : List Edg) (j : Nat) (hj : j < E.length), (flatE E)[j * 3]? = some (.int .u64 (E[j]'hj).1) ∧ (flatE E)[j * 3 + 1]? = some (.int .u64 (E[j]'hj).2.1) ∧ (flatE E)[j * 3 + 2]? = some (.bool (E[j]'hj).2.2)
  | [], j, hj => by simp at hj
  | e :: E, 0, hj => by simp [flatE]
  | e :: E, j + 1, hj => by
    have h := flatE_at E j (by simpa using hj)
    have e1 : flatE (e :: E) = [Value.int .u64 e.1, .int .u64 e.2.1, .bool e.2.2] ++ flatE E := rfl
    rw [e1, List.getElem?_append_right (by simp; omega), List.getElem?_append_right (by simp; omega), List.getElem?_append_right (by simp; omega)]
    rw [show (j + 1) * 3 - [Value.int .u64 e.1, .int .u64 e.2.1, .bool e.2.2].length = j * 3 by simp; omega, show (j + 1) * 3 + 1 - [Value.int .u64 e.1, .int .u64 e.2.1, .bool e.2.2].length = j * 3 + 1 by simp; omega, show (j + 1) * 3 + 2 - [Value.int .u64 e.1, .int .u64 e.2.1, .bool e.2.2].length = j * 3 + 2 by simp; omega]
    exact h
theorem add_g (g j i : Nat) : (⟨((⟨g, 0, none⟩ : Addr).add j).block, ((⟨g, 0, none⟩ : Addr).add j).off + i, none⟩ : Addr) = (⟨g, 0, none⟩ : Addr).add (j + i) := by
  rw [Addr.add_lit, Addr.add_lit]; simp [Nat.add_assoc]
theorem Edges.of_own {w : World} {base n e : Nat} {v : Value} {E : List Edg} (h : w.ownsRow base e 3 v n (flatE E)) : ∃ A c, v = .slice A n c ∧ n ≤ c ∧ E.length = n ∧ Edges w A E := by
  have hl : E.length = n := by have := h.1; rw [flatE_len] at this; omega
  rcases h.2 with ⟨rfl, rfl⟩ | ⟨g, cap, cur, rfl, hg, hh, hnc, _, hcs, htake⟩
  · have : E = [] := List.eq_nil_of_length_eq_zero hl
    subst this
    exact ⟨none, 0, rfl, Nat.le_refl _, rfl, fun j hj => by simp at hj⟩
  · refine ⟨_, cap, rfl, hnc, hl, fun j hj => ⟨_, rfl, lt_of_block hh, ?_⟩⟩
    obtain ⟨h0, h1, h2⟩ := flatE_at E j hj
    rw [add_g, add_g]
    exact ⟨h.cells (g := g) rfl _ _ h0, h.cells (g := g) rfl _ _ h1, h.cells (g := g) rfl _ _ h2⟩
theorem Edges.below {w w' : World} {A : Option Addr} {E : List Edg} (h : Edges w A E) (hb : Below w.heap.size w w') : Edges w' A E := fun j hj => by
  obtain ⟨ad, e, lt, c0, c1, c2⟩ := h j hj
  have hbk : w'.heap[(ad.add (j * 3)).block]? = w.heap[(ad.add (j * 3)).block]? := by rw [block_add]; exact hb.block _ lt
  exact ⟨ad, e, Nat.lt_of_lt_of_le lt hb.size, (World.cell?_of_block hbk).trans c0, (World.cell?_of_block (a := ⟨(ad.add (j * 3)).block, (ad.add (j * 3)).off + 1, none⟩) hbk).trans c1, (World.cell?_of_block (a := ⟨(ad.add (j * 3)).block, (ad.add (j * 3)).off + 2, none⟩) hbk).trans c2⟩

set_option maxRecDepth 100000 in
set_option maxHeartbeats 1000000 in
theorem sameNums_yes (A B : Option Addr) (c d n : Nat) (l : List Int) (w : World) (hn : l.length = n) (h1 : Row w A (us l)) (h2 : Row w B (us l)) (hl : n ≤ 17592186044416) :
    Calls Try.prog 13 #[.slice A n c, .slice B n d] w fun e w' => e = .returned (.bool true) ∧ Below w.heap.size w w' := by
  have HN := Lib.hid hn
  clear hn
  go_enter Try.func13, Try.ntmps13
  go_wp2_with fail
  go_loopw [5, 13] (fun _ i wr => ∃ k : Nat, k ≤ n ∧ i = .int .i64 k ∧ Below w.heap.size w wr) (fun _ i _ => n - (intOf i).toNat)
  case atStart => exact ⟨0, Nat.zero_le _, rfl, Below.refl _ _⟩
  case round =>
    obtain ⟨k, hk, rfl, hbl⟩ := hrel
    by_cases hlt : k < n
    · have hlt' : k < l.length := by rw [HN.out]; exact hlt
      obtain ⟨ad, rfl, _, hcA⟩ := (h1.below hbl) k (by rw [us_len]; exact hlt')
      obtain ⟨bd, rfl, _, hcB⟩ := (h2.below hbl) k (by rw [us_len]; exact hlt')
      rw [us_at hlt'] at hcA hcB
      have i1 : (k : Int) < (n : Int) := by omega
      have HBL := Lib.hid hbl
      clear hbl h1 h2 hlt'
      go_wp2_with fail
      go_quiet (fail)
      go_wp2_with fail
      go_roundw
      case rel => exact ⟨k + 1, by omega, by go_num, ⟨HBL.out.os, HBL.out.tape, HBL.out.output, HBL.out.size, HBL.out.block⟩⟩
      case measure => simp [intOf]; omega
    · have i1 : ¬ (k : Int) < (n : Int) := by omega
      go_wp2_with fail
      go_ret
      exact ⟨rfl, hbl⟩

set_option maxRecDepth 100000 in
set_option maxHeartbeats 1000000 in
theorem is_any (A : Option Addr) (c n : Nat) (l : List Int) (y : Int) (w : World) (hn : l.length = n) (h1 : Row w A (us l)) (hl : n ≤ 17592186044416) :
    Calls Try.prog 36 #[.slice A n c, .int .u64 y] w fun e w' => e = .returned (.bool (hasN l y)) ∧ w' = w := by
  have HN := Lib.hid hn
  have H1 := Lib.hid h1
  clear hn h1
  go_enter Try.func36, Try.ntmps36
  go_wp2_with fail
  go_loop [6, 9] (fun _ i => ∃ k : Nat, k ≤ n ∧ i = .int .i64 k ∧ ∀ j, j < k → l.getD j 0 ≠ y) (fun _ i => n - (intOf i).toNat)
  case atStart => exact ⟨0, Nat.zero_le _, rfl, fun j hj => by omega⟩
  case round =>
    obtain ⟨k, hk, rfl, hno⟩ := hrel
    have HNO := Lib.hid hno
    clear hno
    by_cases hlt : k < n
    · have hlt' : k < l.length := by rw [HN.out]; exact hlt
      obtain ⟨ad, rfl, _, hcA⟩ := H1.out k (by rw [us_len]; exact hlt')
      rw [us_at hlt'] at hcA
      have i1 : (k : Int) < (n : Int) := by omega
      obtain ⟨z, hz⟩ : ∃ z, z = l.getD k 0 := ⟨_, rfl⟩
      rw [← hz] at hcA
      by_cases hzy : z = y
      · have HY : Hid (hasN l y = true) := by
          show _ = _
          rw [hasN_iff, ← hzy, hz]
          simp [List.getD, hlt']
        subst hzy
        clear hz
        go_wp2_with fail
        go_ret
        exact ⟨by rw [HY.out]; rfl, rfl⟩
      · have HNN : Hid (∀ j, j < k + 1 → l.getD j 0 ≠ y) := fun j hj => by
          by_cases e : j = k
          · rw [e, ← hz]; exact hzy
          · exact HNO.out j (by omega)
        have e2 : (z == y) = false := by simp [hzy]
        clear hz
        go_wp2_with fail
        go_round
        case rel => exact ⟨k + 1, by omega, by go_num, HNN.out⟩
        case measure => simp [intOf]; omega
    · have i1 : ¬ (k : Int) < (n : Int) := by omega
      have HY : Hid (hasN l y = false) := hasN_not.2 fun hc => by
        obtain ⟨j, hj, e⟩ := List.getElem_of_mem hc
        exact absurd (by simp [List.getD, hj, e]) (HNO.out j (by have := HN.out; omega))
      go_wp2_with fail
      go_ret
      exact ⟨by rw [HY.out]; rfl, rfl⟩

set_option maxRecDepth 100000 in
set_option maxHeartbeats 1000000 in
theorem in_any (A : Option Addr) (c n : Nat) (l : List Int) (y : Int) (w : World) (hn : l.length = n) (h1 : Row w A (us l)) (hl : n ≤ 17592186044416) :
    Calls Try.prog 23 #[.slice A n c, .int .u64 y] w fun e w' => e = .returned (.bool (hasN l y)) ∧ w' = w := by
  have HN := Lib.hid hn
  have H1 := Lib.hid h1
  clear hn h1
  go_enter Try.func23, Try.ntmps23
  go_wp2_with fail
  go_loop [6, 9] (fun _ i => ∃ k : Nat, k ≤ n ∧ i = .int .i64 k ∧ ∀ j, j < k → l.getD j 0 ≠ y) (fun _ i => n - (intOf i).toNat)
  case atStart => exact ⟨0, Nat.zero_le _, rfl, fun j hj => by omega⟩
  case round =>
    obtain ⟨k, hk, rfl, hno⟩ := hrel
    have HNO := Lib.hid hno
    clear hno
    by_cases hlt : k < n
    · have hlt' : k < l.length := by rw [HN.out]; exact hlt
      obtain ⟨ad, rfl, _, hcA⟩ := H1.out k (by rw [us_len]; exact hlt')
      rw [us_at hlt'] at hcA
      have i1 : (k : Int) < (n : Int) := by omega
      obtain ⟨z, hz⟩ : ∃ z, z = l.getD k 0 := ⟨_, rfl⟩
      rw [← hz] at hcA
      by_cases hzy : z = y
      · have HY : Hid (hasN l y = true) := by
          show _ = _
          rw [hasN_iff, ← hzy, hz]
          simp [List.getD, hlt']
        subst hzy
        clear hz
        go_wp2_with fail
        go_ret
        exact ⟨by rw [HY.out]; rfl, rfl⟩
      · have HNN : Hid (∀ j, j < k + 1 → l.getD j 0 ≠ y) := fun j hj => by
          by_cases e : j = k
          · rw [e, ← hz]; exact hzy
          · exact HNO.out j (by omega)
        have e2 : (z == y) = false := by simp [hzy]
        clear hz
        go_wp2_with fail
        go_round
        case rel => exact ⟨k + 1, by omega, by go_num, HNN.out⟩
        case measure => simp [intOf]; omega
    · have i1 : ¬ (k : Int) < (n : Int) := by omega
      have HY : Hid (hasN l y = false) := hasN_not.2 fun hc => by
        obtain ⟨j, hj, e⟩ := List.getElem_of_mem hc
        exact absurd (by simp [List.getD, hj, e]) (HNO.out j (by have := HN.out; omega))
      go_wp2_with fail
      go_ret
      exact ⟨by rw [HY.out]; rfl, rfl⟩

end Go.Proofs.Ytdfmgfclcbeeiaa
