/-
  The document's graph: nodes that rise, edges once each; what becomes of it, and what it tells.
-/
import Derived.Test.YtdfmgfclcbeeiaaGWay
namespace Go.Proofs.Ytdfmgfclcbeeiaa
open Go.RowKit Go.Maps
set_option linter.unusedSimpArgs false
set_option linter.unusedVariables false

/-- an edge: its ends, whether it is needed -/
abbrev Edg := Int × Int × Bool

/-- e is between x and y -/
def lnk (e : Edg) (x y : Int) : Bool := e.1 == min x y && e.2.1 == max x y
theorem lnk_iff {e : Edg} {x y : Int} : lnk e x y = true ↔ e.1 = min x y ∧ e.2.1 = max x y := by simp [lnk]
theorem lnk_sym (e : Edg) (x y : Int) : lnk e x y = lnk e y x := by unfold lnk; rw [show min x y = min y x by omega, show max x y = max y x by omega]
theorem lnk_or {e : Edg} {x y : Int} (h : e.1 < e.2.1) : lnk e x y = true ↔ (e.1 = x ∧ e.2.1 = y) ∨ (e.1 = y ∧ e.2.1 = x) := by
  rw [lnk_iff]; omega

/-- the kind of the edge between two -/
def fE (E : List Edg) (x y : Int) : Int := match E.find? (fun e => lnk e x y) with
  | none => 0
  | some e => if e.2.2 then 2 else 1

structure GoodE (N : List Int) (E : List Edg) : Prop where
  lt : ∀ e ∈ E, e.1 < e.2.1
  mem : ∀ e ∈ E, e.1 ∈ N ∧ e.2.1 ∈ N
  one : E.Pairwise (fun e e' => ¬ (e.1 = e'.1 ∧ e.2.1 = e'.2.1))

theorem fE_sym (E : List Edg) (x y : Int) : fE E x y = fE E y x := by
  unfold fE
  simp only [lnk_sym _ x y]
theorem fE_kd (E : List Edg) : Kd (fE E) := fun x y => by
  unfold fE
  split
  · simp
  · split <;> simp

theorem one_of {E : List Edg} (h : E.Pairwise (fun e e' => ¬ (e.1 = e'.1 ∧ e.2.1 = e'.2.1))) {e e' : Edg} (he : e ∈ E) (he' : e' ∈ E) (h1 : e.1 = e'.1) (h2 : e.2.1 = e'.2.1) : e = e' := by
  induction E with
  | nil => simp at he
  | cons a E ih =>
    obtain ⟨ha, hE⟩ := List.pairwise_cons.1 h
    rcases List.mem_cons.1 he with r1 | r1 <;> rcases List.mem_cons.1 he' with r2 | r2
    · rw [r1, r2]
    · subst r1; exact absurd ⟨h1, h2⟩ (ha e' r2)
    · subst r2; exact absurd ⟨h1.symm, h2.symm⟩ (ha e r1)
    · exact ih hE r1 r2

section
variable {N : List Int} {E : List Edg} {x y : Int}

theorem fE_zero : fE E x y = 0 ↔ ∀ e ∈ E, lnk e x y = false := by
  unfold fE
  split
  · rename_i h
    simp only [true_iff]
    intro e he
    have := List.find?_eq_none.1 h e he
    simpa using this
  · rename_i e h
    have h1 := List.find?_some h
    have h2 := List.mem_of_find?_eq_some h
    constructor
    · intro h3; split at h3 <;> simp at h3
    · intro h3; rw [h3 e h2] at h1; cases h1

theorem fE_of (h : GoodE N E) {e : Edg} (he : e ∈ E) (hl : lnk e x y = true) : fE E x y = if e.2.2 then 2 else 1 := by
  unfold fE
  split
  · rename_i h3
    have := List.find?_eq_none.1 h3 e he
    rw [hl] at this; simp at this
  · rename_i e' h3
    have h1 := List.find?_some h3
    have h2 := List.mem_of_find?_eq_some h3
    have a := lnk_iff.1 hl
    have b := lnk_iff.1 (show lnk e' x y = true from h1)
    rw [one_of h.one he h2 (by omega) (by omega)]

theorem fE_ne : fE E x y ≠ 0 ↔ ∃ e ∈ E, lnk e x y = true := by
  rw [Ne, fE_zero]
  constructor
  · intro h
    apply Classical.byContradiction
    intro hn
    refine h fun e he => ?_
    cases hh : lnk e x y with
    | false => rfl
    | true => exact absurd ⟨e, he, hh⟩ hn
  · rintro ⟨e, he, hl⟩ h
    rw [h e he] at hl
    cases hl

theorem fE_one (h : GoodE N E) : fE E x y = 1 ↔ ∃ e ∈ E, lnk e x y = true ∧ e.2.2 = false := by
  constructor
  · intro h1
    obtain ⟨e, he, hl⟩ := fE_ne.1 (show fE E x y ≠ 0 by omega)
    refine ⟨e, he, hl, ?_⟩
    rw [fE_of h he hl] at h1
    cases hb : e.2.2 with
    | false => rfl
    | true => rw [hb] at h1; simp at h1
  · rintro ⟨e, he, hl, hb⟩
    rw [fE_of h he hl, hb]; rfl

theorem fE_two (h : GoodE N E) : fE E x y = 2 ↔ ∃ e ∈ E, lnk e x y = true ∧ e.2.2 = true := by
  constructor
  · intro h1
    obtain ⟨e, he, hl⟩ := fE_ne.1 (show fE E x y ≠ 0 by omega)
    refine ⟨e, he, hl, ?_⟩
    rw [fE_of h he hl] at h1
    cases hb : e.2.2 with
    | true => rfl
    | false => rw [hb] at h1; simp at h1
  · rintro ⟨e, he, hl, hb⟩
    rw [fE_of h he hl, hb]; rfl

theorem fE_nodes (h : GoodE N E) (hf : fE E x y ≠ 0) : x ∈ N ∧ y ∈ N ∧ x ≠ y := by
  obtain ⟨e, he, hl⟩ := fE_ne.1 hf
  have h1 := h.lt e he
  have h2 := h.mem e he
  rcases (lnk_or h1).1 hl with ⟨rfl, rfl⟩ | ⟨rfl, rfl⟩
  · exact ⟨h2.1, h2.2, by omega⟩
  · exact ⟨h2.2, h2.1, by omega⟩

theorem both_at (f : Int → Int → Int) (x y k a b : Int) : both f x y k a b = if (a = x ∧ b = y) ∨ (a = y ∧ b = x) then k else f a b := by
  unfold both upd2 upd
  by_cases h1 : a = y <;> by_cases h2 : b = x <;> by_cases h3 : a = x <;> by_cases h4 : b = y <;> simp [h1, h2, h3, h4] <;> (try subst h1) <;> (try subst h2) <;> simp_all

/-- two kinds of edges are told by two questions -/
theorem kd_ext {f g : Int → Int → Int} (hf : Kd f) (hg : Kd g) (h1 : ∀ x y, f x y = 1 ↔ g x y = 1) (h2 : ∀ x y, f x y = 2 ↔ g x y = 2) : f = g := by
  funext x y
  have a := h1 x y
  have b := h2 x y
  rcases hf x y with h | h | h <;> rcases hg x y with k | k | k <;> rw [h, k] at a b ⊢ <;> simp at a b

theorem Kd.both {f : Int → Int → Int} (h : Kd f) (x y : Int) {k : Int} (hk : k = 0 ∨ k = 1 ∨ k = 2) : Kd (both f x y k) := (h.upd2 x y hk).upd2 y x hk

/-- an edge more -/
theorem GoodE.more (h : GoodE N E) (hx : x ∈ N) (hy : y ∈ N) (hxy : x ≠ y) (h0 : fE E x y = 0) (b : Bool) : GoodE N (E ++ [(min x y, max x y, b)]) where
  lt e he := by
    rcases List.mem_append.1 he with he | he
    · exact h.lt e he
    · simp at he; subst he; show min x y < max x y; omega
  mem e he := by
    rcases List.mem_append.1 he with he | he
    · exact h.mem e he
    · simp at he; subst he
      show min x y ∈ N ∧ max x y ∈ N
      rcases Int.le_total x y with hl | hl
      · rw [Int.min_eq_left hl, Int.max_eq_right hl]; exact ⟨hx, hy⟩
      · rw [Int.min_eq_right hl, Int.max_eq_left hl]; exact ⟨hy, hx⟩
  one := List.pairwise_append.2 ⟨h.one, by simp, fun e he e' he' hh => by
    simp at he'
    subst he'
    have := fE_zero.1 h0 e he
    rw [lnk_iff.2 hh] at this
    cases this⟩

theorem lnk_min {e : Edg} {x y a b : Int} (hxy : x ≠ y) (he : e.1 = min x y ∧ e.2.1 = max x y) : lnk e a b = true ↔ (a = x ∧ b = y) ∨ (a = y ∧ b = x) := by
  rw [lnk_or (by omega)]; omega

theorem fE_more (h : GoodE N E) (hx : x ∈ N) (hy : y ∈ N) (hxy : x ≠ y) (h0 : fE E x y = 0) (b : Bool) : fE (E ++ [(min x y, max x y, b)]) = both (fE E) x y (if b then 2 else 1) := by
  have h' := h.more hx hy hxy h0 b
  have hz := fE_zero.1 h0
  funext u v
  rw [both_at]
  by_cases hc : (u = x ∧ v = y) ∨ (u = y ∧ v = x)
  · rw [if_pos hc, fE_of h' (e := (min x y, max x y, b)) (by simp) ((lnk_min hxy ⟨rfl, rfl⟩).2 hc)]
  · rw [if_neg hc]
    unfold fE
    rw [List.find?_append]
    have hn : lnk (min x y, max x y, b) u v = false := by
      cases hh : lnk (min x y, max x y, b) u v with
      | false => rfl
      | true => exact absurd ((lnk_min hxy ⟨rfl, rfl⟩).1 hh) hc
    simp [hn]

/-- an edge that becomes needed -/
theorem GoodE.need (h : GoodE N E) {i : Nat} (hi : i < E.length) : GoodE N (E.set i ((E[i]'hi).1, (E[i]'hi).2.1, true)) := by
  have hm : E[i] ∈ E := List.getElem_mem hi
  refine ⟨fun e he => ?_, fun e he => ?_, ?_⟩
  · rcases List.mem_or_eq_of_mem_set he with he | rfl
    · exact h.lt e he
    · exact h.lt (E[i]'hi) hm
  · rcases List.mem_or_eq_of_mem_set he with he | rfl
    · exact h.mem e he
    · exact h.mem (E[i]'hi) hm
  · rw [List.pairwise_iff_getElem]
    intro a b ha hb hab
    have ho := List.pairwise_iff_getElem.1 h.one
    rw [List.length_set] at ha hb
    have k := ho a b ha hb hab
    simp only [List.getElem_set]
    by_cases e1 : i = a <;> by_cases e2 : i = b
    · omega
    · subst e1; simpa [e2] using k
    · subst e2; simpa [e1] using k
    · simpa [e1, e2] using k

theorem fE_need (h : GoodE N E) (hxy : x ≠ y) {i : Nat} (hi : i < E.length) (hl : lnk (E[i]'hi) x y = true) : fE (E.set i ((E[i]'hi).1, (E[i]'hi).2.1, true)) = both (fE E) x y 2 := by
  have h' := h.need hi
  have hq := lnk_iff.1 hl
  funext u v
  rw [both_at]
  by_cases hc : (u = x ∧ v = y) ∨ (u = y ∧ v = x)
  · rw [if_pos hc, fE_of h' (e := ((E[i]'hi).1, (E[i]'hi).2.1, true)) (List.mem_set hi _) ((lnk_min hxy hq).2 hc)]
    rfl
  · rw [if_neg hc]
    by_cases hz : fE E u v = 0
    · rw [hz, fE_zero]
      intro e he
      rcases List.mem_or_eq_of_mem_set he with he | rfl
      · exact fE_zero.1 hz e he
      · cases hh : lnk ((E[i]'hi).1, (E[i]'hi).2.1, true) u v with
        | false => rfl
        | true => exact absurd ((lnk_min hxy hq).1 hh) hc
    · obtain ⟨e, he, hle⟩ := fE_ne.1 hz
      rw [fE_of h he hle]
      obtain ⟨j, hj, rfl⟩ := List.getElem_of_mem he
      have hji : i ≠ j := fun e => by
        subst e
        exact hc ((lnk_min hxy hq).1 hle)
      have hm : E[j] ∈ E.set i ((E[i]'hi).1, (E[i]'hi).2.1, true) := by
        rw [List.mem_iff_getElem]
        exact ⟨j, by simpa using hj, by simp [hji]⟩
      rw [fE_of h' hm hle]

/-- an edge less -/
theorem GoodE.cut (h : GoodE N E) (i : Nat) : GoodE N (E.eraseIdx i) :=
  ⟨fun e he => h.lt e (List.mem_of_mem_eraseIdx he), fun e he => h.mem e (List.mem_of_mem_eraseIdx he), h.one.sublist (List.eraseIdx_sublist E i)⟩

theorem fE_cut (h : GoodE N E) (hxy : x ≠ y) {i : Nat} (hi : i < E.length) (hl : lnk (E[i]'hi) x y = true) : fE (E.eraseIdx i) = both (fE E) x y 0 := by
  have h' := h.cut i
  have hq := lnk_iff.1 hl
  have ho := List.pairwise_iff_getElem.1 h.one
  funext u v
  rw [both_at]
  by_cases hc : (u = x ∧ v = y) ∨ (u = y ∧ v = x)
  · rw [if_pos hc, fE_zero]
    intro e he
    cases hh : lnk e u v with
    | false => rfl
    | true =>
      have hlt := h'.lt e he
      have e1 : e.1 = E[i].1 ∧ e.2.1 = E[i].2.1 := by
        have := (lnk_or hlt).1 hh
        omega
      rw [List.mem_eraseIdx_iff_getElem] at he
      obtain ⟨j, hj, hji, rfl⟩ := he
      rcases Nat.lt_trichotomy i j with hl | hl | hl
      · exact absurd ⟨e1.1.symm, e1.2.symm⟩ (ho i j hi hj hl)
      · exact absurd hl.symm hji
      · exact absurd e1 (ho j i hj hi hl)
  · rw [if_neg hc]
    by_cases hz : fE E u v = 0
    · rw [hz, fE_zero]
      exact fun e he => fE_zero.1 hz e (List.mem_of_mem_eraseIdx he)
    · obtain ⟨e, he, hle⟩ := fE_ne.1 hz
      rw [fE_of h he hle]
      obtain ⟨j, hj, rfl⟩ := List.getElem_of_mem he
      have hji : j ≠ i := fun e => by
        subst e
        exact hc ((lnk_min hxy hq).1 hle)
      have hm : E[j] ∈ E.eraseIdx i := List.mem_eraseIdx_iff_getElem.2 ⟨j, hj, hji, rfl⟩
      rw [fE_of h' hm hle]
end

/-- a number more, in its place -/
def putL (l : List Int) (k : Int) : List Int := l.takeWhile (fun x => decide (x < k)) ++ k :: l.dropWhile (fun x => decide (x < k))

theorem putL_mem (l : List Int) (k y : Int) : y ∈ putL l k ↔ y = k ∨ y ∈ l := by
  unfold putL
  rw [List.mem_append, List.mem_cons]
  have h : y ∈ l ↔ y ∈ l.takeWhile (fun x => decide (x < k)) ∨ y ∈ l.dropWhile (fun x => decide (x < k)) := by
    rw [← List.mem_append, List.takeWhile_append_dropWhile]
  rw [h]
  constructor
  · rintro (h | h | h)
    · exact .inr (.inl h)
    · exact .inl h
    · exact .inr (.inr h)
  · rintro (h | h | h)
    · exact .inr (.inl h)
    · exact .inl h
    · exact .inr (.inr h)
theorem putL_len (l : List Int) (k : Int) : (putL l k).length = l.length + 1 := by
  unfold putL
  have h := congrArg List.length (List.takeWhile_append_dropWhile (p := fun x => decide (x < k)) (l := l))
  rw [List.length_append] at h
  rw [List.length_append, List.length_cons]
  omega
theorem putL_cons (x : Int) (l : List Int) (k : Int) : putL (x :: l) k = if x < k then x :: putL l k else k :: x :: l := by
  unfold putL
  by_cases h : x < k <;> simp [h]
theorem putL_rise {l : List Int} (h : l.Pairwise (fun x y => x < y)) {k : Int} (hk : k ∉ l) : (putL l k).Pairwise (fun x y => x < y) := by
  induction l with
  | nil => simp [putL]
  | cons x l ih =>
    rw [putL_cons]
    have h1 := List.pairwise_cons.1 h
    split
    · rename_i hx
      refine List.pairwise_cons.2 ⟨fun y hy => ?_, ih h1.2 fun hm => hk (by simp [hm])⟩
      rcases (putL_mem l k y).1 hy with rfl | hy
      · exact hx
      · exact h1.1 y hy
    · rename_i hx
      have hne : x ≠ k := fun e => hk (by simp [e])
      refine List.pairwise_cons.2 ⟨fun y hy => ?_, h⟩
      rcases List.mem_cons.1 hy with rfl | hy
      · omega
      · have := h1.1 y hy; omega
/-- by its place -/
theorem putL_at (l : List Int) (k : Int) (i : Nat) (hi : i ≤ l.length) (h1 : ∀ j, j < i → l.getD j 0 < k) (h2 : i < l.length → ¬ l.getD i 0 < k) : putL l k = l.take i ++ [k] ++ l.drop i := by
  induction l generalizing i with
  | nil => simp at hi; subst hi; simp [putL]
  | cons x l ih =>
    rw [putL_cons]
    cases i with
    | zero =>
      have := h2 (by simp)
      simp at this
      rw [if_neg (by omega)]
      simp
    | succ i =>
      have h0 := h1 0 (by omega)
      simp at h0
      rw [if_pos h0, ih i (by simpa using hi) (fun j hj => by simpa using h1 (j + 1) (by omega)) (fun h => by simpa using h2 (by simpa using h))]
      simp

/-- Near, an edge more -/
def nearS (k : Int) (soft : Bool) (out : List Int) (e : Edg) : List Int :=
  if soft && e.2.2 then out else if e.1 = k then putL out e.2.1 else if e.2.1 = k then putL out e.1 else out
def nearL (E : List Edg) (k : Int) (soft : Bool) : List Int := E.foldl (nearS k soft) []
theorem nearL_snoc (E : List Edg) (e : Edg) (k : Int) (soft : Bool) : nearL (E ++ [e]) k soft = nearS k soft (nearL E k soft) e := by simp [nearL]

theorem snoc_ind {α : Type} {P : List α → Prop} (h0 : P []) (h1 : ∀ l a, P l → P (l ++ [a])) (l : List α) : P l := by
  have h : ∀ m : List α, P m.reverse := by
    intro m
    induction m with
    | nil => exact h0
    | cons a m ih => rw [List.reverse_cons]; exact h1 _ _ ih
  have := h l.reverse
  rwa [List.reverse_reverse] at this
/-- an edge that Near goes by -/
def okE (soft : Bool) (e : Edg) : Bool := !(soft && e.2.2)
theorem nearL_rise (soft : Bool) (k : Int) (N : List Int) : ∀ E : List Edg, GoodE N E → Rise (fun y => ∃ e ∈ E, okE soft e = true ∧ lnk e k y = true) (nearL E k soft) := by
  intro E
  refine snoc_ind (P := fun E => GoodE N E → Rise (fun y => ∃ e ∈ E, okE soft e = true ∧ lnk e k y = true) (nearL E k soft)) ?_ ?_ E
  · intro _; exact ⟨by simp [nearL], by simp [nearL]⟩
  · intro E e ih h
    have hE : GoodE N E := ⟨fun e he => h.lt e (by simp [he]), fun e he => h.mem e (by simp [he]), (List.pairwise_append.1 h.one).1⟩
    obtain ⟨i1, i2'⟩ := ih hE
    have i2 : ∀ y, y ∈ nearL E k soft ↔ ∃ e ∈ E, okE soft e = true ∧ lnk e k y = true := i2'
    have hne : ∀ e' ∈ E, ¬ (e'.1 = e.1 ∧ e'.2.1 = e.2.1) := fun e' he' => (List.pairwise_append.1 h.one).2.2 e' he' e (by simp)
    have hlt := h.lt e (by simp)
    rw [nearL_snoc]
    unfold nearS
    have hmem : ∀ y, (∃ a ∈ E ++ [e], okE soft a = true ∧ lnk a k y = true) ↔ (∃ a ∈ E, okE soft a = true ∧ lnk a k y = true) ∨ (okE soft e = true ∧ lnk e k y = true) := fun y => by
      constructor
      · rintro ⟨a, ha, h1⟩
        rcases List.mem_append.1 ha with ha | ha
        · exact .inl ⟨a, ha, h1⟩
        · simp at ha; subst ha; exact .inr h1
      · rintro (⟨a, ha, h1⟩ | h1)
        · exact ⟨a, by simp [ha], h1⟩
        · exact ⟨e, by simp, h1⟩
    by_cases hs : (soft && e.2.2) = true
    · rw [if_pos hs]
      refine ⟨i1, fun y => ?_⟩
      show _ ↔ ∃ a ∈ E ++ [e], okE soft a = true ∧ lnk a k y = true
      rw [i2 y, hmem y]
      have : okE soft e = false := by unfold okE; rw [hs]; rfl
      simp [this]
    · rw [if_neg hs]
      have hok : okE soft e = true := by unfold okE; cases hh : (soft && e.2.2) with
        | false => rfl
        | true => exact absurd hh hs
      by_cases h1 : e.1 = k
      · rw [if_pos h1]
        refine ⟨putL_rise i1 fun hm => ?_, fun y => ?_⟩
        · obtain ⟨a, ha, _, hl⟩ := (i2 _).1 hm
          have := (lnk_or (hE.lt a ha)).1 hl
          have k1 := hne a ha
          have := hE.lt a ha
          omega
        · show _ ↔ ∃ a ∈ E ++ [e], okE soft a = true ∧ lnk a k y = true
          rw [putL_mem, hmem y, i2 y]
          have hl : lnk e k y = true ↔ y = e.2.1 := by rw [lnk_or hlt]; omega
          rw [hl]
          simp [hok, or_comm]
      · rw [if_neg h1]
        by_cases h2 : e.2.1 = k
        · rw [if_pos h2]
          refine ⟨putL_rise i1 fun hm => ?_, fun y => ?_⟩
          · obtain ⟨a, ha, _, hl⟩ := (i2 _).1 hm
            have := (lnk_or (hE.lt a ha)).1 hl
            have k1 := hne a ha
            have := hE.lt a ha
            omega
          · show _ ↔ ∃ a ∈ E ++ [e], okE soft a = true ∧ lnk a k y = true
            rw [putL_mem, hmem y, i2 y]
            have hl : lnk e k y = true ↔ y = e.1 := by rw [lnk_or hlt]; omega
            rw [hl]
            simp [hok, or_comm]
        · rw [if_neg h2]
          refine ⟨i1, fun y => ?_⟩
          show _ ↔ ∃ a ∈ E ++ [e], okE soft a = true ∧ lnk a k y = true
          rw [i2 y, hmem y]
          have hl : ¬ lnk e k y = true := by rw [lnk_or hlt]; omega
          simp [hl]

/-- the edges that a way goes over -/
def RE (E : List Edg) (nd : Bool) (x y : Int) : Prop := ∃ e ∈ E, (nd = true → e.2.2 = true) ∧ lnk e x y = true

/-- Reach, an edge more -/
def reachS (nd : Bool) (l : List Int) (e : Edg) : List Int :=
  if nd && !e.2.2 then l else if l.contains e.1 && !l.contains e.2.1 then putL l e.2.1 else if l.contains e.2.1 && !l.contains e.1 then putL l e.1 else l
def roundL (E : List Edg) (nd : Bool) (l : List Int) : List Int := E.foldl (reachS nd) l
theorem roundL_snoc (E : List Edg) (e : Edg) (nd : Bool) (l : List Int) : roundL (E ++ [e]) nd l = reachS nd (roundL E nd l) e := by simp [roundL]
def roundsL (E : List Edg) (nd : Bool) (l : List Int) : Nat → List Int
  | 0 => l
  | n + 1 => roundL E nd (roundsL E nd l n)

/-- what Reach holds -/
structure In (E : List Edg) (nd : Bool) (k : Int) (l : List Int) : Prop where
  rise : l.Pairwise (fun x y => x < y)
  key : k ∈ l
  way : ∀ x ∈ l, Way (RE E nd) k x

theorem reachS_len (nd : Bool) (l : List Int) (e : Edg) : reachS nd l e = l ∨ (reachS nd l e).length = l.length + 1 := by
  unfold reachS
  split
  · exact .inl rfl
  · split
    · exact .inr (putL_len _ _)
    · split
      · exact .inr (putL_len _ _)
      · exact .inl rfl
theorem reachS_in {E : List Edg} {N : List Int} (hE : GoodE N E) {nd : Bool} {k : Int} {l : List Int} (h : In E nd k l) {e : Edg} (he : e ∈ E) : In E nd k (reachS nd l e) := by
  unfold reachS
  split
  · exact h
  · rename_i hs
    have hnd : nd = true → e.2.2 = true := fun hn => by subst hn; simpa using hs
    have hlt := hE.lt e he
    split
    · rename_i h1
      simp at h1
      refine ⟨putL_rise h.rise h1.2, (putL_mem _ _ _).2 (.inr h.key), fun x hx => ?_⟩
      rcases (putL_mem _ _ _).1 hx with rfl | hx
      · exact .step (h.way _ h1.1) ⟨e, he, hnd, (lnk_or hlt).2 (.inl ⟨rfl, rfl⟩)⟩
      · exact h.way x hx
    · split
      · rename_i h1
        simp at h1
        refine ⟨putL_rise h.rise h1.2, (putL_mem _ _ _).2 (.inr h.key), fun x hx => ?_⟩
        rcases (putL_mem _ _ _).1 hx with rfl | hx
        · exact .step (h.way _ h1.1) ⟨e, he, hnd, (lnk_or hlt).2 (.inr ⟨rfl, rfl⟩)⟩
        · exact h.way x hx
      · exact h
theorem roundL_in {E : List Edg} {N : List Int} (hE : GoodE N E) {nd : Bool} {k : Int} : ∀ (E' : List Edg), (∀ e ∈ E', e ∈ E) → ∀ l, In E nd k l → In E nd k (roundL E' nd l)
  | [], _, l, h => h
  | e :: E', hs, l, h => by
    show In E nd k (roundL E' nd (reachS nd l e))
    exact roundL_in hE E' (fun e' h' => hs e' (by simp [h'])) _ (reachS_in hE h (hs e (by simp)))
theorem roundL_len (nd : Bool) : ∀ (E : List Edg) (l : List Int), (roundL E nd l = l ∧ ∀ e ∈ E, reachS nd l e = l) ∨ l.length < (roundL E nd l).length
  | [], l => .inl ⟨rfl, by simp⟩
  | e :: E, l => by
    show (roundL E nd (reachS nd l e) = l ∧ _) ∨ l.length < (roundL E nd (reachS nd l e)).length
    rcases reachS_len nd l e with h | h
    · rw [h]
      rcases roundL_len nd E l with ⟨h1, h2⟩ | h1
      · refine .inl ⟨h1, fun e' he' => ?_⟩
        rcases List.mem_cons.1 he' with rfl | he'
        · exact h
        · exact h2 e' he'
      · exact .inr h1
    · refine .inr ?_
      rcases roundL_len nd E (reachS nd l e) with ⟨h1, _⟩ | h1
      · rw [h1]; omega
      · omega
theorem roundsL_in {E : List Edg} {N : List Int} (hE : GoodE N E) {nd : Bool} {k : Int} (l : List Int) (h : In E nd k l) : ∀ n, In E nd k (roundsL E nd l n)
  | 0 => h
  | n + 1 => roundL_in hE E (fun _ h => h) _ (roundsL_in hE l h n)
theorem roundsL_end (E : List Edg) (nd : Bool) (l : List Int) : ∀ n, (∀ e ∈ E, reachS nd (roundsL E nd l n) e = roundsL E nd l n) ∨ l.length + n ≤ (roundsL E nd l n).length
  | 0 => .inr (Nat.le_refl _)
  | n + 1 => by
    show (∀ e ∈ E, reachS nd (roundL E nd (roundsL E nd l n)) e = roundL E nd (roundsL E nd l n)) ∨ _ ≤ (roundL E nd (roundsL E nd l n)).length
    rcases roundL_len nd E (roundsL E nd l n) with ⟨h1, h2⟩ | h1
    · exact .inl fun e he => by rw [h1]; exact h2 e he
    · rcases roundsL_end E nd l n with h | h
      · have : roundL E nd (roundsL E nd l n) = roundsL E nd l n := by
          have key : ∀ (E' : List Edg), (∀ e ∈ E', reachS nd (roundsL E nd l n) e = roundsL E nd l n) → roundL E' nd (roundsL E nd l n) = roundsL E nd l n := by
            intro E'
            induction E' with
            | nil => intro _; rfl
            | cons e E' ih =>
              intro hs
              show roundL E' nd (reachS nd (roundsL E nd l n) e) = _
              rw [hs e (by simp)]
              exact ih fun e' he' => hs e' (by simp [he'])
          exact key E h
        rw [this] at h1
        omega
      · right; omega

/-- as many rounds as there are nodes are enough -/
theorem roundsL_rise {E : List Edg} {N : List Int} (hE : GoodE N E) (hN : N.Nodup) (nd : Bool) {k : Int} (hk : k ∈ N) : Rise (fun y => Way (RE E nd) k y) (roundsL E nd [k] N.length) := by
  have hI := roundsL_in hE (nd := nd) (k := k) [k] ⟨by simp, by simp, fun x hx => by simp at hx; subst hx; exact .here⟩ N.length
  refine ⟨hI.rise, fun y => ⟨hI.way y, fun hw => ?_⟩⟩
  have hsub : ∀ x ∈ roundsL E nd [k] N.length, x ∈ N := fun x hx => (hI.way x hx).closed (fun z => z ∈ N) hk fun a b _ ⟨e, he, _, hl⟩ => by
    have h1 := hE.lt e he
    have h2 := hE.mem e he
    rcases (lnk_or h1).1 hl with ⟨rfl, rfl⟩ | ⟨rfl, rfl⟩
    · exact h2.2
    · exact h2.1
  have hnd : (roundsL E nd [k] N.length).Nodup := hI.rise.imp fun h => by omega
  have hle := nodup_le _ _ hnd hsub
  rcases roundsL_end E nd [k] N.length with h | h
  · refine hw.closed (fun z => z ∈ roundsL E nd [k] N.length) hI.key fun a b ha ⟨e, he, hn, hl⟩ => ?_
    have hs := h e he
    have h1 := hE.lt e he
    by_cases hb : b ∈ roundsL E nd [k] N.length
    · exact hb
    · exfalso
      have hg : (nd && !e.2.2) = false := by
        cases nd with
        | false => rfl
        | true => rw [hn rfl]; rfl
      have hlen := congrArg List.length hs
      unfold reachS at hlen
      rw [hg] at hlen
      rcases (lnk_or h1).1 hl with ⟨rfl, rfl⟩ | ⟨rfl, rfl⟩
      · simp [ha, hb, putL_len] at hlen
      · simp [ha, hb, putL_len] at hlen
  · simp at h
    omega

end Go.Proofs.Ytdfmgfclcbeeiaa
