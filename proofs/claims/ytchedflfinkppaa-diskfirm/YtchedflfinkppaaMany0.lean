/-
  Files made firm together, and dropped together: what is left, without memory.
-/
import Derived.Test.YtchedflfinkppaaDo2
namespace Go.Proofs.Ytchedflfinkppaa
open Go.RowKit Go.Maps Go.Sort Go.Shelf
set_option linter.unusedSimpArgs false
set_option linter.unusedVariables false

theorem firmA_stays {x : List UInt8} : ∀ (ns : List ByteArray) (A : List AFile), (∀ a ∈ A, a.1 = x → a.2.1.length ≤ a.2.2) → ∀ a ∈ firmA A ns, a.1 = x → a.2.1.length ≤ a.2.2
  | [], _, h => h
  | s :: ns, A, h => firmA_stays ns (firm1A A s.data.toList) fun a ha hx => by
    obtain ⟨b, hb, rfl⟩ := List.mem_map.1 ha
    by_cases e : b.1 = s.data.toList
    · rw [if_pos e]
      exact Nat.le_refl _
    · rw [if_neg e] at hx ⊢
      exact h b hb hx
theorem firmA_firm : ∀ (ns : List ByteArray) (A : List AFile) (s : ByteArray), s ∈ ns → ∀ a ∈ firmA A ns, a.1 = s.data.toList → a.2.1.length ≤ a.2.2
  | t :: ns, A, s, h => fun a ha hx => by
    by_cases e : s = t
    · subst e
      refine firmA_stays ns (firm1A A s.data.toList) (fun b hb hx' => ?_) a ha hx
      obtain ⟨c, hc, rfl⟩ := List.mem_map.1 hb
      by_cases e : c.1 = s.data.toList
      · rw [if_pos e]
        exact Nat.le_refl _
      · rw [if_neg e] at hx'
        exact absurd hx' e
    · have hm : s ∈ ns := by
        rcases List.mem_cons.1 h with h | h
        · exact absurd h e
        · exact h
      exact firmA_firm ns (firm1A A t.data.toList) s hm a ha hx
theorem loose_none (A : List AFile) (ns : List ByteArray) (s : ByteArray) (h : s ∈ ns) : looseA (firmA A ns) s.data.toList = 0 := by
  unfold looseA
  cases hf : findA (firmA A ns) s.data.toList with
  | none => rfl
  | some a =>
    obtain ⟨h1, h2⟩ := findA_some hf
    have := firmA_firm ns A s h a h1 h2
    show a.2.1.length - a.2.2 = 0
    omega
theorem firm1A_names (A : List AFile) (x : List UInt8) : (firm1A A x).map Prod.fst = A.map Prod.fst := by
  unfold firm1A
  rw [List.map_map]
  refine List.map_congr_left fun a _ => ?_
  simp only [Function.comp]
  split <;> rfl
theorem firmA_names : ∀ (ns : List ByteArray) (A : List AFile), (firmA A ns).map Prod.fst = A.map Prod.fst
  | [], _ => rfl
  | s :: ns, A => (firmA_names ns (firm1A A s.data.toList)).trans (firm1A_names A _)
theorem find_names {A B : List AFile} (h : A.map Prod.fst = B.map Prod.fst) (x : List UInt8) : (findA A x).isSome = (findA B x).isSome := by
  have e : ∀ C : List AFile, (findA C x).isSome = (C.map Prod.fst).any (fun y => decide (y = x)) := fun C => by
    unfold findA
    rw [List.any_map]
    induction C with
    | nil => rfl
    | cons c C ih =>
      rw [List.find?_cons, List.any_cons]
      by_cases e : c.1 = x
      · simp [e]
      · simp only [e, decide_false, Function.comp, Bool.false_or]
        exact ih
  rw [e A, e B, h]
theorem all_names {A B : List AFile} (h : A.map Prod.fst = B.map Prod.fst) (ns : List ByteArray) : allA A ns = allA B ns := by
  unfold allA
  congr 1
  funext s
  exact find_names h _
/-- no two files have one name -/
def Once (A : List AFile) : Prop := A.Pairwise (fun a b => a.1 ≠ b.1)
theorem once_names {A B : List AFile} (h : A.map Prod.fst = B.map Prod.fst) (hA : Once A) : Once B := by
  unfold Once at *
  rw [← List.pairwise_map (f := Prod.fst) (R := fun x y => x ≠ y)] at hA ⊢
  rw [← h]
  exact hA
theorem dropA_none {A : List AFile} {x : List UInt8} (h : ∀ a ∈ A, a.1 ≠ x) : dropA A x = A := by
  unfold dropA
  rw [List.filter_eq_self]
  intro a ha
  exact decide_eq_true (h a ha)
theorem dropA_one : ∀ {A : List AFile} {x : List UInt8}, Once A → (∃ a ∈ A, a.1 = x) → (dropA A x).length + 1 = A.length
  | [], _, _, ⟨a, ha, _⟩ => absurd ha List.not_mem_nil
  | b :: A, x, ho, ⟨a, ha, hx⟩ => by
    unfold Once at ho
    rw [List.pairwise_cons] at ho
    by_cases e : b.1 = x
    · have hn : ∀ c ∈ A, c.1 ≠ x := fun c hc e' => ho.1 c hc (by rw [e, e'])
      have h1 : dropA (b :: A) x = dropA A x := by unfold dropA; rw [List.filter_cons, if_neg (by simp [e])]
      rw [h1, dropA_none hn]
      rfl
    · have h1 : dropA (b :: A) x = b :: dropA A x := by unfold dropA; rw [List.filter_cons, if_pos (decide_eq_true e)]
      rw [h1, List.length_cons, List.length_cons]
      rcases List.mem_cons.1 ha with rfl | ha
      · exact absurd hx e
      · have := dropA_one (A := A) ho.2 ⟨a, ha, hx⟩
        omega
theorem mem_dropsA : ∀ (ns : List ByteArray) {A : List AFile} {a : AFile}, a ∈ dropsA A ns ↔ a ∈ A ∧ ∀ s ∈ ns, a.1 ≠ s.data.toList
  | [], A, a => ⟨fun h => ⟨h, fun s hs => absurd hs List.not_mem_nil⟩, fun h => h.1⟩
  | t :: ns, A, a => by
    have := mem_dropsA ns (A := dropA A t.data.toList) (a := a)
    refine this.trans ⟨fun h => ?_, fun h => ?_⟩
    · obtain ⟨h1, h2⟩ := h
      unfold dropA at h1
      obtain ⟨h3, h4⟩ := List.mem_filter.1 h1
      refine ⟨h3, fun s hs => ?_⟩
      rcases List.mem_cons.1 hs with rfl | hs
      · exact of_decide_eq_true h4
      · exact h2 s hs
    · refine ⟨?_, fun s hs => h.2 s (List.mem_cons_of_mem _ hs)⟩
      unfold dropA
      exact List.mem_filter.2 ⟨h.1, decide_eq_true (h.2 t List.mem_cons_self)⟩
theorem dropsA_snoc (A : List AFile) (ns : List ByteArray) (s : ByteArray) : dropsA A (ns ++ [s]) = dropA (dropsA A ns) s.data.toList := by unfold dropsA; rw [List.foldl_append]; rfl
theorem dropsA_once : ∀ (ns : List ByteArray) {A : List AFile}, Once A → Once (dropsA A ns)
  | [], _, h => h
  | s :: ns, A, h => dropsA_once ns (A := dropA A s.data.toList) (List.Pairwise.filter _ h)

/-- the names that were met so far, as a set; what is left without them -/
structure Gone (A : List AFile) (ns : List ByteArray) (D : DataW Unit) : Prop where
  tidy : Tidy D
  has : ∀ y, has D (.string y) = true ↔ ∃ s ∈ ns, s.data.toList = y
  len : (∀ s ∈ ns, ∃ a ∈ A, a.1 = s.data.toList) → (dropsA A ns).length + Maps.size D = A.length
theorem Gone.start (A : List AFile) : Gone A [] (.map []) := ⟨tidy_empty, fun y => ⟨fun h => by simp [Maps.has] at h, fun ⟨s, hs, _⟩ => absurd hs List.not_mem_nil⟩, fun _ => rfl⟩
theorem Gone.step {A : List AFile} {ns : List ByteArray} {D : DataW Unit} (h : Gone A ns D) (ho : Once A) (s : ByteArray) : Gone A (ns ++ [s]) (D.put (.string s.data.toList) (.lit (.bool true))) := by
  refine ⟨h.tidy.put (by trivial) _, fun y => ?_, fun hall => ?_⟩
  · by_cases hy : y = s.data.toList
    · subst hy
      exact ⟨fun _ => ⟨s, by simp, rfl⟩, fun _ => has_put_same h.tidy.isMap (by trivial) _⟩
    · rw [has_put_other (by simpa using hy), h.has]
      refine ⟨fun ⟨t, ht, e⟩ => ⟨t, List.mem_append_left _ ht, e⟩, fun ⟨t, ht, e⟩ => ?_⟩
      rcases List.mem_append.1 ht with ht | ht
      · exact ⟨t, ht, e⟩
      · obtain rfl := List.mem_singleton.1 ht
        exact absurd e.symm hy
  · have h1 := h.len fun t ht => hall t (List.mem_append_left _ ht)
    obtain ⟨a, ha, hx⟩ := hall s (by simp)
    rw [dropsA_snoc, size_put h.tidy]
    by_cases hh : Maps.has D (.string s.data.toList) = true
    · rw [if_pos hh]
      obtain ⟨t, ht, e⟩ := (h.has _).1 hh
      rw [dropA_none fun c hc => by
        have := ((mem_dropsA ns).1 hc).2 t ht
        rw [e] at this
        exact this]
      exact h1
    · rw [if_neg hh]
      have hm : a ∈ dropsA A ns := (mem_dropsA ns).2 ⟨ha, fun t ht e => hh ((h.has _).2 ⟨t, ht, by rw [← e, hx]⟩)⟩
      have := dropA_one (dropsA_once ns ho) ⟨a, hm, hx⟩
      omega
theorem all_mem {A : List AFile} {ns : List ByteArray} (h : allA A ns = true) : ∀ s ∈ ns, ∃ a ∈ A, a.1 = s.data.toList := fun s hs => by
  have := List.all_eq_true.1 h s hs
  cases hf : findA A s.data.toList with
  | none => rw [hf] at this; cases this
  | some a => exact ⟨a, findA_some hf⟩
theorem calm_down {p : Pw} (h : Calm p) : ¬ p.spent.down = true := by rw [h.spent.2]; decide

section
variable {w0 w w' : World} {b mb x : Nat} {room : Nat}
theorem Duo.start {v : Value} (h : Lv w0 w b mb Pw.fresh room []) (r : RD w' ⟨w0.heap.size, fun g => ¬ Of b mb [] g⟩ x Pw.fresh room v []) (hb : Below w.heap.size w w') : Duo w0 w' (fun _ => False) b mb x Pw.fresh Pw.fresh room [] v [] :=
  ⟨h.below hb, ⟨_, r, fun g hg => ⟨hg, fun hf => hf⟩⟩, fun g hf => hf.elim⟩
theorem PwEq.refl (p : Pw) : PwEq p p := ⟨rfl, rfl, fun _ => rfl⟩
end

end Go.Proofs.Ytchedflfinkppaa
