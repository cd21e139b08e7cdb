/-
  The contract of Full; what putting a hit makes of the hits.
-/
import Derived.Test.YtfhnhfppamnjhaaRemove
import Derived.BigQuiet
namespace Go.Proofs.Ytfhnhfppamnjhaa
open Go.RowKit Go.Maps

set_option maxRecDepth 100000 in
set_option maxHeartbeats 400000 in
theorem full_any (B b mb n most : Nat) (v : Value) (hs : List Hit) (w : World) (L : Lst w B b mb n v most hs) (hm : most ≤ 1000) (hn : hs.length ≤ 1000) :
    Calls Try.prog 19 #[.pointer (some ⟨b, 0, none⟩)] w fun e w' => e = .returned (.bool (decide (most ≤ hs.length))) ∧ Below w.heap.size w w' := by
  obtain ⟨c0, c1, c2⟩ := L.cells
  obtain ⟨A, ca, rfl, _, _⟩ := L.hits
  clear L
  go_enter Try.func19, Try.ntmps19
  go_wp2_with fail
  go_quiet (fail)
  go_wp2_with fail
  go_ret
  exact ⟨rfl, ⟨rfl, rfl, rfl, Nat.le_refl _, fun _ _ => rfl⟩⟩

/-- in front of those that aren't nearer -/
def ins (l : List Hit) (h : Hit) : List Hit := l.filter (fun x => near x h) ++ h :: l.filter (fun x => !near x h)
/-- what is there before a hit is put; none: it isn't put -/
def base (most : Nat) (hs : List Hit) (h : Hit) : Option (List Hit) :=
  match hs.find? (fun x => x.1 == h.1) with
  | some x => if x.2.1 ≤ h.2.1 then none else some (hs.filter fun y => y.1 != h.1)
  | none => if hs.length < most then some hs else if near h (hs.getLastD (0, 0, [])) then some hs.dropLast else none

theorem parts_ins {l : List Hit} {h : Hit} {k : Nat} (hp : Parts l h k) : l.take k ++ h :: l.drop k = ins l h := by
  obtain ⟨h0, h1, h2⟩ := hp
  have e1 : ∀ x ∈ l.take k, near x h = true := fun x hx => by
    obtain ⟨j, hj, rfl⟩ := List.getElem_of_mem hx
    rw [List.length_take] at hj
    rw [List.getElem_take]
    exact h1 j (by omega) (by omega)
  have e2 : ∀ x ∈ l.drop k, near x h = false := fun x hx => by
    obtain ⟨j, hj, rfl⟩ := List.getElem_of_mem hx
    rw [List.length_drop] at hj
    rw [List.getElem_drop]
    exact h2 (k + j) (by omega) (by omega)
  have f1 : l.filter (fun x => near x h) = l.take k := by
    refine (congrArg (List.filter fun x => near x h) (List.take_append_drop k l).symm).trans ?_
    rw [List.filter_append, List.filter_eq_self.2 e1, List.filter_eq_nil_iff.2 (fun x hx => by rw [e2 x hx]; simp), List.append_nil]
  have f2 : l.filter (fun x => !near x h) = l.drop k := by
    refine (congrArg (List.filter fun x => !near x h) (List.take_append_drop k l).symm).trans ?_
    rw [List.filter_append, List.filter_eq_nil_iff.2 (fun x hx => by rw [e1 x hx]; simp), List.filter_eq_self.2 (fun x hx => by rw [e2 x hx]; rfl), List.nil_append]
  unfold ins
  rw [f1, f2]

theorem Good.find {most : Nat} {hs : List Hit} (hg : Good most hs) {p : Nat} (hp : p < hs.length) {id : Int} (he : hs[p].1 = id) : hs.find? (fun x => x.1 == id) = some hs[p] := by
  have h : ∃ x, hs.find? (fun x => x.1 == id) = some x := by
    cases hf : hs.find? (fun x => x.1 == id) with
    | some x => exact ⟨x, rfl⟩
    | none => exact absurd (List.find?_eq_none.1 hf _ (List.getElem_mem hp)) (by simp [he])
  obtain ⟨x, hx⟩ := h
  rw [hx]
  have h1 := List.find?_some hx
  obtain ⟨j, hj, rfl⟩ := List.getElem_of_mem (List.mem_of_find?_eq_some hx)
  have h2 : hs[j].1 = id := by simpa using h1
  have ho := List.pairwise_iff_getElem.1 hg.once
  rcases Nat.lt_trichotomy j p with h3 | h3 | h3
  · exact absurd (h2.trans he.symm) (ho j p hj hp h3)
  · subst h3; rfl
  · exact absurd (he.trans h2.symm) (ho p j hp hj h3)
theorem Good.filter {most : Nat} {hs : List Hit} (hg : Good most hs) {p : Nat} (hp : p < hs.length) : hs.take p ++ hs.drop (p + 1) = hs.filter fun y => y.1 != hs[p].1 := by
  have hsplit : hs = hs.take p ++ hs[p] :: hs.drop (p + 1) := by rw [List.getElem_cons_drop]; exact (List.take_append_drop p hs).symm
  have hone := hg.once
  rw [hsplit, List.pairwise_append] at hone
  obtain ⟨_, ho2, ho3⟩ := hone
  rw [List.pairwise_cons] at ho2
  symm
  refine (congrArg (List.filter fun y => y.1 != hs[p].1) hsplit).trans ?_
  rw [List.filter_append, List.filter_cons_of_neg (by simp), List.filter_eq_self.2 (fun x hx => by simpa using ho3 x hx hs[p] List.mem_cons_self), List.filter_eq_self.2 (fun x hx => by simpa using (ho2.1 x hx).symm)]
/-- place finds where a hit stands -/
theorem parts_at {most : Nat} {hs : List Hit} (hg : Good most hs) {p k : Nat} (hp : p < hs.length) {h : Hit} (h1 : h.1 = hs[p].1) (h2 : h.2.1 = hs[p].2.1) (hk : Parts hs h k) : k = p := by
  have e : ∀ x, near x h = near x hs[p] := fun x => by unfold near; rw [h1, h2]
  obtain ⟨k0, k1, k2⟩ := hk
  rcases Nat.lt_trichotomy k p with h3 | h3 | h3
  · have := k2 k (by omega) (Nat.le_refl _)
    rw [e, hg.at_lt (by omega) hp h3] at this
    cases this
  · exact h3
  · have := k1 p hp h3
    rw [e, near_irrefl] at this
    cases this
theorem Good.sub {most : Nat} {hs l : List Hit} (hg : Good most hs) (h : l.Sublist hs) : Good most l :=
  ⟨hg.order.sublist h, hg.once.sublist h, Nat.le_trans h.length_le hg.len, fun x hx => hg.wf x (h.subset hx)⟩
theorem ins_mem {l : List Hit} {h x : Hit} : x ∈ ins l h ↔ x = h ∨ x ∈ l := by
  unfold ins
  simp only [List.mem_append, List.mem_cons, List.mem_filter]
  constructor
  · rintro (⟨h1, _⟩ | h1 | ⟨h1, _⟩)
    · exact .inr h1
    · exact .inl h1
    · exact .inr h1
  · rintro (h1 | h1)
    · exact .inr (.inl h1)
    · cases hn : near x h with
      | true => exact .inl ⟨h1, rfl⟩
      | false => exact .inr (.inr ⟨h1, rfl⟩)
theorem ins_len (l : List Hit) (h : Hit) : (ins l h).length = l.length + 1 := by
  have h1 : ∀ (f : Hit → Bool) (l : List Hit), (l.filter f).length + (l.filter fun x => !f x).length = l.length := fun f l => by
    induction l with
    | nil => rfl
    | cons a l ih => cases hf : f a <;> simp [hf] <;> omega
  have := h1 (fun x => near x h) l
  unfold ins
  simp only [List.length_append, List.length_cons]
  omega
theorem Good.ins {most : Nat} {l : List Hit} {h : Hit} (hg : Good most l) (hno : ∀ x ∈ l, x.1 ≠ h.1) (hl : l.length + 1 ≤ most) (hw : (Lit.int .u64 h.1).wf = true ∧ (Lit.int .u64 h.2.1).wf = true ∧ h.2.2.length ≤ 1000) : Good most (ins l h) := by
  refine ⟨?_, ?_, by rw [ins_len]; exact hl, fun x hx => ?_⟩
  · unfold Ytfhnhfppamnjhaa.ins
    rw [List.pairwise_append]
    refine ⟨hg.order.sublist List.filter_sublist, List.pairwise_cons.2 ⟨fun x hx => ?_, hg.order.sublist List.filter_sublist⟩, fun x hx y hy => ?_⟩
    · rw [List.mem_filter] at hx
      cases hn : near h x with
      | true => rfl
      | false => exact absurd (near_total (by simpa using hx.2) hn).1 (hno x hx.1)
    · rw [List.mem_filter] at hx
      rcases List.mem_cons.1 hy with rfl | hy
      · exact hx.2
      · rw [List.mem_filter] at hy
        have hy2 : near y h = false := by simpa using hy.2
        cases hn : near x y with
        | true => rfl
        | false =>
          cases hn2 : near y x with
          | true => rw [near_trans hn2 hx.2] at hy2; cases hy2
          | false =>
            obtain ⟨t1, t2⟩ := near_total hn hn2
            have : near y h = near x h := by unfold near; rw [t1, t2]
            rw [hy2, hx.2] at this
            cases this
  · unfold Ytfhnhfppamnjhaa.ins
    rw [List.pairwise_append]
    refine ⟨hg.once.sublist List.filter_sublist, List.pairwise_cons.2 ⟨fun x hx => (hno x (List.mem_filter.1 hx).1).symm, hg.once.sublist List.filter_sublist⟩, fun x hx y hy => ?_⟩
    have hx1 := (List.mem_filter.1 hx).1
    rcases List.mem_cons.1 hy with rfl | hy
    · exact hno x hx1
    · have hy1 := (List.mem_filter.1 hy).1
      obtain ⟨i, hi, rfl⟩ := List.getElem_of_mem hx1
      obtain ⟨j, hj, rfl⟩ := List.getElem_of_mem hy1
      have ho := List.pairwise_iff_getElem.1 hg.once
      rcases Nat.lt_trichotomy i j with h3 | h3 | h3
      · exact ho i j hi hj h3
      · subst h3
        rw [List.mem_filter] at hx hy
        have := hy.2
        rw [hx.2] at this
        cases this
      · exact (ho j i hj hi h3).symm
  · rcases ins_mem.1 hx with rfl | hx
    · exact hw
    · exact hg.wf x hx

/-- what base leaves -/
theorem base_some {most : Nat} {hs l : List Hit} {h : Hit} (hg : Good most hs) (hm : 1 ≤ most) (hb : base most hs h = some l) : l.Sublist hs ∧ (∀ x ∈ l, x.1 ≠ h.1) ∧ l.length + 1 ≤ most := by
  unfold base at hb
  have hlen := hg.len
  split at hb
  · rename_i x hx
    split at hb
    · cases hb
    · injection hb with hb
      subst hb
      refine ⟨List.filter_sublist, fun y hy => by simpa using (List.mem_filter.1 hy).2, ?_⟩
      have h1 : (hs.filter fun y => y.1 != h.1).length < hs.length := by
        refine List.length_filter_lt_length_iff_exists.2 ⟨x, List.mem_of_find?_eq_some hx, ?_⟩
        have := List.find?_some hx
        simpa using this
      omega
  · rename_i hx
    have hno : ∀ x ∈ hs, x.1 ≠ h.1 := fun x hx' => by simpa using List.find?_eq_none.1 hx x hx'
    split at hb
    · injection hb with hb
      subst hb
      exact ⟨List.Sublist.refl _, hno, by omega⟩
    · split at hb
      · injection hb with hb
        subst hb
        exact ⟨List.dropLast_sublist _, fun x hx' => hno x (List.dropLast_subset _ hx'), by rw [List.length_dropLast]; omega⟩
      · cases hb

end Go.Proofs.Ytfhnhfppamnjhaa
