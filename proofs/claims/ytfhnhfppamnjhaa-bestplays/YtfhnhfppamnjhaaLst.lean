/-
  A List in memory: its block, its row of hits, its map.
-/
import Derived.Test.YtfhnhfppamnjhaaIns2
import Derived.Maps.OwnOps
import Derived.Maps.OwnSet
namespace Go.Proofs.Ytfhnhfppamnjhaa
open Go.RowKit Go.Maps

def near (a b : Hit) : Bool := nearB a.1 a.2.1 b.1 b.2.1
theorem near_trans {a b c : Hit} (h1 : near a b = true) (h2 : near b c = true) : near a c = true := nearB_trans h1 h2
theorem near_asym {a b : Hit} (h : near a b = true) : near b a = false := nearB_asym h
theorem near_irrefl (a : Hit) : near a a = false := by unfold near nearB; simp
theorem near_total {a b : Hit} (h1 : near a b = false) (h2 : near b a = false) : a.1 = b.1 ∧ a.2.1 = b.2.1 := by
  unfold near nearB at *
  split at h1 <;> split at h2 <;> simp at h1 h2 <;> omega

/-- What a List has is in order, each ID once, no more than may be. -/
structure Good (most : Nat) (hs : List Hit) : Prop where
  order : hs.Pairwise fun a b => near a b = true
  once : hs.Pairwise fun a b => a.1 ≠ b.1
  len : hs.length ≤ most
  wf : ∀ h ∈ hs, (Lit.int .u64 h.1).wf = true ∧ (Lit.int .u64 h.2.1).wf = true ∧ h.2.2.length ≤ 1000

theorem Good.at_lt {most : Nat} {hs : List Hit} (h : Good most hs) {i j : Nat} (hi : i < hs.length) (hj : j < hs.length) (hij : i < j) : near hs[i] hs[j] = true := (List.pairwise_iff_getElem.1 h.order) i j hi hj hij

/-- What a map says of hits. -/
def Says (D : DataW Unit) (hs : List Hit) : Prop :=
  (∀ x, has D (.int .u64 x) = hs.any (fun h => h.1 == x)) ∧ ∀ h ∈ hs, D.atKey (.int .u64 h.1) (.lit (.int .u64 0)) = .lit (.int .u64 h.2.1)

theorem Says.start : Says (.map []) [] := ⟨fun x => by simp [has], fun h hh => by cases hh⟩
theorem Says.del {D : DataW Unit} {hs : List Hit} (h : Says D hs) {most : Nat} (hg : Good most hs) (p : Nat) (hp : p < hs.length) : Says (D.del (.int .u64 hs[p].1)) (hs.take p ++ hs.drop (p + 1)) := by
  have hsplit : hs = hs.take p ++ hs[p] :: hs.drop (p + 1) := by rw [List.getElem_cons_drop]; exact (List.take_append_drop p hs).symm
  have hone := hg.once
  rw [hsplit, List.pairwise_append] at hone
  obtain ⟨_, ho2, ho3⟩ := hone
  rw [List.pairwise_cons] at ho2
  have hne : ∀ x ∈ hs.take p ++ hs.drop (p + 1), x.1 ≠ hs[p].1 := fun x hx => by
    rcases List.mem_append.1 hx with hx | hx
    · exact ho3 x hx hs[p] List.mem_cons_self
    · exact (ho2.1 x hx).symm
  refine ⟨fun x => ?_, fun x hx => ?_⟩
  · by_cases e : x = hs[p].1
    · subst e
      rw [has_del_same]
      symm
      rw [List.any_eq_false]
      intro y hy
      simpa using hne y hy
    · rw [has_del_other (by simpa using e), h.1 x]
      refine (congrArg (fun l => List.any l fun h => h.1 == x) hsplit).trans ?_
      simp only [List.any_append, List.any_cons]
      rw [show (hs[p].1 == x) = false by simpa using fun e' => e e'.symm, Bool.false_or]
  · rw [atKey_del_other (by simpa using hne x hx)]
    refine h.2 x ?_
    rw [hsplit]
    rcases List.mem_append.1 hx with hx | hx
    · exact List.mem_append_left _ hx
    · exact List.mem_append_right _ (List.mem_cons_of_mem _ hx)
theorem Says.put {D : DataW Unit} {hs : List Hit} (h : Says D hs) (hm : IsMap D) (k : Nat) (x : Hit) (hno : ∀ y ∈ hs, y.1 ≠ x.1) : Says (D.put (.int .u64 x.1) (.lit (.int .u64 x.2.1))) (hs.take k ++ x :: hs.drop k) := by
  have hany : ∀ f : Hit → Bool, (hs.take k ++ x :: hs.drop k).any f = (f x || hs.any f) := fun f => by
    refine Eq.trans ?_ (congrArg (fun l => f x || List.any l f) (List.take_append_drop k hs))
    simp only [List.any_append, List.any_cons]
    cases f x <;> simp
  refine ⟨fun y => ?_, fun y hy => ?_⟩
  · rw [hany]
    by_cases e : y = x.1
    · subst e
      rw [has_put_same (k := .int .u64 x.1) hm trivial]; simp
    · rw [has_put_other (by simpa using e), h.1 y, show (x.1 == y) = false by simpa using fun e' => e e'.symm, Bool.false_or]
  · have hy' : y = x ∨ y ∈ hs := by
      rcases List.mem_append.1 hy with hy | hy
      · exact .inr (List.mem_of_mem_take hy)
      · rcases List.mem_cons.1 hy with hy | hy
        · exact .inl hy
        · exact .inr (List.mem_of_mem_drop hy)
    rcases hy' with rfl | hy'
    · rw [atKey_put_same (k := .int .u64 y.1) hm trivial]
    · rw [atKey_put_other (by simpa using hno y hy')]
      exact h.2 y hy'

structure Lst (w : World) (B b mb n : Nat) (v : Value) (most : Nat) (hs : List Hit) : Prop where
  blk : w.heap[b]? = some (.cells #[.int .i64 most, v, .map (some mb)] 54 (0, 0))
  row : ∃ cs, w.ownsRow B 36 3 v hs.length cs ∧ Cells3 (fun g => B ≤ g ∧ g ≠ b ∧ g ≠ mb ∧ some g ≠ v.ownBlock) w cs hs
  map : ∃ D : DataW Unit, w.ownsMap Try.prog 33 (plainElem Try.prog 33) mb n D ∧ Says D hs
  lob : B ≤ b
  lom : B ≤ mb

/-- What a change of a List leaves as it was. -/
structure Chg (w w' : World) (b mb : Nat) (v v' : Value) : Prop where
  os : w'.os = w.os
  tape : w'.tape = w.tape
  output : w'.output = w.output
  size : w.heap.size ≤ w'.heap.size
  block : ∀ g, g < w.heap.size → g ≠ b → g ≠ mb → some g ≠ v.ownBlock → w'.heap[g]? = w.heap[g]?
  new : v'.ownBlock = v.ownBlock ∨ ∃ g, v'.ownBlock = some g ∧ w.heap.size ≤ g

theorem Chg.refl (w : World) (b mb : Nat) (v : Value) : Chg w w b mb v v := ⟨rfl, rfl, rfl, Nat.le_refl _, fun _ _ _ _ _ => rfl, .inl rfl⟩
theorem Chg.trans {w w' w'' : World} {b mb : Nat} {v v' v'' : Value} (h : Chg w w' b mb v v') (h' : Chg w' w'' b mb v' v'') : Chg w w'' b mb v v'' := by
  refine ⟨h'.os.trans h.os, h'.tape.trans h.tape, h'.output.trans h.output, Nat.le_trans h.size h'.size, fun g hg h1 h2 h3 => ?_, ?_⟩
  · rw [h'.block g (Nat.lt_of_lt_of_le hg h.size) h1 h2 ?_, h.block g hg h1 h2 h3]
    rcases h.new with e | ⟨g', e, hg'⟩
    · rw [e]; exact h3
    · rw [e]; intro e'; injection e' with e'; omega
  · rcases h'.new with e | ⟨g', e, hg'⟩
    · rcases h.new with e2 | ⟨g2, e2, hg2⟩
      · exact .inl (e.trans e2)
      · exact .inr ⟨g2, e.trans e2, hg2⟩
    · exact .inr ⟨g', e, Nat.le_trans h.size hg'⟩
theorem Chg.of_below {w w' : World} (h : Below w.heap.size w w') (b mb : Nat) (v : Value) : Chg w w' b mb v v := ⟨h.os, h.tape, h.output, h.size, fun g hg _ _ _ => h.block g hg, .inl rfl⟩

theorem Lst.ne {w : World} {B b mb n : Nat} {v : Value} {most : Nat} {hs : List Hit} (h : Lst w B b mb n v most hs) : b ≠ mb ∧ v.ownBlock ≠ some b ∧ v.ownBlock ≠ some mb := by
  obtain ⟨D, ⟨es, clock, hm, _⟩, _⟩ := h.map
  obtain ⟨cs, ⟨_, hr⟩, _⟩ := h.row
  have hb := h.blk
  refine ⟨fun e => ?_, fun e => ?_, fun e => ?_⟩
  · rw [e, hm] at hb; cases hb
  · rcases hr with ⟨rfl, _⟩ | ⟨g, cap, cur, rfl, _, hh, _⟩
    · cases e
    · simp [Value.ownBlock] at e
      subst e
      rw [hb] at hh
      simp at hh
  · rcases hr with ⟨rfl, _⟩ | ⟨g, cap, cur, rfl, _, hh, _⟩
    · cases e
    · simp [Value.ownBlock] at e
      subst e
      rw [hm] at hh
      cases hh
theorem Lst.lt {w : World} {B b mb n : Nat} {v : Value} {most : Nat} {hs : List Hit} (h : Lst w B b mb n v most hs) : b < w.heap.size ∧ mb < w.heap.size ∧ B ≤ w.heap.size := by
  obtain ⟨D, hm, _⟩ := h.map
  have := lt_of_block h.blk
  exact ⟨this, hm.lt, by have := h.lob; omega⟩
theorem Lst.rowlt {w : World} {B b mb n g : Nat} {v : Value} {most : Nat} {hs : List Hit} (h : Lst w B b mb n v most hs) (hv : v.ownBlock = some g) : B ≤ g ∧ g < w.heap.size := by
  obtain ⟨cs, hr, _⟩ := h.row
  exact own_lt hr hv

/-- A List is as it was where none of its blocks has changed. -/
theorem Lst.kept {w w' : World} {B b mb n : Nat} {v : Value} {most : Nat} {hs : List Hit} (h : Lst w B b mb n v most hs) (hs' : w.heap.size ≤ w'.heap.size) (hk : ∀ g, B ≤ g → g < w.heap.size → w'.heap[g]? = w.heap[g]?) : Lst w' B b mb n v most hs := by
  obtain ⟨cs, ⟨hl, hr⟩, hc⟩ := h.row
  obtain ⟨D, ⟨es, clock, hm, hm2⟩, hsay⟩ := h.map
  refine ⟨(hk b h.lob h.lt.1).trans h.blk, ⟨cs, ⟨hl, ?_⟩, hc.kept hs' fun g hg s => ⟨hk g s.1 hg, s⟩⟩, ⟨D, ⟨es, clock, (hk mb h.lom h.lt.2.1).trans hm, hm2⟩, hsay⟩, h.lob, h.lom⟩
  rcases hr with hr | ⟨g, cap, cur, e, hg, hh, r⟩
  · exact .inl hr
  · exact .inr ⟨g, cap, cur, e, hg, (hk g hg (lt_of_block hh)).trans hh, r⟩
theorem Lst.below {w w' : World} {B b mb n : Nat} {v : Value} {most : Nat} {hs : List Hit} (h : Lst w B b mb n v most hs) (hb : Below w.heap.size w w') : Lst w' B b mb n v most hs := h.kept hb.size fun g _ hg => hb.block g hg
theorem Lst.cells {w : World} {B b mb n : Nat} {v : Value} {most : Nat} {hs : List Hit} (h : Lst w B b mb n v most hs) : w.cell? ⟨b, 0, none⟩ = some (.int .i64 most) ∧ w.cell? ⟨b, 1, none⟩ = some v ∧ w.cell? ⟨b, 2, none⟩ = some (.map (some mb)) := by
  have := h.blk
  simp [World.cell?, this]
theorem Lst.hits {w : World} {B b mb n : Nat} {v : Value} {most : Nat} {hs : List Hit} (h : Lst w B b mb n v most hs) : ∃ A c, v = .slice A hs.length c ∧ hs.length ≤ c ∧ HitsAt (fun g => B ≤ g ∧ g ≠ b ∧ g ≠ mb) w A hs := by
  obtain ⟨cs, h1, h2⟩ := h.row
  have hne := h.ne
  exact Cells3.hitsAt h1 h2 rfl (fun g s => ⟨s.1, s.2.1, s.2.2.1⟩) (fun g s e => ⟨s, fun e' => hne.2.1 (by rw [← e, e']), fun e' => hne.2.2 (by rw [← e, e'])⟩)

end Go.Proofs.Ytfhnhfppamnjhaa
