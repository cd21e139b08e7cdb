/-
  Lists of hits that came in, as the contracts take them; rows of lists of the call's own; a hit of a row is given another vector.
-/
import Derived.Test.YtfhnhfppamnjhaaOpen
import Derived.Test.YtfhnhfppamnjhaaNilL
import Derived.Test.YtfhnhfppamnjhaaRoom
namespace Go.Proofs.Ytfhnhfppamnjhaa
open Go.RowKit Go.ChangeShapes Go.WideShapes Go.Deep

def OkHits (hs : List Hit) : Prop := hs.length ≤ 9223372036854775807 ∧ (∀ o ∈ hs, o.2.2.length ≤ 9223372036854775807) ∧ ∀ o ∈ hs, (Lit.int .u64 o.1).wf = true ∧ (Lit.int .u64 o.2.1).wf = true
theorem hits_open_t {H : Type} {enc : TypeId × Value → H} {w : World} {fuel : Nat} {v : Value} {x : DataW H × List MemPlace} (hf : DataW.trod enc Try.prog w 0 (fun _ => true) true fuel 29 [v] = some x) :
    ∃ A hs c, v = .slice A hs.length c ∧ HitsAt (fun g => g < w.heap.size) w A hs ∧ OkHits hs := by
  unfold OkHits
  rcases open_slice Try.underlying29 hf with ⟨hcs, _⟩ | ⟨a, len, cap, m, n, D, Pl, hcs, _, hl, hm, hmm, _, hi⟩
  · injection hcs with hcs
    subst hcs
    exact ⟨none, [], 0, rfl, fun j hj => by simp at hj, by simp, by simp, by simp⟩
  · injection hcs with hcs
    subst hcs
    have hex : ∀ i, ∃ q : Hit × (Option Addr × Nat), i < len → w.cell? (a.add (i * 3)) = some (.int .u64 q.1.1) ∧ w.cell? ⟨(a.add (i * 3)).block, (a.add (i * 3)).off + 1, none⟩ = some (.int .u64 q.1.2.1) ∧ w.cell? ⟨(a.add (i * 3)).block, (a.add (i * 3)).off + 2, none⟩ = some (.slice q.2.1 q.1.2.2.length q.2.2) ∧ q.1.2.2.length ≤ q.2.2 ∧
        Row (fun g => g < w.heap.size) w q.2.1 (i32s q.1.2.2) ∧ q.1.2.2.length ≤ 9223372036854775807 ∧ (Lit.int .u64 q.1.1).wf = true ∧ (Lit.int .u64 q.1.2.1).wf = true := fun i => by
      by_cases hil : i < len
      · obtain ⟨cs', hc, ht⟩ := hi i (by rw [hmm]; simp; omega)
        rw [cells36] at hc
        obtain ⟨id, di, X, l, c, rfl, b1, b1', b2, b3, b4⟩ := hit_open ht
        obtain ⟨_, _, hat⟩ := World.cells?_some hc
        have e0 := hat 0 (by decide)
        have e1 := hat 1 (by decide)
        have e2 := hat 2 (by decide)
        exact ⟨((id, di, l), (X, c)), fun _ => ⟨e0, e1, e2, b2, b4, b3, b1, b1'⟩⟩
      · exact ⟨((0, 0, []), (none, 0)), fun h => absurd h hil⟩
    obtain ⟨f, hf2⟩ := Classical.axiomOfChoice hex
    have hlen : ((List.range len).map fun i => (f i).1).length = len := by simp
    refine ⟨some a, (List.range len).map fun i => (f i).1, cap, by rw [hlen], fun j hj => ?_, by rw [hlen]; unfold maxLen at hm; omega, fun o ho => ?_, fun o ho => ?_⟩
    · rw [hlen] at hj
      obtain ⟨c0, c1, c2, c3, c4, _⟩ := hf2 j hj
      have hb := lt_of_cell c0
      rw [block_add] at hb
      simp only [List.getElem_map, List.getElem_range]
      exact ⟨a, rfl, hb, hb, c0, c1, _, _, c2, c3, c4⟩
    · obtain ⟨i, hi, rfl⟩ := List.mem_map.1 ho
      exact (hf2 i (List.mem_range.1 hi)).2.2.2.2.2.1
    · obtain ⟨i, hi, rfl⟩ := List.mem_map.1 ho
      exact (hf2 i (List.mem_range.1 hi)).2.2.2.2.2.2

theorem cells29 : Try.prog.cellsOf 29 = 1 := by kernel_rfl
theorem lists_open {H : Type} {enc : TypeId × Value → H} {w : World} {v : Value} {d : DataW H} {p : List MemPlace} {base : Nat} (o : Value.okWide Try.prog w .any base 22 v) (h : DataW.Trod enc Try.prog w 0 (fun _ => true) true 22 v d p) :
    ∃ A ls c, v = .slice A ls.length c ∧ ListsAt (fun g => g < w.heap.size) w A ls ∧ ls.length ≤ 9223372036854775807 ∧ ∀ l ∈ ls, OkHits l := by
  obtain ⟨fuel, hf⟩ := h
  obtain ⟨A, len, cap, rfl⟩ := okWide_slice Try.underlying22 o
  rcases open_slice Try.underlying22 hf with ⟨hcs, _⟩ | ⟨a, l, c, m, n, D, Pl, hcs, _, hl, hm, hmm, _, hi⟩
  · simp [Value.cells] at hcs
    obtain ⟨rfl, rfl, rfl⟩ := hcs
    exact ⟨none, [], 0, rfl, fun j hj => by simp at hj, by simp, by simp⟩
  · simp [Value.cells] at hcs
    obtain ⟨rfl, rfl, rfl⟩ := hcs
    have hex : ∀ i, ∃ q : List Hit × (Option Addr × Nat), i < len → w.cell? (a.add i) = some (.slice q.2.1 q.1.length q.2.2) ∧ HitsAt (fun g => g < w.heap.size) w q.2.1 q.1 ∧ OkHits q.1 := fun i => by
      by_cases hil : i < len
      · obtain ⟨cs', hc, ht⟩ := hi i (by rw [hmm]; simp; omega)
        rw [cells29, Nat.mul_one] at hc
        obtain ⟨_, hlen, hat⟩ := World.cells?_some hc
        match cs', hlen with
        | [v], _ =>
          obtain ⟨X, l, c, rfl, b1, b2⟩ := hits_open_t ht
          have e0 := hat 0 (by decide)
          exact ⟨(l, (X, c)), fun _ => ⟨e0, b1, b2⟩⟩
      · exact ⟨([], (none, 0)), fun h => absurd h hil⟩
    obtain ⟨f, hf2⟩ := Classical.axiomOfChoice hex
    have hlen : ((List.range len).map fun i => (f i).1).length = len := by simp
    refine ⟨some a, (List.range len).map fun i => (f i).1, cap, by rw [hlen], fun j hj => ?_, by rw [hlen]; unfold maxLen at hm; omega, fun o ho => ?_⟩
    · rw [hlen] at hj
      obtain ⟨c0, c1, _⟩ := hf2 j hj
      have hb := lt_of_cell c0
      rw [block_add] at hb
      simp only [List.getElem_map, List.getElem_range]
      exact ⟨a, _, _, rfl, hb, hb, c0, c1⟩
    · obtain ⟨i, hi, rfl⟩ := List.mem_map.1 ho
      exact (hf2 i (List.mem_range.1 hi)).2.2

/-- a hit of a row of the call's own is given another vector -/
theorem Own3.setVec {w : World} {B g n cap j c : Nat} {hs : List Hit} {X : Option Addr} {l : List Int} (h : Own3 w B (.slice (some ⟨g, 0, none⟩) n cap) hs) (hj : j < hs.length) (hc : l.length ≤ c) (hr : Row (fun k => B ≤ k ∧ k ≠ g) w X (i32s l)) :
    Own3 (w.setCell ⟨g, j * 3 + 2, none⟩ (.slice X l.length c)) B (.slice (some ⟨g, 0, none⟩) n cap) (hs.set j (hs[j].1, hs[j].2.1, l)) := by
  obtain ⟨cs, ho, hce⟩ := h
  have hn : n = hs.length := by
    rcases ho.2 with ⟨e, _⟩ | ⟨g', cap', cur, e, _⟩
    · cases e
    · injection e with _ e _
  subst hn
  have hl := hce.1
  have hst := ho.stored (j * 3 + 2) (.slice X l.length c)
  have keep : ∀ {Y : Option Addr} {m : List Int}, Row (fun k => B ≤ k ∧ some k ≠ (Value.slice (some ⟨g, 0, none⟩) hs.length cap).ownBlock) w Y (i32s m) → Row (fun k => B ≤ k ∧ some k ≠ (Value.slice (some ⟨g, 0, none⟩) hs.length cap).ownBlock) (w.setCell ⟨g, j * 3 + 2, none⟩ (.slice X l.length c)) Y (i32s m) := fun r =>
    r.kept (by rw [set_size]; exact Nat.le_refl _) fun k _ s => Below.heap_setCell _ _ _ _ (fun e => s.2 (by rw [e]; rfl))
  refine ⟨cs.set (j * 3 + 2) (.slice X l.length c), by rw [List.length_set]; exact hst.1, ?_⟩
  refine ⟨by rw [List.length_set, List.length_set]; exact hl, fun t y hy => ?_⟩
  rw [List.getElem?_set] at hy
  by_cases e : j = t
  · subst e
    rw [if_pos rfl, if_pos hj] at hy
    injection hy with hy
    subst hy
    obtain ⟨a0, a1, _⟩ := hce.2 j hs[j] (by simp)
    refine ⟨?_, ?_, X, c, ?_, hc, keep (hr.mono fun k _ s => ⟨s.1, fun e => s.2 (by simpa [Value.ownBlock] using e)⟩)⟩
    · rw [List.getElem?_set_ne (by omega)]; exact a0
    · rw [List.getElem?_set_ne (by omega)]; exact a1
    · rw [List.getElem?_set_self (by omega)]
  · rw [if_neg e] at hy
    obtain ⟨a0, a1, Y, d, a2, a3, a4⟩ := hce.2 t y hy
    refine ⟨?_, ?_, Y, d, ?_, a3, keep a4⟩
    · rw [List.getElem?_set_ne (by omega)]; exact a0
    · rw [List.getElem?_set_ne (by omega)]; exact a1
    · rw [List.getElem?_set_ne (by omega)]; exact a2

/-- Values that read as lists of hits. -/
def Vals (S : Nat → Prop) (w : World) (vs : List Value) (ls : List (List Hit)) : Prop :=
  vs.length = ls.length ∧ ∀ (j : Nat) (l : List Hit), ls[j]? = some l → ∃ X c, vs[j]? = some (Value.slice X l.length c) ∧ HitsAt S w X l
theorem Vals.nil {S : Nat → Prop} {w : World} : Vals S w [] [] := ⟨rfl, fun j l e => by simp at e⟩
theorem Vals.kept {S : Nat → Prop} {w w' : World} {vs : List Value} {ls : List (List Hit)} (h : Vals S w vs ls) (hs : w.heap.size ≤ w'.heap.size) (hk : ∀ g, g < w.heap.size → S g → w'.heap[g]? = w.heap[g]?) : Vals S w' vs ls :=
  ⟨h.1, fun j l e => by
    obtain ⟨X, c, h1, h2⟩ := h.2 j l e
    exact ⟨X, c, h1, h2.kept hs hk⟩⟩
theorem Vals.mono {S S' : Nat → Prop} {w : World} {vs : List Value} {ls : List (List Hit)} (h : Vals S w vs ls) (hS : ∀ g, g < w.heap.size → S g → S' g) : Vals S' w vs ls :=
  ⟨h.1, fun j l e => by
    obtain ⟨X, c, h1, h2⟩ := h.2 j l e
    exact ⟨X, c, h1, h2.mono hS⟩⟩
theorem Vals.append {S : Nat → Prop} {w : World} {vs us : List Value} {ls ms : List (List Hit)} (h : Vals S w vs ls) (h' : Vals S w us ms) : Vals S w (vs ++ us) (ls ++ ms) := by
  refine ⟨by rw [List.length_append, List.length_append, h.1, h'.1], fun j l e => ?_⟩
  have hl := h.1
  by_cases hj : j < ls.length
  · rw [List.getElem?_append_left hj] at e
    rw [List.getElem?_append_left (by omega)]
    exact h.2 j l e
  · rw [List.getElem?_append_right (by omega)] at e
    rw [List.getElem?_append_right (by omega), hl]
    exact h'.2 _ l e
theorem Vals.one {S : Nat → Prop} {w : World} {X : Option Addr} {c : Nat} {l : List Hit} (h : HitsAt S w X l) : Vals S w [.slice X l.length c] [l] :=
  ⟨rfl, fun j m e => by
    cases j with
    | zero => simp at e; subst e; exact ⟨X, c, rfl, h⟩
    | succ j => simp at e⟩
theorem Vals.oneCell {S : Nat → Prop} {w : World} {vs : List Value} {ls : List (List Hit)} (h : Vals S w vs ls) : ∀ u ∈ vs, u.oneCell' = true := fun u hu => by
  obtain ⟨i, hi, rfl⟩ := List.getElem_of_mem hu
  have hl := h.1
  obtain ⟨X, c, h1, _⟩ := h.2 i (ls[i]'(by omega)) (by simp)
  rw [List.getElem?_eq_getElem hi] at h1
  injection h1 with h1
  rw [h1]; rfl
/-- an own row of values reads as lists -/
theorem Vals.lists {S : Nat → Prop} {w : World} {B n : Nat} {v : Value} {vs : List Value} {ls : List (List Hit)} (ho : w.ownsRow B 29 1 v n vs) (h : Vals S w vs ls) : ∃ A c, v = .slice A ls.length c ∧ ListsAt (fun _ => True) w A ls := by
  obtain ⟨A, c, e, _, hn, hr⟩ := Row.of_own ho
  have hl := h.1
  refine ⟨A, c, by rw [e, ← hn, hl], fun j hj => ?_⟩
  obtain ⟨ad, e1, s1, lt, hc⟩ := hr j (by omega)
  obtain ⟨X, d, h1, h2⟩ := h.2 j ls[j] (by simp)
  exact ⟨ad, X, d, e1, trivial, lt, by rw [hc]; exact h1, h2.mono fun _ _ _ => trivial⟩

end Go.Proofs.Ytfhnhfppamnjhaa
