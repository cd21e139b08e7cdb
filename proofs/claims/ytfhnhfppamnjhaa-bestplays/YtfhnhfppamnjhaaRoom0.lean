/-
  Hits that are given IDs of their own; how many there are then.
-/
import Derived.Test.YtfhnhfppamnjhaaTake
namespace Go.Proofs.Ytfhnhfppamnjhaa
open Go.RowKit Go.Maps

/-- the first k have their places as IDs -/
def numb (k : Nat) (hs : List Hit) : List Hit := hs.mapIdx fun i h => if i < k then ((i : Int), h.2) else h
theorem numb_len (k : Nat) (hs : List Hit) : (numb k hs).length = hs.length := by simp [numb]
theorem numb_at (k : Nat) (hs : List Hit) (j : Nat) : (numb k hs)[j]? = (hs[j]?).map fun h => if j < k then ((j : Int), h.2) else h := by simp [numb]
theorem numb_zero (hs : List Hit) : numb 0 hs = hs := by
  apply List.ext_getElem?
  intro j
  rw [numb_at]
  cases hs[j]? <;> simp
theorem numb_step {k : Nat} {hs : List Hit} (hk : k < hs.length) : numb (k + 1) hs = (numb k hs).set k ((k : Int), hs[k].2) := by
  apply List.ext_getElem?
  intro j
  rw [List.getElem?_set, numb_at, numb_at, numb_len]
  by_cases e : k = j
  · subst e
    simp [hk]
  · simp only [e, if_false]
    have : (j < k + 1) ↔ (j < k) := by omega
    simp [this]
theorem numb_all {hs : List Hit} : ∀ x ∈ numb hs.length hs, ∃ j, ∃ hj : j < hs.length, x = ((j : Int), hs[j].2) := fun x hx => by
  obtain ⟨j, hj, rfl⟩ := List.getElem_of_mem hx
  have hj' : j < hs.length := by rw [numb_len] at hj; exact hj
  refine ⟨j, hj', ?_⟩
  have := numb_at hs.length hs j
  rw [List.getElem?_eq_getElem hj, List.getElem?_eq_getElem hj'] at this
  simp [hj'] at this
  exact this
theorem numb_once (hs : List Hit) : (numb hs.length hs).Pairwise fun a b => a.1 ≠ b.1 := by
  rw [List.pairwise_iff_getElem]
  intro i j hi hj hij
  have h1 : ∀ t (ht : t < (numb hs.length hs).length), (numb hs.length hs)[t].1 = (t : Int) := fun t ht => by
    have ht' : t < hs.length := by rw [numb_len] at ht; exact ht
    have := numb_at hs.length hs t
    rw [List.getElem?_eq_getElem ht, List.getElem?_eq_getElem ht'] at this
    simp [ht'] at this
    rw [this]
  rw [h1 i hi, h1 j hj]
  omega

/-- where no ID comes twice nothing is lost -/
theorem all_len {M : Nat} : ∀ (xs T : List Hit), xs.Pairwise (fun a b => a.1 ≠ b.1) → (∀ x ∈ xs, ∀ y ∈ T, y.1 ≠ x.1) → T.length + xs.length < M → (putAll M T xs).1.length = T.length + xs.length
  | [], T, _, _, _ => rfl
  | x :: xs, T, hp, hno, hM => by
    rw [List.length_cons] at hM
    rw [List.pairwise_cons] at hp
    rw [putAll_cons, putOne_big (hno x List.mem_cons_self) (by omega), all_len xs _ hp.2 (fun y hy z hz => ?_) (by rw [ins_len]; omega), ins_len, List.length_cons]
    · omega
    · rcases ins_mem.1 hz with rfl | hz
      · exact hp.1 y hy
      · exact hno y (List.mem_cons_of_mem _ hy) z hz

theorem Own3.setId {w : World} {B g n cap : Nat} {hs : List Hit} {j : Nat} {x : Int} (h : Own3 w B (.slice (some ⟨g, 0, none⟩) n cap) hs) (hj : j < hs.length) : Own3 (w.setCell ⟨g, j * 3, none⟩ (.int .u64 x)) B (.slice (some ⟨g, 0, none⟩) n cap) (hs.set j (x, hs[j].2)) := by
  obtain ⟨cs, ⟨hl, hr⟩, hc⟩ := h
  rcases hr with ⟨e, _⟩ | ⟨g', cap', cur, e, hB, hh, hnc, hm, hcur, htk⟩
  · cases e
  injection e with e1 e2 e3
  injection e1 with e1
  injection e1 with e1 _ _
  subst e1 e2 e3
  have hset : (w.setCell ⟨g, j * 3, none⟩ (.int .u64 x)).heap[g]? = some (.cells (cur.setIfInBounds (j * 3) (.int .u64 x)) 36 (0, 0)) := by
    rw [setCell_eq_setRow w g (j * 3) cur 36 (0, 0) _ hh]
    exact setRow_heap w g cur _ 36 _ hh
  refine ⟨cs.set (j * 3) (.int .u64 x), ⟨by rw [List.length_set, List.length_set, hl], .inr ⟨g, cap, _, by rw [List.length_set], hB, hset, by rw [List.length_set]; exact hnc, hm, by simp [hcur], ?_⟩⟩, ?_⟩
  · rw [List.length_set, Array.toList_setIfInBounds, ← htk, List.take_set]
  · refine ⟨by rw [List.length_set, List.length_set]; exact hc.1, fun t y hy => ?_⟩
    rw [List.getElem?_set] at hy
    have keep : ∀ {X : Option Addr} {l : List Int}, Row (fun k => B ≤ k ∧ some k ≠ (Value.slice (some ⟨g, 0, none⟩) hs.length cap).ownBlock) w X (i32s l) → Row (fun k => B ≤ k ∧ some k ≠ (Value.slice (some ⟨g, 0, none⟩) (hs.set j (x, hs[j].2)).length cap).ownBlock) (w.setCell ⟨g, j * 3, none⟩ (.int .u64 x)) X (i32s l) := fun r =>
      (r.kept (by rw [set_size]; exact Nat.le_refl _) fun k _ s => Below.heap_setCell _ _ _ _ (fun e => s.2 (by rw [e]; rfl))).mono fun k _ s => ⟨s.1, s.2⟩
    by_cases e : j = t
    · subst e
      rw [if_pos rfl, if_pos hj] at hy
      injection hy with hy
      subst hy
      obtain ⟨a0, a1, X, c, a2, a3, a4⟩ := hc.2 j hs[j] (by simp)
      have hlt : j * 3 < cs.length := by rw [hl]; omega
      refine ⟨by simp [hlt], ?_, X, c, ?_, a3, keep a4⟩
      · rw [List.getElem?_set_ne (by omega)]; exact a1
      · rw [List.getElem?_set_ne (by omega)]; exact a2
    · rw [if_neg e] at hy
      obtain ⟨a0, a1, X, c, a2, a3, a4⟩ := hc.2 t y hy
      refine ⟨?_, ?_, X, c, ?_, a3, keep a4⟩
      · rw [List.getElem?_set_ne (by omega)]; exact a0
      · rw [List.getElem?_set_ne (by omega)]; exact a1
      · rw [List.getElem?_set_ne (by omega)]; exact a2
theorem HitsAt.take {S : Nat → Prop} {w : World} {A : Option Addr} {hs : List Hit} (h : HitsAt S w A hs) (n : Nat) : HitsAt S w A (hs.take n) := fun j hj => by
  have hj' : j < hs.length := by rw [List.length_take] at hj; omega
  simp only [List.getElem_take]
  exact h j hj'

end Go.Proofs.Ytfhnhfppamnjhaa
