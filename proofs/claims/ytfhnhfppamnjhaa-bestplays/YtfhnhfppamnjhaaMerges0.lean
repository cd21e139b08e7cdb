/-
  Where BestMerges stands behind so many lists.
-/
import Derived.Test.YtfhnhfppamnjhaaLists
namespace Go.Proofs.Ytfhnhfppamnjhaa
open Go.RowKit Go.Maps

def SM (B bx : Nat) (v1 : Value) (g : Nat) : Prop := B ≤ g ∧ g ≠ bx ∧ some g ≠ v1.ownBlock

/-- The lists, the lists turned round, the document's List of all of them. -/
structure MI (B bx : Nat) (w : World) (ls : List (List Hit)) (v1 v2 : Value) (vs us : List Value) (Ax : Option Addr) (cx : Nat) (L : List Hit) : Prop where
  own1 : w.ownsRow B 29 1 v1 ls.length vs
  own2 : w.ownsRow B 29 1 v2 ls.length us
  vals1 : Vals (SM B bx v1) w vs ls
  vals2 : Vals (SM B bx v1) w us ls.reverse
  rl : RL w (SM B bx v1) B bx 1048576 Ax cx L
  perm : L.Perm (putAll 1048576 [] ls.flatten).1
  off1 : v1.ownBlock ≠ some bx
  off2 : ∀ g, v2.ownBlock = some g → SM B bx v1 g

theorem MI.below {B bx : Nat} {w w' : World} {ls : List (List Hit)} {v1 v2 : Value} {vs us : List Value} {Ax : Option Addr} {cx : Nat} {L : List Hit} (h : MI B bx w ls v1 v2 vs us Ax cx L) (hb : Below w.heap.size w w') : MI B bx w' ls v1 v2 vs us Ax cx L :=
  ⟨own_below h.own1 hb, own_below h.own2 hb, h.vals1.kept hb.size fun g hg _ => hb.block g hg, h.vals2.kept hb.size fun g hg _ => hb.block g hg, h.rl.below hb, h.perm, h.off1, h.off2⟩

theorem MI.step {B bx : Nat} {w4 wi w6 w7 : World} {ls : List (List Hit)} {v1 v2 v1' v2' : Value} {vs us : List Value} {Ax Ay X : Option Addr} {cx cy c : Nat} {L L' G : List Hit} {pv vp : Value} (h : MI B bx w4 ls v1 v2 vs us Ax cx L)
    (hB : B ≤ w4.heap.size) (hO : Only bx w4 wi) (hR : RL wi (fun g => SM B bx v1 g ∧ some g ≠ vp.ownBlock) B bx 1048576 Ay cy L') (hL : L'.Perm (putAll 1048576 (putAll 1048576 [] ls.flatten).1 G).1)
    (hpv : pv = .slice X G.length c) (hp : HitsAt (fun g => w4.heap.size ≤ g) wi X G)
    (g6 : (wi.alloc (.cells #[pv] 29)).grownBy w6 v1.ownBlock) (o6 : w6.ownsRow B 29 1 v1' (ls.length + 1) (vs ++ [pv])) (a6 : v1'.ownBlock = v1.ownBlock ∨ v1'.ownBlock = some (wi.heap.size + 1))
    (g7 : (w6.alloc (.cells #[pv] 29)).grownBy w7 (some w6.heap.size)) (o7 : w7.ownsRow B 29 1 v2' (1 + ls.length) ([pv] ++ us)) (a7 : v2'.ownBlock = some w6.heap.size ∨ v2'.ownBlock = some (w6.heap.size + 1)) :
    MI B bx w7 (ls ++ [G]) v1' v2' (vs ++ [pv]) ([pv] ++ us) Ay cy L' := by
  have hbx : bx < w4.heap.size := lt_of_block h.rl.blk
  have s4 := hO.size
  have s6 := g6.size
  have s7 := g7.size
  have e6 : (wi.alloc (.cells #[pv] 29)).heap.size = wi.heap.size + 1 := by simp
  have e7 : (w6.alloc (.cells #[pv] 29)).heap.size = w6.heap.size + 1 := by simp
  have hv1 : ∀ g, v1.ownBlock = some g → g < w4.heap.size := fun g e => (own_lt h.own1 e).2
  have hv1' : ∀ g, v1'.ownBlock = some g → g < w6.heap.size := fun g e => (own_lt o6 e).2
  -- what stays from wi to w7
  have k7 : ∀ g, g < wi.heap.size → some g ≠ v1.ownBlock → w7.heap[g]? = wi.heap[g]? := fun g hg hne => by
    rw [g7.block g (by omega) (fun e => by injection e with e; omega), Below.heap_alloc _ _ _ (by omega), g6.block g (by omega) hne, Below.heap_alloc _ _ _ hg]
  have k67 : ∀ g, g < w6.heap.size → w7.heap[g]? = w6.heap[g]? := fun g hg => by
    rw [g7.block g (by omega) (fun e => by injection e with e; omega), Below.heap_alloc _ _ _ hg]
  have sm : ∀ g, g < wi.heap.size → SM B bx v1 g → SM B bx v1' g := fun g hg s => ⟨s.1, s.2.1, fun e => by
    rcases a6 with a6 | a6
    · exact s.2.2 (e.trans a6)
    · rw [a6] at e; injection e with e; omega⟩
  have smn : ∀ g, g < wi.heap.size → w4.heap.size ≤ g → SM B bx v1' g := fun g hg h4 => ⟨by omega, by omega, fun e => by
    rcases a6 with a6 | a6
    · have := hv1 g (a6.symm.trans e.symm); omega
    · rw [a6] at e; injection e with e; omega⟩
  have old : ∀ {us' : List Value} {ms : List (List Hit)}, Vals (SM B bx v1) w4 us' ms → Vals (SM B bx v1') w7 us' ms := fun hv => by
    have h1 : Vals (fun g => g < w4.heap.size ∧ SM B bx v1 g) w4 _ _ := hv.mono fun g hg s => ⟨hg, s⟩
    have h2 := h1.kept (w' := w7) (by omega) fun g hg s => (k7 g (by omega) s.2.2.2).trans (hO.block g hg s.2.2.1)
    exact h2.mono fun g _ s => sm g (by omega) s.2
  have new : HitsAt (SM B bx v1') w7 X G := by
    have h1 : HitsAt (fun g => g < wi.heap.size ∧ w4.heap.size ≤ g) wi X G := hp.mono fun g hg s => ⟨hg, s⟩
    have h2 := h1.kept (w' := w7) (by omega) fun g hg s => k7 g hg (fun e => by have := hv1 g e.symm; omega)
    exact h2.mono fun g _ s => smn g s.1 s.2
  have hnew : Vals (SM B bx v1') w7 [pv] [G] := by rw [hpv]; exact Vals.one new
  refine ⟨?_, ?_, (old h.vals1).append hnew, ?_, ?_, ?_, ?_, ?_⟩
  · rw [List.length_append, List.length_singleton]
    exact own_kept (row := none) o6 ⟨g7.os, g7.tape, g7.output, by omega, fun g hg _ => k67 g hg⟩ (by simp)
  · rw [List.length_append, List.length_singleton, Nat.add_comm]
    exact o7
  · rw [List.reverse_append]
    exact hnew.append (old h.vals2)
  · have h1 : RL wi (fun g => g < wi.heap.size ∧ SM B bx v1 g) B bx 1048576 Ay cy L' := by
      obtain ⟨cs, h2, h3⟩ := hR.row
      refine ⟨hR.blk, ⟨cs, h2, ⟨h3.1, fun j x hx => ?_⟩⟩, fun g e => ⟨(own_lt h2 e).2, (hR.own g e).1⟩, fun g s => s.2.2.1⟩
      obtain ⟨b0, b1, Y, d, b2, b3, b4⟩ := h3.2 j x hx
      exact ⟨b0, b1, Y, d, b2, b3, b4.mono fun g hg s => ⟨hg, s.1⟩⟩
    have h2 := h1.kept (w' := w7) (by omega) fun g hg s => k7 g hg (by
      rcases s with s | s
      · exact s.2.2.2
      · subst s; exact fun e => h.off1 e.symm)
    exact h2.mono (fun g s => sm g s.1 s.2) (fun g s => s.2.1)
  · rw [List.flatten_append, putAll_append]
    simpa using hL
  · rcases a6 with a6 | a6
    · rw [a6]; exact h.off1
    · rw [a6]; intro e; injection e with e; omega
  · intro g e
    have hg : w6.heap.size ≤ g := by rcases a7 with a7 | a7 <;> rw [a7] at e <;> injection e with e <;> omega
    exact ⟨by omega, by omega, fun e' => by have := hv1' g e'.symm; omega⟩

/-- the first j hits are given their vectors -/
def cans (j : Nat) (qs : List Hit) : List Hit := qs.mapIdx fun i h => if i < j then can h else h
theorem cans_len (k : Nat) (hs : List Hit) : (cans k hs).length = hs.length := by simp [cans]
theorem cans_at (k : Nat) (hs : List Hit) (j : Nat) : (cans k hs)[j]? = (hs[j]?).map fun h => if j < k then can h else h := by simp [cans]
theorem cans_zero (hs : List Hit) : cans 0 hs = hs := by
  apply List.ext_getElem?
  intro j
  rw [cans_at]
  cases hs[j]? <;> simp
theorem cans_get {k : Nat} {hs : List Hit} (hk : k < hs.length) (hk' : k < (cans k hs).length) : (cans k hs)[k] = hs[k] := by
  have := cans_at k hs k
  rw [List.getElem?_eq_getElem hk', List.getElem?_eq_getElem hk] at this
  simpa using this
theorem cans_step {k : Nat} {hs : List Hit} (hk : k < hs.length) : cans (k + 1) hs = (cans k hs).set k (hs[k].1, hs[k].2.1, [hs[k].1 % 7, hs[k].2.1 % 7]) := by
  apply List.ext_getElem?
  intro j
  rw [List.getElem?_set, cans_at, cans_at, cans_len]
  by_cases e : k = j
  · subst e
    simp [hk, can]
  · simp only [e, if_false]
    have : (j < k + 1) ↔ (j < k) := by omega
    simp [this]
theorem cans_all (hs : List Hit) : cans hs.length hs = hs.map can := by
  apply List.ext_getElem?
  intro j
  rw [cans_at, List.getElem?_map]
  by_cases h : j < hs.length
  · simp [h]
  · rw [List.getElem?_eq_none (by omega)]; rfl
theorem can_can (h : Hit) : Can (can h) := rfl
theorem can_wf {h : Hit} (hw : Wf h) : Wf (can h) := ⟨hw.1, hw.2.1, by simp [can]⟩
theorem RL.lt {w : World} {S : Nat → Prop} {B b most : Nat} {A : Option Addr} {c : Nat} {L : List Hit} (h : RL w S B b most A c L) : RL w (fun g => g < w.heap.size ∧ S g) B b most A c L := by
  obtain ⟨cs, h2, h3⟩ := h.row
  refine ⟨h.blk, ⟨cs, h2, ⟨h3.1, fun j x hx => ?_⟩⟩, fun g e => ⟨(own_lt h2 e).2, h.own g e⟩, fun g s => h.off g s.2⟩
  obtain ⟨b0, b1, Y, d, b2, b3, b4⟩ := h3.2 j x hx
  exact ⟨b0, b1, Y, d, b2, b3, b4.mono fun g hg s => ⟨hg, s⟩⟩
theorem Own3.keep {w w' : World} {B : Nat} {v : Value} {hs : List Hit} (h : Own3 w B v hs) (hs' : w.heap.size ≤ w'.heap.size) (hk : ∀ g, B ≤ g → g < w.heap.size → w'.heap[g]? = w.heap[g]?) : Own3 w' B v hs := by
  obtain ⟨cs, ⟨hl, hr⟩, hc⟩ := h
  refine ⟨cs, ⟨hl, ?_⟩, hc.kept hs' fun g hg s => ⟨hk g s.1 hg, s⟩⟩
  rcases hr with hr | ⟨g, cap, cur, e, hg, hh, r⟩
  · exact .inl hr
  · exact .inr ⟨g, cap, cur, e, hg, (hk g hg (lt_of_block hh)).trans hh, r⟩
theorem Own3.at3 {w : World} {B n c k : Nat} {A : Option Addr} {hs : List Hit} (h : Own3 w B (.slice A n c) hs) (hk : k < hs.length) : ∃ g, A = some ⟨g, 0, none⟩ ∧ B ≤ g ∧ g < w.heap.size ∧ w.cell? ⟨g, k * 3, none⟩ = some (.int .u64 hs[k].1) ∧ w.cell? ⟨g, k * 3 + 1, none⟩ = some (.int .u64 hs[k].2.1) ∧
    (∃ X d, w.cell? ⟨g, k * 3 + 2, none⟩ = some (.slice X hs[k].2.2.length d) ∧ hs[k].2.2.length ≤ d ∧ Row (fun q => B ≤ q ∧ q ≠ g) w X (i32s hs[k].2.2)) ∧ ∀ i, w.frozen? ⟨g, i, none⟩ = false := by
  obtain ⟨cs, hr, hc⟩ := h
  rcases hr.2 with ⟨_, e0⟩ | ⟨g, cap, cur, e0, hBg, hh, _⟩
  · exact absurd e0 (by omega)
  · injection e0 with e0 e1 e2
    subst e0 e1 e2
    obtain ⟨a0, a1, X, d, a2, a3, a4⟩ := hc.2 k hs[k] (by simp)
    have hcell : ∀ q u, cs[q]? = some u → w.cell? ⟨g, q, none⟩ = some u := fun q u hq => by
      have h1 := cells_hits hr rfl _ _ hq
      rw [Addr.add_lit, Nat.zero_add] at h1
      exact h1
    exact ⟨g, rfl, hBg, lt_of_block hh, hcell _ _ a0, hcell _ _ a1, ⟨X, d, hcell _ _ a2, a3, a4.mono fun q _ s => ⟨s.1, fun e => s.2 (by rw [e]; rfl)⟩⟩, fun i => by simp [World.frozen?, hh]⟩

end Go.Proofs.Ytfhnhfppamnjhaa
