/-
  Rows of hits: what they read as, how they are cut and put together.
-/
import Derived.Test.YtfhnhfppamnjhaaCutVec
import Derived.Deep.RegionHeld3
import Derived.Laws.CopyRow
namespace Go.Proofs.Ytfhnhfppamnjhaa
open Go.RowKit

theorem own_kept {w w' : World} {B e s n : Nat} {v : Value} {xs : List Value} {row : Option Nat} (h : w.ownsRow B e s v n xs) (hg : w.grownBy w' row) (hne : ∀ g, v.ownBlock = some g → row ≠ some g) : w'.ownsRow B e s v n xs := by
  obtain ⟨h1, h2⟩ := h
  refine ⟨h1, ?_⟩
  rcases h2 with h2 | ⟨g, cap, cur, rfl, hb, hh, r⟩
  · exact .inl h2
  · exact .inr ⟨g, cap, cur, rfl, hb, (hg.block g (lt_of_block hh) (fun e => hne g rfl e.symm)).trans hh, r⟩
theorem own_lt {w : World} {B e s n g : Nat} {v : Value} {xs : List Value} (h : w.ownsRow B e s v n xs) (hv : v.ownBlock = some g) : B ≤ g ∧ g < w.heap.size := by
  rcases h.2 with ⟨rfl, _⟩ | ⟨g', cap, cur, rfl, hb, hh, r⟩
  · simp [Value.ownBlock] at hv
  · obtain rfl : g' = g := by simpa [Value.ownBlock] using hv
    exact ⟨hb, lt_of_block hh⟩

/-- A hit: its ID, how far it is, its vector. -/
abbrev Hit := Int × Int × List Int

/-- A slice that reads as hits; of its block and of those of its vectors S holds. -/
def HitsAt (S : Nat → Prop) (w : World) (A : Option Addr) (hs : List Hit) : Prop :=
  ∀ j (hj : j < hs.length), ∃ ad, A = some ad ∧ S ad.block ∧ ad.block < w.heap.size ∧ w.cell? (ad.add (j * 3)) = some (.int .u64 (hs[j]'hj).1) ∧
    w.cell? ⟨(ad.add (j * 3)).block, (ad.add (j * 3)).off + 1, none⟩ = some (.int .u64 (hs[j]'hj).2.1) ∧
    ∃ X c, w.cell? ⟨(ad.add (j * 3)).block, (ad.add (j * 3)).off + 2, none⟩ = some (.slice X (hs[j]'hj).2.2.length c) ∧ (hs[j]'hj).2.2.length ≤ c ∧ Row S w X (i32s (hs[j]'hj).2.2)

theorem HitsAt.kept {S : Nat → Prop} {w w' : World} {A : Option Addr} {hs : List Hit} (h : HitsAt S w A hs) (hs' : w.heap.size ≤ w'.heap.size) (hk : ∀ g, g < w.heap.size → S g → w'.heap[g]? = w.heap[g]?) : HitsAt S w' A hs := fun j hj => by
  obtain ⟨ad, e, s, lt, h0, h1, X, c, h2, hc, hr⟩ := h j hj
  have hb : w'.heap[(ad.add (j * 3)).block]? = w.heap[(ad.add (j * 3)).block]? := by rw [block_add]; exact hk _ lt s
  exact ⟨ad, e, s, by omega, (World.cell?_of_block hb).trans h0, (World.cell?_of_block (a := ⟨(ad.add (j * 3)).block, (ad.add (j * 3)).off + 1, none⟩) hb).trans h1, X, c, (World.cell?_of_block (a := ⟨(ad.add (j * 3)).block, (ad.add (j * 3)).off + 2, none⟩) hb).trans h2, hc, hr.kept hs' hk⟩
theorem HitsAt.below {S : Nat → Prop} {w w' : World} {A : Option Addr} {hs : List Hit} (h : HitsAt S w A hs) (hb : Below w.heap.size w w') : HitsAt S w' A hs := h.kept hb.size fun g hg _ => hb.block g hg
theorem HitsAt.mono {S S' : Nat → Prop} {w : World} {A : Option Addr} {hs : List Hit} (h : HitsAt S w A hs) (hS : ∀ g, g < w.heap.size → S g → S' g) : HitsAt S' w A hs := fun j hj => by
  obtain ⟨ad, e, s, lt, h0, h1, X, c, h2, hc, hr⟩ := h j hj
  exact ⟨ad, e, hS _ lt s, lt, h0, h1, X, c, h2, hc, hr.mono hS⟩

/-- The cells of hits. -/
def Cells3 (S : Nat → Prop) (w : World) (cs : List Value) (hs : List Hit) : Prop :=
  cs.length = hs.length * 3 ∧ ∀ j h, hs[j]? = some h → cs[j * 3]? = some (.int .u64 h.1) ∧ cs[j * 3 + 1]? = some (.int .u64 h.2.1) ∧ ∃ X c, cs[j * 3 + 2]? = some (.slice X h.2.2.length c) ∧ h.2.2.length ≤ c ∧ Row S w X (i32s h.2.2)

theorem Cells3.kept {S S' : Nat → Prop} {w w' : World} {cs : List Value} {hs : List Hit} (h : Cells3 S w cs hs) (hs' : w.heap.size ≤ w'.heap.size) (hk : ∀ g, g < w.heap.size → S g → w'.heap[g]? = w.heap[g]? ∧ S' g) : Cells3 S' w' cs hs :=
  ⟨h.1, fun j x hx => by
    obtain ⟨h0, h1, X, c, h2, hc, hr⟩ := h.2 j x hx
    refine ⟨h0, h1, X, c, h2, hc, ?_⟩
    have hr' : Row (fun g => S g ∧ S' g) w X (i32s x.2.2) := hr.mono fun g hg s => ⟨s, (hk g hg s).2⟩
    exact (hr'.kept hs' fun g hg s => (hk g hg s.1).1).mono fun g _ s => s.2⟩
theorem Cells3.nil {S : Nat → Prop} {w : World} : Cells3 S w [] [] := ⟨rfl, fun j h e => by simp at e⟩
theorem Cells3.one {S : Nat → Prop} {w : World} (h : Hit) (X : Option Addr) (c : Nat) (hc : h.2.2.length ≤ c) (hr : Row S w X (i32s h.2.2)) : Cells3 S w [.int .u64 h.1, .int .u64 h.2.1, .slice X h.2.2.length c] [h] :=
  ⟨rfl, fun j x hx => by
    cases j with
    | zero => simp at hx; subst hx; exact ⟨rfl, rfl, X, c, rfl, hc, hr⟩
    | succ j => simp at hx⟩
theorem Cells3.append {S : Nat → Prop} {w : World} {cs cs' : List Value} {hs hs' : List Hit} (h : Cells3 S w cs hs) (h' : Cells3 S w cs' hs') : Cells3 S w (cs ++ cs') (hs ++ hs') := by
  refine ⟨by rw [List.length_append, List.length_append, h.1, h'.1]; omega, fun j x hx => ?_⟩
  have hl := h.1
  by_cases e : j < hs.length
  · rw [List.getElem?_append_left e] at hx
    rw [List.getElem?_append_left (by omega), List.getElem?_append_left (by omega), List.getElem?_append_left (by omega)]
    exact h.2 j x hx
  · rw [List.getElem?_append_right (by omega)] at hx
    rw [List.getElem?_append_right (by omega), List.getElem?_append_right (by omega), List.getElem?_append_right (by omega), hl, show j * 3 - hs.length * 3 = (j - hs.length) * 3 by omega, show j * 3 + 1 - hs.length * 3 = (j - hs.length) * 3 + 1 by omega, show j * 3 + 2 - hs.length * 3 = (j - hs.length) * 3 + 2 by omega]
    exact h'.2 _ x hx
theorem Cells3.take {S : Nat → Prop} {w : World} {cs : List Value} {hs : List Hit} (h : Cells3 S w cs hs) (k : Nat) (hk : k ≤ hs.length) : Cells3 S w (cs.take (k * 3)) (hs.take k) := by
  refine ⟨by rw [List.length_take, List.length_take, h.1]; omega, fun j x hx => ?_⟩
  have hj : j < k := by
    have := (List.getElem?_eq_some_iff.1 hx).1
    rw [List.length_take] at this
    omega
  rw [List.getElem?_take_of_lt hj] at hx
  rw [List.getElem?_take_of_lt (by omega), List.getElem?_take_of_lt (by omega), List.getElem?_take_of_lt (by omega)]
  exact h.2 j x hx
theorem Cells3.drop {S : Nat → Prop} {w : World} {cs : List Value} {hs : List Hit} (h : Cells3 S w cs hs) (k : Nat) : Cells3 S w (cs.drop (k * 3)) (hs.drop k) := by
  refine ⟨by rw [List.length_drop, List.length_drop, h.1]; omega, fun j x hx => ?_⟩
  rw [List.getElem?_drop] at hx
  rw [List.getElem?_drop, List.getElem?_drop, List.getElem?_drop, show k * 3 + j * 3 = (k + j) * 3 by omega, show k * 3 + (j * 3 + 1) = (k + j) * 3 + 1 by omega, show k * 3 + (j * 3 + 2) = (k + j) * 3 + 2 by omega]
  exact h.2 _ x hx
theorem Cells3.oneCell {S : Nat → Prop} {w : World} {cs : List Value} {hs : List Hit} (h : Cells3 S w cs hs) : ∀ u ∈ cs, u.oneCell' = true := by
  intro u hu
  obtain ⟨i, hi, rfl⟩ := List.getElem_of_mem hu
  have hl := h.1
  obtain ⟨h0, h1, X, c, h2, _⟩ := h.2 (i / 3) (hs[i / 3]'(by omega)) (by simp)
  have : i = i / 3 * 3 ∨ i = i / 3 * 3 + 1 ∨ i = i / 3 * 3 + 2 := by omega
  rcases this with e | e | e
  · rw [← e, List.getElem?_eq_getElem hi] at h0
    injection h0 with h0
    rw [h0]; rfl
  · rw [← e, List.getElem?_eq_getElem hi] at h1
    injection h1 with h1
    rw [h1]; rfl
  · rw [← e, List.getElem?_eq_getElem hi] at h2
    injection h2 with h2
    rw [h2]; rfl

/-- A row of hits of the call's own. -/
def Own3 (w : World) (B : Nat) (v : Value) (hs : List Hit) : Prop :=
  ∃ cs, w.ownsRow B 36 3 v hs.length cs ∧ Cells3 (fun g => B ≤ g ∧ some g ≠ v.ownBlock) w cs hs

theorem Own3.start (w : World) : Own3 w w.heap.size (.slice none 0 0) [] :=
  ⟨[], ⟨by simp, .inl ⟨rfl, rfl⟩⟩, Cells3.nil⟩
theorem Own3.low {w : World} {B g : Nat} {v : Value} {hs : List Hit} (h : Own3 w B v hs) (hv : v.ownBlock = some g) : B ≤ g ∧ g < w.heap.size := by
  obtain ⟨cs, h1, _⟩ := h
  exact own_lt h1 hv
theorem Own3.below {w w' : World} {B : Nat} {v : Value} {hs : List Hit} (h : Own3 w B v hs) (hb : Below w.heap.size w w') : Own3 w' B v hs := by
  obtain ⟨cs, h1, h2⟩ := h
  exact ⟨cs, own_kept (row := none) h1 ⟨hb.os, hb.tape, hb.output, hb.size, fun i hi _ => hb.block i hi⟩ (by simp), h2.kept hb.size fun g hg s => ⟨hb.block g hg, s⟩⟩
theorem Own3.alloc {w : World} {B : Nat} {v : Value} {hs : List Hit} (h : Own3 w B v hs) (o : Obj) : Own3 (w.alloc o) B v hs := h.below ((Below.refl _ _).alloc (Nat.le_refl _) _)
theorem Own3.lower {w : World} {B B' : Nat} {v : Value} {hs : List Hit} (h : Own3 w B v hs) (hB : B' ≤ B) : Own3 w B' v hs := by
  obtain ⟨cs, ⟨hl, h1⟩, h2⟩ := h
  refine ⟨cs, ⟨hl, ?_⟩, h2.kept (Nat.le_refl _) fun g _ s => ⟨rfl, Nat.le_trans hB s.1, s.2⟩⟩
  rcases h1 with h1 | ⟨g, cap, cur, e, hg, r⟩
  · exact .inl h1
  · exact .inr ⟨g, cap, cur, e, Nat.le_trans hB hg, r⟩

theorem cells_hits {w : World} {B n g : Nat} {v : Value} {cs : List Value} (h1 : w.ownsRow B 36 3 v n cs) (hv : v.ownBlock = some g) : ∀ j u, cs[j]? = some u → w.cell? ((⟨g, 0, none⟩ : Addr).add j) = some u := h1.cells hv
theorem add3 (g j i : Nat) : (⟨((⟨g, 0, none⟩ : Addr).add j).block, ((⟨g, 0, none⟩ : Addr).add j).off + i, none⟩ : Addr) = (⟨g, 0, none⟩ : Addr).add (j + i) := by
  rw [Addr.add_lit, Addr.add_lit]; simp [Nat.add_assoc]

theorem Cells3.hitsAt {S T : Nat → Prop} {w : World} {B n : Nat} {v : Value} {cs : List Value} {hs : List Hit} (h1 : w.ownsRow B 36 3 v n cs) (h2 : Cells3 S w cs hs) (hn : n = hs.length) (hS : ∀ g, S g → T g) (hT : ∀ g, B ≤ g → some g = v.ownBlock → T g) :
    ∃ A c, v = .slice A hs.length c ∧ hs.length ≤ c ∧ HitsAt T w A hs := by
  subst hn
  rcases h1.2 with ⟨rfl, e⟩ | ⟨g, cap, cur, rfl, hg, hh, hnc, r⟩
  · have : hs = [] := List.eq_nil_of_length_eq_zero e
    subst this
    exact ⟨none, 0, rfl, Nat.le_refl _, fun j hj => by simp at hj⟩
  · refine ⟨_, cap, rfl, hnc, fun j hj => ?_⟩
    obtain ⟨c0, c1, X, c, c2, hc, hr⟩ := h2.2 j hs[j] (by simp)
    refine ⟨_, rfl, hT g hg rfl, lt_of_block hh, cells_hits h1 rfl _ _ c0, ?_, X, c, ?_, hc, hr.mono fun g _ s => hS g s⟩
    · rw [add3]; exact cells_hits h1 rfl _ _ c1
    · rw [add3]; exact cells_hits h1 rfl _ _ c2
theorem Own3.hits {w : World} {B : Nat} {v : Value} {hs : List Hit} (h : Own3 w B v hs) : ∃ A c, v = .slice A hs.length c ∧ hs.length ≤ c ∧ HitsAt (fun g => B ≤ g) w A hs := by
  obtain ⟨cs, h1, h2⟩ := h
  exact Cells3.hitsAt h1 h2 rfl (fun g s => s.1) (fun g s _ => s)

/-- behind an append of one hit -/
theorem Own3.step {w w' : World} {B g cap : Nat} {v : Value} {hs : List Hit} {o : Obj} {cs : List Value} {h : Hit} {X : Option Addr} {c : Nat}
    (h2 : Cells3 (fun g => B ≤ g ∧ some g ≠ v.ownBlock) w cs hs) (hc : h.2.2.length ≤ c) (hr : Row (fun g => B ≤ g ∧ some g ≠ v.ownBlock) w X (i32s h.2.2))
    (hown : w'.ownsRow B 36 3 (.slice (some ⟨g, 0, none⟩) (hs.length + 1) cap) (hs.length + 1) (cs ++ [.int .u64 h.1, .int .u64 h.2.1, .slice X h.2.2.length c])) (hgrow : (w.alloc o).grownBy w' v.ownBlock) (hat : v.ownBlock = some g ∨ g = w.heap.size + 1) :
    Own3 w' B (.slice (some ⟨g, 0, none⟩) (hs.length + 1) cap) (hs ++ [h]) := by
  refine ⟨_, by rw [List.length_append, List.length_singleton]; exact hown, ?_⟩
  have h3 := h2.append (Cells3.one h X c hc hr)
  have hs : (w.alloc o).heap.size = w.heap.size + 1 := by simp
  refine h3.kept (by have := hgrow.size; omega) fun k hk s => ⟨?_, s.1, ?_⟩
  · rw [hgrow.block k (by omega) s.2, Below.heap_alloc _ _ _ hk]
  · intro e
    have e' : k = g := by simpa [Value.ownBlock] using e
    subst e'
    rcases hat with e | e
    · exact s.2 e.symm
    · omega

theorem Try.info36 : (Try.prog.info? 36).map (fun i => (i.zero, i.size, i.bytes)) = some (some (.agg #[.int .u64 0, .int .u64 0, .slice none 0 0]), 3, 40) := by kernel_rfl

end Go.Proofs.Ytfhnhfppamnjhaa
