/-
  Rows of versions: what they read as, how they are cut and put together.
-/
import Derived.Test.YtphcakhhjjdpiaaCutVec
import Derived.Deep.RegionHeld3
import Derived.Laws.CopyRow
namespace Go.Proofs.Ytphcakhhjjdpiaa
open Go.RowKit

theorem own_kept {w w' : World} {B e s n : Nat} {v : Value} {xs : List Value} {row : Option Nat} (h : w.ownsRow B e s v n xs) (hg : w.grownBy w' row) (hne : ∀ g, v.ownBlock = some g → row ≠ some g) : w'.ownsRow B e s v n xs := by
  obtain ⟨h1, h2⟩ := h
  refine ⟨h1, ?_⟩
  rcases h2 with h2 | ⟨g, cap, cur, rfl, hb, hh, r⟩
  · exact .inl h2
  · exact .inr ⟨g, cap, cur, rfl, hb, (hg.block g (lt_of_block hh) (fun e => hne g rfl e.symm)).trans hh, r⟩
theorem own_below {w w' : World} {B e s n : Nat} {v : Value} {xs : List Value} (h : w.ownsRow B e s v n xs) (hb : Below w.heap.size w w') : w'.ownsRow B e s v n xs :=
  own_kept (row := none) h ⟨hb.os, hb.tape, hb.output, hb.size, fun i hi _ => hb.block i hi⟩ (by simp)
theorem own_lt {w : World} {B e s n g : Nat} {v : Value} {xs : List Value} (h : w.ownsRow B e s v n xs) (hv : v.ownBlock = some g) : B ≤ g ∧ g < w.heap.size := by
  rcases h.2 with ⟨rfl, _⟩ | ⟨g', cap, cur, rfl, hb, hh, r⟩
  · simp [Value.ownBlock] at hv
  · obtain rfl : g' = g := by simpa [Value.ownBlock] using hv
    exact ⟨hb, lt_of_block hh⟩
theorem own_kept2 {w w' : World} {B e s n : Nat} {v : Value} {xs : List Value} (h : w.ownsRow B e s v n xs) (hk : ∀ g, B ≤ g → g < w.heap.size → v.ownBlock = some g → w'.heap[g]? = w.heap[g]?) : w'.ownsRow B e s v n xs := by
  obtain ⟨h1, h2⟩ := h
  refine ⟨h1, ?_⟩
  rcases h2 with h2 | ⟨g, cap, cur, rfl, hb, hh, r⟩
  · exact .inl h2
  · exact .inr ⟨g, cap, cur, rfl, hb, (hk g hb (lt_of_block hh) rfl).trans hh, r⟩
theorem own_lower {w : World} {B B' e s n : Nat} {v : Value} {xs : List Value} (h : w.ownsRow B e s v n xs) (hB : B' ≤ B) : w.ownsRow B' e s v n xs := by
  obtain ⟨hl, h1⟩ := h
  refine ⟨hl, ?_⟩
  rcases h1 with h1 | ⟨g, cap, cur, e, hg, r⟩
  · exact .inl h1
  · exact .inr ⟨g, cap, cur, e, Nat.le_trans hB hg, r⟩

theorem two_cell0 {w : World} {b : Nat} {x y : Value} {t : TypeId} (h : w.heap[b]? = some (.cells #[x, y] t (0, 0))) : w.cell? ⟨b, 0, none⟩ = some x := by simp [World.cell?, h]
theorem two_cell1 {w : World} {b : Nat} {x y : Value} {t : TypeId} (h : w.heap[b]? = some (.cells #[x, y] t (0, 0))) : w.cell? ⟨b, 1, none⟩ = some y := by simp [World.cell?, h]
theorem two_free {w : World} {b k : Nat} {x y : Value} {t : TypeId} (h : w.heap[b]? = some (.cells #[x, y] t (0, 0))) : w.frozen? ⟨b, k, none⟩ = false := by simp [World.frozen?, h]
theorem two_set0 {w : World} {b : Nat} {x y a : Value} {t : TypeId} (h : w.heap[b]? = some (.cells #[x, y] t (0, 0))) : (w.setCell ⟨b, 0, none⟩ a).heap[b]? = some (.cells #[a, y] t (0, 0)) := by simp [World.setCell, Array.getElem?_modify, h]
theorem two_set1 {w : World} {b : Nat} {x y a : Value} {t : TypeId} (h : w.heap[b]? = some (.cells #[x, y] t (0, 0))) : (w.setCell ⟨b, 1, none⟩ a).heap[b]? = some (.cells #[x, a] t (0, 0)) := by simp [World.setCell, Array.getElem?_modify, h]
theorem one_cell {w : World} {b : Nat} {x : Value} {t : TypeId} (h : w.heap[b]? = some (.cells #[x] t (0, 0))) : w.cell? ⟨b, 0, none⟩ = some x := by simp [World.cell?, h]
theorem one_free {w : World} {b k : Nat} {x : Value} {t : TypeId} (h : w.heap[b]? = some (.cells #[x] t (0, 0))) : w.frozen? ⟨b, k, none⟩ = false := by simp [World.frozen?, h]
theorem one_set {w : World} {b : Nat} {x a : Value} {t : TypeId} (h : w.heap[b]? = some (.cells #[x] t (0, 0))) : (w.setCell ⟨b, 0, none⟩ a).heap[b]? = some (.cells #[a] t (0, 0)) := by simp [World.setCell, Array.getElem?_modify, h]
theorem set_os (w : World) (a : Addr) (v : Value) : (w.setCell a v).os = w.os := rfl
theorem set_tape (w : World) (a : Addr) (v : Value) : (w.setCell a v).tape = w.tape := rfl
theorem set_output (w : World) (a : Addr) (v : Value) : (w.setCell a v).output = w.output := rfl
theorem set_size (w : World) (a : Addr) (v : Value) : (w.setCell a v).heap.size = w.heap.size := by simp [World.setCell]

/-- A version: its stamp, its vector. -/
abbrev Ver := Int × List Int

/-- A slice that reads as versions; of its block S holds, of those of its vectors K. -/
def VersAt (S K : Nat → Prop) (w : World) (A : Option Addr) (vs : List Ver) : Prop :=
  ∀ j (hj : j < vs.length), ∃ ad, A = some ad ∧ S ad.block ∧ ad.block < w.heap.size ∧ w.cell? (ad.add (j * 2)) = some (.int .u64 (vs[j]'hj).1) ∧
    ∃ X c, w.cell? ⟨(ad.add (j * 2)).block, (ad.add (j * 2)).off + 1, none⟩ = some (.slice X (vs[j]'hj).2.length c) ∧ (vs[j]'hj).2.length ≤ c ∧ Row K w X (i32s (vs[j]'hj).2)

theorem VersAt.kept {S K : Nat → Prop} {w w' : World} {A : Option Addr} {vs : List Ver} (h : VersAt S K w A vs) (hs' : w.heap.size ≤ w'.heap.size) (hk : ∀ g, g < w.heap.size → S g ∨ K g → w'.heap[g]? = w.heap[g]?) : VersAt S K w' A vs := fun j hj => by
  obtain ⟨ad, e, s, lt, h0, X, c, h1, hc, hr⟩ := h j hj
  have hb : w'.heap[(ad.add (j * 2)).block]? = w.heap[(ad.add (j * 2)).block]? := by rw [block_add]; exact hk _ lt (.inl s)
  exact ⟨ad, e, s, by omega, (World.cell?_of_block hb).trans h0, X, c, (World.cell?_of_block (a := ⟨(ad.add (j * 2)).block, (ad.add (j * 2)).off + 1, none⟩) hb).trans h1, hc, hr.kept hs' fun g hg s => hk g hg (.inr s)⟩
theorem VersAt.below {S K : Nat → Prop} {w w' : World} {A : Option Addr} {vs : List Ver} (h : VersAt S K w A vs) (hb : Below w.heap.size w w') : VersAt S K w' A vs := h.kept hb.size fun g hg _ => hb.block g hg
theorem VersAt.mono {S K S' K' : Nat → Prop} {w : World} {A : Option Addr} {vs : List Ver} (h : VersAt S K w A vs) (hS : ∀ g, g < w.heap.size → S g → S' g) (hK : ∀ g, g < w.heap.size → K g → K' g) : VersAt S' K' w A vs := fun j hj => by
  obtain ⟨ad, e, s, lt, h0, X, c, h1, hc, hr⟩ := h j hj
  exact ⟨ad, e, hS _ lt s, lt, h0, X, c, h1, hc, hr.mono hK⟩
theorem VersAt.nil {S K : Nat → Prop} {w : World} {A : Option Addr} : VersAt S K w A [] := fun j hj => by simp at hj

/-- The cells of versions. -/
def Cells2 (K : Nat → Prop) (w : World) (cs : List Value) (vs : List Ver) : Prop :=
  cs.length = vs.length * 2 ∧ ∀ j h, vs[j]? = some h → cs[j * 2]? = some (.int .u64 h.1) ∧ ∃ X c, cs[j * 2 + 1]? = some (.slice X h.2.length c) ∧ h.2.length ≤ c ∧ Row K w X (i32s h.2)

theorem Cells2.kept {S S' : Nat → Prop} {w w' : World} {cs : List Value} {hs : List Ver} (h : Cells2 S w cs hs) (hs' : w.heap.size ≤ w'.heap.size) (hk : ∀ g, g < w.heap.size → S g → w'.heap[g]? = w.heap[g]? ∧ S' g) : Cells2 S' w' cs hs :=
  ⟨h.1, fun j x hx => by
    obtain ⟨h0, X, c, h2, hc, hr⟩ := h.2 j x hx
    refine ⟨h0, X, c, h2, hc, ?_⟩
    have hr' : Row (fun g => S g ∧ S' g) w X (i32s x.2) := hr.mono fun g hg s => ⟨s, (hk g hg s).2⟩
    exact (hr'.kept hs' fun g hg s => (hk g hg s.1).1).mono fun g _ s => s.2⟩
theorem Cells2.mono {S S' : Nat → Prop} {w : World} {cs : List Value} {hs : List Ver} (h : Cells2 S w cs hs) (hS : ∀ g, g < w.heap.size → S g → S' g) : Cells2 S' w cs hs := h.kept (Nat.le_refl _) fun g hg s => ⟨rfl, hS g hg s⟩
theorem Cells2.nil {S : Nat → Prop} {w : World} : Cells2 S w [] [] := ⟨rfl, fun j h e => by simp at e⟩
theorem Cells2.one {S : Nat → Prop} {w : World} (h : Ver) (X : Option Addr) (c : Nat) (hc : h.2.length ≤ c) (hr : Row S w X (i32s h.2)) : Cells2 S w [.int .u64 h.1, .slice X h.2.length c] [h] :=
  ⟨rfl, fun j x hx => by
    cases j with
    | zero => simp at hx; subst hx; exact ⟨rfl, X, c, rfl, hc, hr⟩
    | succ j => simp at hx⟩
theorem Cells2.append {S : Nat → Prop} {w : World} {cs cs' : List Value} {hs hs' : List Ver} (h : Cells2 S w cs hs) (h' : Cells2 S w cs' hs') : Cells2 S w (cs ++ cs') (hs ++ hs') := by
  refine ⟨by rw [List.length_append, List.length_append, h.1, h'.1]; omega, fun j x hx => ?_⟩
  have hl := h.1
  by_cases e : j < hs.length
  · rw [List.getElem?_append_left e] at hx
    rw [List.getElem?_append_left (by omega), List.getElem?_append_left (by omega)]
    exact h.2 j x hx
  · rw [List.getElem?_append_right (by omega)] at hx
    rw [List.getElem?_append_right (by omega), List.getElem?_append_right (by omega), hl, show j * 2 - hs.length * 2 = (j - hs.length) * 2 by omega, show j * 2 + 1 - hs.length * 2 = (j - hs.length) * 2 + 1 by omega]
    exact h'.2 _ x hx
theorem Cells2.take {S : Nat → Prop} {w : World} {cs : List Value} {hs : List Ver} (h : Cells2 S w cs hs) (k : Nat) (hk : k ≤ hs.length) : Cells2 S w (cs.take (k * 2)) (hs.take k) := by
  refine ⟨by rw [List.length_take, List.length_take, h.1]; omega, fun j x hx => ?_⟩
  have hj : j < k := by
    have := (List.getElem?_eq_some_iff.1 hx).1
    rw [List.length_take] at this
    omega
  rw [List.getElem?_take_of_lt hj] at hx
  rw [List.getElem?_take_of_lt (by omega), List.getElem?_take_of_lt (by omega)]
  exact h.2 j x hx
theorem Cells2.drop {S : Nat → Prop} {w : World} {cs : List Value} {hs : List Ver} (h : Cells2 S w cs hs) (k : Nat) : Cells2 S w (cs.drop (k * 2)) (hs.drop k) := by
  refine ⟨by rw [List.length_drop, List.length_drop, h.1]; omega, fun j x hx => ?_⟩
  rw [List.getElem?_drop] at hx
  rw [List.getElem?_drop, List.getElem?_drop, show k * 2 + j * 2 = (k + j) * 2 by omega, show k * 2 + (j * 2 + 1) = (k + j) * 2 + 1 by omega]
  exact h.2 _ x hx
theorem Cells2.oneCell {S : Nat → Prop} {w : World} {cs : List Value} {hs : List Ver} (h : Cells2 S w cs hs) : ∀ u ∈ cs, u.oneCell' = true := by
  intro u hu
  obtain ⟨i, hi, rfl⟩ := List.getElem_of_mem hu
  have hl := h.1
  obtain ⟨h0, X, c, h2, _⟩ := h.2 (i / 2) (hs[i / 2]'(by omega)) (by simp)
  have : i = i / 2 * 2 ∨ i = i / 2 * 2 + 1 := by omega
  rcases this with e | e
  · rw [← e, List.getElem?_eq_getElem hi] at h0
    injection h0 with h0
    rw [h0]; rfl
  · rw [← e, List.getElem?_eq_getElem hi] at h2
    injection h2 with h2
    rw [h2]; rfl

theorem cells_vers {w : World} {B n g t : Nat} {v : Value} {cs : List Value} (h1 : w.ownsRow B t 2 v n cs) (hv : v.ownBlock = some g) : ∀ j u, cs[j]? = some u → w.cell? ((⟨g, 0, none⟩ : Addr).add j) = some u := h1.cells hv
theorem add2 (g j i : Nat) : (⟨((⟨g, 0, none⟩ : Addr).add j).block, ((⟨g, 0, none⟩ : Addr).add j).off + i, none⟩ : Addr) = (⟨g, 0, none⟩ : Addr).add (j + i) := by
  rw [Addr.add_lit, Addr.add_lit]; simp [Nat.add_assoc]

theorem Cells2.versAt {S T K : Nat → Prop} {w : World} {B n t : Nat} {v : Value} {cs : List Value} {hs : List Ver} (h1 : w.ownsRow B t 2 v n cs) (h2 : Cells2 S w cs hs) (hn : n = hs.length) (hS : ∀ g, g < w.heap.size → S g → K g) (hT : ∀ g, B ≤ g → some g = v.ownBlock → T g) :
    ∃ A c, v = .slice A hs.length c ∧ hs.length ≤ c ∧ VersAt T K w A hs := by
  subst hn
  rcases h1.2 with ⟨rfl, e⟩ | ⟨g, cap, cur, rfl, hg, hh, hnc, r⟩
  · have : hs = [] := List.eq_nil_of_length_eq_zero e
    subst this
    exact ⟨none, 0, rfl, Nat.le_refl _, fun j hj => by simp at hj⟩
  · refine ⟨_, cap, rfl, hnc, fun j hj => ?_⟩
    obtain ⟨c0, X, c, c2, hc, hr⟩ := h2.2 j hs[j] (by simp)
    refine ⟨_, rfl, hT g hg rfl, lt_of_block hh, cells_vers h1 rfl _ _ c0, X, c, ?_, hc, hr.mono hS⟩
    rw [add2]; exact cells_vers h1 rfl _ _ c2
theorem add_off (a : Addr) (n : Nat) : (⟨(a.add n).block, (a.add n).off + 1, none⟩ : Addr) = a.add (n + 1) := by
  unfold Addr.add
  by_cases h : n = 0
  · simp [h]
  · simp [h]; omega
/-- what a slice of versions holds, as cells -/
theorem VersAt.cells {S K : Nat → Prop} {w : World} {A : Option Addr} {vs : List Ver} (h : VersAt S K w A vs) : ∃ cs, Cells2 K w cs vs ∧ Row S w A cs := by
  have hex : ∀ j, ∃ q : Option Addr × Nat, ∀ (hj : j < vs.length), ∃ ad, A = some ad ∧ S ad.block ∧ ad.block < w.heap.size ∧ w.cell? (ad.add (j * 2)) = some (.int .u64 (vs[j]'hj).1) ∧ w.cell? ⟨(ad.add (j * 2)).block, (ad.add (j * 2)).off + 1, none⟩ = some (.slice q.1 (vs[j]'hj).2.length q.2) ∧ (vs[j]'hj).2.length ≤ q.2 ∧ Row K w q.1 (i32s (vs[j]'hj).2) := fun j => by
    by_cases hj : j < vs.length
    · obtain ⟨ad, e, s, lt, h0, X, c, h1, hc, hr⟩ := h j hj
      exact ⟨(X, c), fun _ => ⟨ad, e, s, lt, h0, h1, hc, hr⟩⟩
    · exact ⟨(none, 0), fun h => absurd h hj⟩
  obtain ⟨f, hf⟩ := Classical.axiomOfChoice hex
  have hfl : ∀ (L : List Nat), ((L.map fun j => [Value.int .u64 (vs.getD j (0, [])).1, .slice (f j).1 (vs.getD j (0, [])).2.length (f j).2]).flatten).length = L.length * 2 := fun L => by
    induction L with
    | nil => rfl
    | cons x L ih => simp only [List.map_cons, List.flatten_cons, List.length_append, ih, List.length_cons, List.length_nil]; omega
  have hat : ∀ (n s j : Nat), j < n → (((List.range' s n).map fun j => [Value.int .u64 (vs.getD j (0, [])).1, .slice (f j).1 (vs.getD j (0, [])).2.length (f j).2]).flatten)[j * 2]? = some (.int .u64 (vs.getD (s + j) (0, [])).1) ∧ (((List.range' s n).map fun j => [Value.int .u64 (vs.getD j (0, [])).1, .slice (f j).1 (vs.getD j (0, [])).2.length (f j).2]).flatten)[j * 2 + 1]? = some (.slice (f (s + j)).1 (vs.getD (s + j) (0, [])).2.length (f (s + j)).2) := fun n => by
    induction n with
    | zero => intro s j hj; omega
    | succ n ih =>
      intro s j hj
      cases j with
      | zero => simp [List.range'_succ]
      | succ j =>
        have := ih (s + 1) j (by omega)
        rw [List.range'_succ, List.map_cons, List.flatten_cons, show (j + 1) * 2 = j * 2 + 2 by omega, show j * 2 + 2 + 1 = (j * 2 + 1) + 2 by omega]
        simp only [List.cons_append, List.nil_append, List.getElem?_cons_succ, show ∀ a : Nat, a + 2 = a + 1 + 1 from fun _ => rfl]
        rw [show s + (j + 1) = s + 1 + j by omega]
        exact this
  refine ⟨((List.range' 0 vs.length).map fun j => [Value.int .u64 (vs.getD j (0, [])).1, .slice (f j).1 (vs.getD j (0, [])).2.length (f j).2]).flatten, ⟨by rw [hfl]; simp, fun j x hx => ?_⟩, fun i hi => ?_⟩
  · have hj := (List.getElem?_eq_some_iff.1 hx).1
    obtain ⟨a1, a2⟩ := hat vs.length 0 j hj
    obtain ⟨ad, e, s, lt, h0, h1, hc, hr⟩ := hf j hj
    have hg : vs.getD j (0, []) = x := by rw [List.getD_eq_getElem?_getD, hx]; rfl
    have hx' : vs[j] = x := (List.getElem?_eq_some_iff.1 hx).2
    rw [Nat.zero_add, hg] at a1 a2
    rw [hx'] at hc hr
    exact ⟨a1, (f j).1, (f j).2, a2, hc, hr⟩
  · rw [hfl, List.length_range'] at hi
    have hj : i / 2 < vs.length := by omega
    obtain ⟨a1, a2⟩ := hat vs.length 0 (i / 2) hj
    obtain ⟨ad, e, s, lt, h0, h1, hc, hr⟩ := hf (i / 2) hj
    have hg : vs.getD (i / 2) (0, []) = vs[i / 2] := by rw [List.getD_eq_getElem?_getD, List.getElem?_eq_getElem hj]; rfl
    rw [Nat.zero_add, hg] at a1 a2
    refine ⟨ad, e, s, lt, ?_⟩
    have : i = i / 2 * 2 ∨ i = i / 2 * 2 + 1 := by omega
    rcases this with e | e
    · rw [e]
      rw [a1]; exact h0
    · rw [e]
      rw [a2, ← h1, add_off]

/-- A row of versions of the call's own, in cells of type t; of its vectors' blocks K holds. -/
def Own2 (t : TypeId) (K : Nat → Prop) (w : World) (B : Nat) (v : Value) (vs : List Ver) : Prop :=
  ∃ cs, w.ownsRow B t 2 v vs.length cs ∧ Cells2 (fun g => K g ∧ some g ≠ v.ownBlock) w cs vs

theorem Own2.start (t : TypeId) (K : Nat → Prop) (w : World) (B : Nat) : Own2 t K w B (.slice none 0 0) [] := ⟨[], ⟨by simp, .inl ⟨rfl, rfl⟩⟩, Cells2.nil⟩
theorem Own2.low {t : TypeId} {K : Nat → Prop} {w : World} {B g : Nat} {v : Value} {hs : List Ver} (h : Own2 t K w B v hs) (hv : v.ownBlock = some g) : B ≤ g ∧ g < w.heap.size := by
  obtain ⟨cs, h1, _⟩ := h
  exact own_lt h1 hv
theorem Own2.kept {t : TypeId} {K K' : Nat → Prop} {w w' : World} {B : Nat} {v : Value} {hs : List Ver} (h : Own2 t K w B v hs) (hs' : w.heap.size ≤ w'.heap.size) (hk : ∀ g, g < w.heap.size → some g = v.ownBlock → w'.heap[g]? = w.heap[g]?) (hK : ∀ g, g < w.heap.size → K g → w'.heap[g]? = w.heap[g]? ∧ K' g) : Own2 t K' w' B v hs := by
  obtain ⟨cs, h1, h2⟩ := h
  exact ⟨cs, own_kept2 h1 fun g _ hg e => hk g hg e.symm, h2.kept hs' fun g hg s => ⟨(hK g hg s.1).1, (hK g hg s.1).2, s.2⟩⟩
theorem Own2.mono {t : TypeId} {K K' : Nat → Prop} {w : World} {B : Nat} {v : Value} {hs : List Ver} (h : Own2 t K w B v hs) (hK : ∀ g, g < w.heap.size → K g → K' g) : Own2 t K' w B v hs := h.kept (Nat.le_refl _) (fun _ _ _ => rfl) fun g hg s => ⟨rfl, hK g hg s⟩
theorem Own2.below {t : TypeId} {K : Nat → Prop} {w w' : World} {B : Nat} {v : Value} {hs : List Ver} (h : Own2 t K w B v hs) (hb : Below w.heap.size w w') : Own2 t K w' B v hs := h.kept hb.size (fun g hg _ => hb.block g hg) fun g hg s => ⟨hb.block g hg, s⟩
theorem Own2.alloc {t : TypeId} {K : Nat → Prop} {w : World} {B : Nat} {v : Value} {hs : List Ver} (h : Own2 t K w B v hs) (o : Obj) : Own2 t K (w.alloc o) B v hs := h.below ((Below.refl _ _).alloc (Nat.le_refl _) _)
theorem Own2.lower {t : TypeId} {K : Nat → Prop} {w : World} {B B' : Nat} {v : Value} {hs : List Ver} (h : Own2 t K w B v hs) (hB : B' ≤ B) : Own2 t K w B' v hs := by
  obtain ⟨cs, h1, h2⟩ := h
  exact ⟨cs, own_lower h1 hB, h2⟩
theorem Own2.vers {t : TypeId} {K : Nat → Prop} {w : World} {B : Nat} {v : Value} {hs : List Ver} (h : Own2 t K w B v hs) : ∃ A c, v = .slice A hs.length c ∧ hs.length ≤ c ∧ VersAt (fun g => B ≤ g ∧ some g = v.ownBlock) (fun g => K g ∧ some g ≠ v.ownBlock) w A hs := by
  obtain ⟨cs, h1, h2⟩ := h
  exact Cells2.versAt h1 h2 rfl (fun g _ s => s) (fun g s e => ⟨s, e⟩)

/-- behind an append of versions -/
theorem Own2.step {t : TypeId} {K : Nat → Prop} {w wm w' : World} {B n m : Nat} {v v' : Value} {hs hs' : List Ver} {cs cs' : List Value} (hb : Below w.heap.size w wm)
    (h2 : Cells2 (fun g => K g ∧ some g ≠ v.ownBlock) w cs hs) (h3 : Cells2 (fun g => K g ∧ some g ≠ v.ownBlock) w cs' hs')
    (hown : w'.ownsRow B t 2 v' n (cs ++ cs')) (hn : n = (hs ++ hs').length) (hgrow : wm.grownBy w' v.ownBlock) (hat : v'.ownBlock = v.ownBlock ∨ v'.ownBlock = some m) (hm : w.heap.size ≤ m) :
    Own2 t K w' B v' (hs ++ hs') := by
  subst hn
  refine ⟨_, hown, (h2.append h3).kept (Nat.le_trans hb.size hgrow.size) fun k hk s => ⟨?_, s.1, ?_⟩⟩
  · rw [hgrow.block k (Nat.lt_of_lt_of_le hk hb.size) s.2, hb.block k hk]
  · rcases hat with e | e
    · rw [e]; exact s.2
    · rw [e]; intro e'; injection e' with e'; omega

theorem Try.info41 : (Try.prog.info? 41).map (fun i => (i.zero, i.size, i.bytes)) = some (some (.agg #[.int .u64 0, .slice none 0 0]), 2, 32) := by kernel_rfl
theorem Try.info44 : (Try.prog.info? 44).map (fun i => (i.zero, i.size, i.bytes)) = some (some (.agg #[.int .u64 0, .slice none 0 0]), 2, 32) := by kernel_rfl
theorem Try.info29 : (Try.prog.info? 29).map (fun i => (i.zero, i.size, i.bytes)) = some (some (.int .u64 0), 1, 8) := by kernel_rfl

end Go.Proofs.Ytphcakhhjjdpiaa
