/-
  Both disks beside one another in memory, and what a law has of its own beside them.
-/
import Derived.Test.YtchedflfinkppaaRef3
namespace Go.Proofs.Ytchedflfinkppaa
open Go.RowKit Go.Maps
set_option linter.unusedSimpArgs false
set_option linter.unusedVariables false

theorem own_keep {w w' : World} {B e s n : Nat} {v : Value} {xs : List Value} (h : w.ownsRow B e s v n xs) (hk : ∀ g, v.ownBlock = some g → w'.heap[g]? = w.heap[g]?) : w'.ownsRow B e s v n xs := by
  refine ⟨h.1, ?_⟩
  rcases h.2 with h0 | ⟨g, cap, cur, hv, hb, hh, r⟩
  · exact .inl h0
  · exact .inr ⟨g, cap, cur, hv, hb, (hk g (by rw [hv]; rfl)).trans hh, r⟩
section
variable {w w' w0 : World} {b mb n B q x lo : Nat} {D : DataW Unit} {p p' pr pr' : Pw} {room : Nat} {E E' : List Ent} {v v' : Value} {L L' : List RF} {K K' P P' : Nat → Prop}
theorem Dsk.keep (h : Dsk w B b mb n D p room E) (hk : ∀ g, Of b mb E g → w'.heap[g]? = w.heap[g]?) : Dsk w' B b mb n D p room E :=
  { h with
    blk := (hk b (.inl rfl)).trans h.blk
    map := by
      obtain ⟨es, clock, hb, Ft, hs, hD⟩ := h.map
      exact ⟨es, clock, (hk mb (.inr (.inl rfl))).trans hb, Ft, hs, hD⟩
    file := fun e he => by
      have hf := h.file e he
      exact ⟨(hk e.blk (.inr (.inr ⟨e, he, .inl rfl⟩))).trans hf.blk, own_keep hf.row fun g hg => hk g (.inr (.inr ⟨e, he, .inr hg⟩)), hf.le⟩ }
theorem Lv.lt (h : Lv w0 w b mb p room E) {g : Nat} (hg : Of b mb E g) : g < w.heap.size := by
  obtain ⟨D, hD⟩ := h.dsk
  exact hD.of_lt hg
theorem RD.move (h : RD w ⟨lo, K⟩ x p room v L) (hs : w.heap.size ≤ w'.heap.size) (hk : ∀ g, g < w.heap.size → K g → w'.heap[g]? = w.heap[g]? ∧ K' g) (hn : ∀ g, w'.heap.size ≤ g → K' g) : RD w' ⟨lo, K'⟩ x p room v L := by
  have hxl := lt_of_block h.blk
  obtain ⟨cs, h1, h2⟩ := h.row
  refine ⟨(hk x hxl h.kx).1.trans h.blk, ⟨cs, own_keep h1 fun g hg => (hk g (own_lt h1 hg).2 (h.kv g hg)).1, h2.kept hs fun g hg s => ⟨(hk g hg s.1).1, (hk g hg s.1).2, s.2⟩⟩, h.off, h.low, (hk x hxl h.kx).2, fun g hg => (hk g (own_lt h1 hg).2 (h.kv g hg)).2, hn⟩

/-- Both disks; P: what is the law's own. -/
structure Duo (w0 w : World) (P : Nat → Prop) (b mb x : Nat) (p pr : Pw) (room : Nat) (E : List Ent) (v : Value) (L : List RF) : Prop where
  lv : Lv w0 w b mb p room E
  rd : ∃ K, RD w ⟨w0.heap.size, K⟩ x pr room v L ∧ ∀ g, K g → ¬ Of b mb E g ∧ ¬ P g
  np : ∀ g, P g → g < w.heap.size ∧ ¬ Of b mb E g ∧ w0.heap.size ≤ g
theorem Duo.bel (h : Duo w0 w P b mb x p pr room E v L) : Below w0.heap.size w0 w := h.lv.bel
theorem Duo.below (h : Duo w0 w P b mb x p pr room E v L) (hb : Below w.heap.size w w') : Duo w0 w' P b mb x p pr room E v L := by
  obtain ⟨K, h1, h2⟩ := h.rd
  exact ⟨h.lv.below hb, ⟨K, h1.below hb, h2⟩, fun g hg => ⟨Nat.lt_of_lt_of_le (h.np g hg).1 hb.size, (h.np g hg).2⟩⟩
/-- nothing of theirs is turned -/
theorem Duo.law (h : Duo w0 w P b mb x p pr room E v L) (ho : w'.os = w.os) (ht : w'.tape = w.tape) (hu : w'.output = w.output) (hs : w.heap.size ≤ w'.heap.size) (hk : ∀ g, g < w.heap.size → ¬ P g → w'.heap[g]? = w.heap[g]?) : Duo w0 w' P b mb x p pr room E v L := by
  obtain ⟨K, h1, h2⟩ := h.rd
  have hsz := h.lv.bel.size
  refine ⟨⟨?_, ⟨ho.trans h.lv.bel.os, ht.trans h.lv.bel.tape, hu.trans h.lv.bel.output, Nat.le_trans hsz hs, fun g hg => (hk g (by omega) fun hp => by have := (h.np g hp).2.2; omega).trans (h.lv.bel.block g hg)⟩, h.lv.own, h.lv.len, h.lv.names⟩, ⟨K, h1.move hs (fun g hg hK => ⟨hk g hg (h2 g hK).2, hK⟩) fun g hg => h1.new g (Nat.le_trans hs hg), h2⟩, fun g hg => ⟨Nat.lt_of_lt_of_le (h.np g hg).1 hs, (h.np g hg).2⟩⟩
  obtain ⟨D, hD⟩ := h.lv.dsk
  exact ⟨D, hD.keep fun g hg => hk g (h.lv.lt hg) fun hp => (h.np g hp).2.1 hg⟩
/-- what is new since w is the law's own -/
theorem Duo.more (h : Duo w0 w P b mb x p pr room E v L) (hb : Below w.heap.size w w') : Duo w0 w' (fun g => P g ∨ (w.heap.size ≤ g ∧ g < w'.heap.size)) b mb x p pr room E v L := by
  obtain ⟨K, h1, h2⟩ := h.rd
  have hsz := h.lv.bel.size
  have hs := hb.size
  refine ⟨h.lv.below hb, ⟨fun g => (g < w.heap.size ∧ K g) ∨ w'.heap.size ≤ g, h1.move hs (fun g hg hK => ⟨hb.block g hg, .inl ⟨hg, hK⟩⟩) fun g hg => .inr hg, fun g hg => ?_⟩, fun g hg => ?_⟩
  · rcases hg with ⟨h3, h4⟩ | h3
    · refine ⟨(h2 g h4).1, fun hp => ?_⟩
      rcases hp with hp | hp
      · exact (h2 g h4).2 hp
      · omega
    · refine ⟨fun ho => by have := h.lv.lt ho; omega, fun hp => ?_⟩
      rcases hp with hp | hp
      · have := (h.np g hp).1; omega
      · omega
  · rcases hg with hp | hp
    · exact ⟨Nat.lt_of_lt_of_le (h.np g hp).1 hs, (h.np g hp).2⟩
    · exact ⟨hp.2, fun ho => by have := h.lv.lt ho; omega, by omega⟩
theorem Duo.less (h : Duo w0 w P b mb x p pr room E v L) (hP : ∀ g, P' g → P g) : Duo w0 w P' b mb x p pr room E v L := by
  obtain ⟨K, h1, h2⟩ := h.rd
  exact ⟨h.lv, ⟨K, h1, fun g hg => ⟨(h2 g hg).1, fun hp => (h2 g hg).2 (hP g hp)⟩⟩, fun g hg => h.np g (hP g hg)⟩
/-- a change of the program's disk -/
theorem Duo.disk {A' : List AFile} (h : Duo w0 w P b mb x p pr room E v L) (hl : LvTo w0 w w' b mb p' room E A') : ∃ E', abs E' = A' ∧ Duo w0 w' P b mb x p' pr room E' v L ∧ DskC w w' b mb E E' := by
  obtain ⟨E', h1, h2, h3⟩ := hl
  obtain ⟨K, k1, k2⟩ := h.rd
  refine ⟨E', h3, ⟨h1, ⟨fun g => (g < w.heap.size ∧ K g) ∨ w'.heap.size ≤ g, k1.move h2.size (fun g hg hK => ⟨h2.block g hg (k2 g hK).1, .inl ⟨hg, hK⟩⟩) fun g hg => .inr hg, fun g hg => ?_⟩, fun g hg => ?_⟩, h2⟩
  · rcases hg with ⟨h4, h5⟩ | h4
    · exact ⟨(h2.notOf (k2 g h5).1 h4).1, (k2 g h5).2⟩
    · refine ⟨fun ho => by have := h1.lt ho; omega, fun hp => ?_⟩
      have := (h.np g hp).1
      have := h2.size
      omega
  · obtain ⟨h4, h5, h6⟩ := h.np g hg
    exact ⟨Nat.lt_of_lt_of_le h4 h2.size, (h2.notOf h5 h4).1, h6⟩
/-- a change of the document's -/
theorem Duo.ref (h : Duo w0 w P b mb x p pr room E v L) : ∃ B : BK, RD w B x pr room v L ∧ (∀ g, P g → g ≠ x ∧ some g ≠ v.ownBlock) ∧ ∀ w' pr' v' L', RD w' B x pr' room v' L' → AddC x w w' v v' → Duo w0 w' P b mb x p pr' room E v' L' := by
  obtain ⟨K, k1, k2⟩ := h.rd
  have hsz := h.lv.bel.size
  have hxo : ∀ g, K g → ¬ Of b mb E g := fun g hg => (k2 g hg).1
  refine ⟨⟨w0.heap.size, K⟩, k1, fun g hp => ⟨fun e => (k2 x k1.kx).2 (e ▸ hp), fun e => (k2 g (k1.kv g e.symm)).2 hp⟩, fun w' pr' v' L' r c => ?_⟩
  have hlow := k1.low
  obtain ⟨cs, ho, _⟩ := k1.row
  have hown : ∀ g, v.ownBlock = some g → w0.heap.size ≤ g := fun g hg => (own_lt ho hg).1
  refine ⟨⟨?_, ⟨c.os.trans h.lv.bel.os, c.tape.trans h.lv.bel.tape, c.output.trans h.lv.bel.output, Nat.le_trans hsz c.size, fun g hg => (c.block g (by omega) (fun e => by have hlow' : w0.heap.size ≤ x := hlow; omega) fun e => by have := hown g e.symm; omega).trans (h.lv.bel.block g hg)⟩, h.lv.own, h.lv.len, h.lv.names⟩, ⟨K, r, k2⟩, fun g hg => ⟨Nat.lt_of_lt_of_le (h.np g hg).1 c.size, (h.np g hg).2⟩⟩
  obtain ⟨D, hD⟩ := h.lv.dsk
  exact ⟨D, hD.keep fun g hg => c.block g (h.lv.lt hg) (fun e => hxo x k1.kx (e ▸ hg)) fun e => hxo g (k1.kv g e.symm) hg⟩
end

end Go.Proofs.Ytchedflfinkppaa
