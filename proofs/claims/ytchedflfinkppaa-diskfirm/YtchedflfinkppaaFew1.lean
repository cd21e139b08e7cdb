/-
  Behind few: a call in its cell; what a block that is no disk's leaves of a disk.
-/
import Derived.Test.YtchedflfinkppaaOpen
namespace Go.Proofs.Ytchedflfinkppaa
open Go.RowKit Go.Maps

theorem Only.alloc {q : Nat} {w w' : World} (h : Only q w w') (o : Obj) : Only q w (w'.alloc o) :=
  h.trans (Only.of_below ((Below.refl _ _).alloc (Nat.le_refl _) o))
theorem sev_set {w : World} {q : Nat} {x0 x1 x2 x3 x4 x5 x6 v0 v1 v2 v3 v4 v5 v6 : Value} {t : TypeId} (h : w.heap[q]? = some (.cells [x0, x1, x2, x3, x4, x5, x6].toArray t (0, 0))) :
    Only q w (((((((w.setCell ⟨q, 0, none⟩ v0).setCell ⟨q, 1, none⟩ v1).setCell ⟨q, 2, none⟩ v2).setCell ⟨q, 3, none⟩ v3).setCell ⟨q, 4, none⟩ v4).setCell ⟨q, 5, none⟩ v5).setCell ⟨q, 6, none⟩ v6) ∧
    (((((((w.setCell ⟨q, 0, none⟩ v0).setCell ⟨q, 1, none⟩ v1).setCell ⟨q, 2, none⟩ v2).setCell ⟨q, 3, none⟩ v3).setCell ⟨q, 4, none⟩ v4).setCell ⟨q, 5, none⟩ v5).setCell ⟨q, 6, none⟩ v6).heap[q]? = some (.cells [v0, v1, v2, v3, v4, v5, v6].toArray t (0, 0)) :=
  ⟨(((((((Only.refl q w).set _ _).set _ _).set _ _).set _ _).set _ _).set _ _).set _ _, sv_set (sv_set (sv_set (sv_set (sv_set (sv_set (sv_set h))))))⟩

section
variable {w w' w0 : World} {B b mb n q : Nat} {D : DataW Unit} {p : Pw} {room : Nat} {E : List Ent}
theorem Dsk.off (h : Dsk w B b mb n D p room E) (ho : Only q w w') (hq : ¬ Of b mb E q) : Dsk w' B b mb n D p room E :=
  { h with
    blk := (ho.block b (lt_of_block h.blk) fun e => hq (.inl e.symm)).trans h.blk
    map := h.map.kept ho.grown (by simpa using fun e => hq (.inr (.inl e.symm)))
    file := fun e he => (h.file e he).kept ho.grown (by simpa using fun e' => hq (.inr (.inr ⟨e, he, .inl e'.symm⟩))) (.inr fun e' => hq (.inr (.inr ⟨e, he, .inr e'⟩))) }
theorem Lv.off (h : Lv w0 w b mb p room E) (ho : Only q w w') (hq : ¬ Of b mb E q) (hw : w0.heap.size ≤ q) : Lv w0 w' b mb p room E := by
  obtain ⟨D, hD⟩ := h.dsk
  have hs := h.bel.size
  exact ⟨⟨D, hD.off ho hq⟩, ⟨ho.os.trans h.bel.os, ho.tape.trans h.bel.tape, ho.output.trans h.bel.output, Nat.le_trans hs ho.size, fun g hg => (ho.block g (by omega) (by omega)).trans (h.bel.block g hg)⟩, h.own, h.len, h.names⟩
theorem OpAt.off {S : Nat → Prop} {o : Opn} {A1 A2 A3 : Option Addr} {c1 c2 c3 : Nat} (h : OpAt S w o A1 c1 A2 c2 A3 c3) (ho : Only q w w') (hq : ¬ S q) : OpAt S w' o A1 c1 A2 c2 A3 c3 :=
  have k : ∀ g, g < w.heap.size → S g → w'.heap[g]? = w.heap[g]? := fun g hg s => ho.block g hg fun e => hq (e ▸ s)
  ⟨h.k1, h.k2, h.k3, h.ns.kept ho.size k, h.ps.kept ho.size k, h.ks.kept ho.size k⟩
/-- what a disk's change leaves of a call -/
theorem OpAt.change {E' : List Ent} {o : Opn} {A1 A2 A3 : Option Addr} {c1 c2 c3 : Nat} (h : OpAt (fun g => ¬ Of b mb E g) w o A1 c1 A2 c2 A3 c3) (hc : DskC w w' b mb E E') : OpAt (fun g => ¬ Of b mb E' g) w' o A1 c1 A2 c2 A3 c3 :=
  ⟨h.k1, h.k2, h.k3, h.ns.off hc, TxtAt.mono (TxtAt.kept (S := fun g => ¬ Of b mb E g ∧ g < w.heap.size) (h.ps.mono fun g h1 h2 => ⟨h2, h1⟩) hc.size fun g hg s => hc.block g hg s.1) (fun g _ s ho => by
    rcases hc.new g ho with h1 | h1
    · exact s.1 h1
    · have := s.2
      omega), h.ks.off hc⟩
theorem DskC.notOf {E' : List Ent} (hc : DskC w w' b mb E E') (hq : ¬ Of b mb E q) (hl : q < w.heap.size) : ¬ Of b mb E' q ∧ w'.heap[q]? = w.heap[q]? := ⟨fun ho => by
  rcases hc.new q ho with h1 | h1
  · exact hq h1
  · omega, hc.block q hl hq⟩

/-- behind few: the call in its cell, a disk beside it -/
structure FewS (w0 w : World) (b mb q : Nat) (p : Pw) (room : Nat) (E : List Ent) (o : Opn) (A1 : Option Addr) (c1 : Nat) (A2 : Option Addr) (c2 : Nat) (A3 : Option Addr) (c3 : Nat) : Prop where
  lv : Lv w0 w b mb p room E
  cell : w.heap[q]? = some (.cells [.int .u8 o.d, .string o.nm, .string o.to, .slice A1 o.ns.length c1, .slice A2 o.ps.length c2, .int .i64 o.n, .slice A3 o.ks.length c3].toArray 34 (0, 0))
  at' : OpAt (fun g => ¬ Of b mb E g) w o A1 c1 A2 c2 A3 c3
  notQ : ¬ Of b mb E q
theorem FewS.below {o : Opn} {A1 A2 A3 : Option Addr} {c1 c2 c3 : Nat} (h : FewS w0 w b mb q p room E o A1 c1 A2 c2 A3 c3) (hb : Below w.heap.size w w') : FewS w0 w' b mb q p room E o A1 c1 A2 c2 A3 c3 :=
  ⟨h.lv.below hb, (hb.block q (lt_of_block h.cell)).trans h.cell, h.at'.below hb, h.notQ⟩
theorem FewS.change {p' : Pw} {A' : List AFile} {o : Opn} {A1 A2 A3 : Option Addr} {c1 c2 c3 : Nat} (h : FewS w0 w b mb q p room E o A1 c1 A2 c2 A3 c3) (hl : LvTo w0 w w' b mb p' room E A') : ∃ E', abs E' = A' ∧ FewS w0 w' b mb q p' room E' o A1 c1 A2 c2 A3 c3 ∧ DskC w w' b mb E E' := by
  obtain ⟨E', h1, h2, h3⟩ := hl
  obtain ⟨k1, k2⟩ := h2.notOf h.notQ (lt_of_block h.cell)
  exact ⟨E', h3, ⟨h1, k2.trans h.cell, h.at'.change h2, k1⟩, h2⟩
theorem FewS.cells {o : Opn} {A1 A2 A3 : Option Addr} {c1 c2 c3 : Nat} (h : FewS w0 w b mb q p room E o A1 c1 A2 c2 A3 c3) :
    w.cell? ⟨q, 0, none⟩ = some (.int .u8 o.d) ∧ w.cell? ⟨q, 1, none⟩ = some (.string o.nm) ∧ w.cell? ⟨q, 2, none⟩ = some (.string o.to) ∧ w.cell? ⟨q, 3, none⟩ = some (.slice A1 o.ns.length c1) ∧ w.cell? ⟨q, 4, none⟩ = some (.slice A2 o.ps.length c2) ∧ w.cell? ⟨q, 5, none⟩ = some (.int .i64 o.n) ∧ w.cell? ⟨q, 6, none⟩ = some (.slice A3 o.ks.length c3) :=
  ⟨sv_cell h.cell 0, sv_cell h.cell 1, sv_cell h.cell 2, sv_cell h.cell 3, sv_cell h.cell 4, sv_cell h.cell 5, sv_cell h.cell 6⟩
/-- how it comes about: wa, a cell with the call that came in; w3, behind few; w4, what few answered laid into the cell -/
theorem FewS.mk' {wa w3 w4 : World} {o : Opn} {x0 x1 x2 x3 x4 x5 x6 : Value} {A1 A2 A3 : Option Addr} {c1 c2 c3 : Nat} (hL : Lv w0 wa b mb p room E) (hq : w0.heap.size ≤ q) (hqa : q < wa.heap.size) (hoq : ¬ Of b mb E q) (hb3 : Below wa.heap.size wa w3)
    (hT3 : w3.heap[q]? = some (.cells [x0, x1, x2, x3, x4, x5, x6].toArray 34 (0, 0))) (hat : OpAt (fun g => wa.heap.size ≤ g) w3 o A1 c1 A2 c2 A3 c3)
    (h4 : w4 = ((((((w3.setCell ⟨q, 0, none⟩ (.int .u8 o.d)).setCell ⟨q, 1, none⟩ (.string o.nm)).setCell ⟨q, 2, none⟩ (.string o.to)).setCell ⟨q, 3, none⟩ (.slice A1 o.ns.length c1)).setCell ⟨q, 4, none⟩ (.slice A2 o.ps.length c2)).setCell ⟨q, 5, none⟩ (.int .i64 o.n)).setCell ⟨q, 6, none⟩ (.slice A3 o.ks.length c3)) :
    FewS w0 w4 b mb q p room E o A1 c1 A2 c2 A3 c3 ∧ Only q w3 w4 := by
  obtain ⟨k1, k2⟩ := sev_set (v0 := .int .u8 o.d) (v1 := .string o.nm) (v2 := .string o.to) (v3 := .slice A1 o.ns.length c1) (v4 := .slice A2 o.ps.length c2) (v5 := .int .i64 o.n) (v6 := .slice A3 o.ks.length c3) hT3
  rw [← h4] at k1 k2
  exact ⟨⟨(hL.below hb3).off k1 hoq hq, k2, (hat.off k1 (by omega)).mono fun g _ s => hL.notOf s, hoq⟩, k1⟩
end

end Go.Proofs.Ytchedflfinkppaa
