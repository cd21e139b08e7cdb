/-
  Vectors that are written over; where BestPlays stands behind so many lists.
-/
import Derived.Test.YtfhnhfppamnjhaaPlays0
import Derived.Test.YtfhnhfppamnjhaaPutK
import Derived.Test.YtfhnhfppamnjhaaMerges0
namespace Go.Proofs.Ytfhnhfppamnjhaa
open Go.RowKit Go.Maps

/-- A row of hits whose vectors may be written to; all of it lies in blocks from lo up to hi. -/
def Flip (lo hi : Nat) (w : World) (A : Option Addr) (hs : List Hit) : Prop :=
  ∀ k (hk : k < hs.length), ∃ g X d, A = some ⟨g, 0, none⟩ ∧ lo ≤ g ∧ g < hi ∧ w.cell? ⟨g, k * 3 + 2, none⟩ = some (.slice X (hs[k]'hk).2.2.length d) ∧
    ∀ j, j < (hs[k]'hk).2.2.length → ∃ q n, X = some ⟨q, 0, none⟩ ∧ lo ≤ q ∧ q < hi ∧ q ≠ g ∧ w.cell? ⟨q, j, none⟩ = some (.int .i32 n) ∧ w.frozen? ⟨q, j, none⟩ = false
theorem OwnF.flip {w : World} {B n c : Nat} {A : Option Addr} {hs : List Hit} (h : OwnF w B (.slice A n c) hs) : Flip B w.heap.size w A hs := fun k hk => by
  obtain ⟨cs, hr, hc, hf⟩ := h
  rcases hr.2 with ⟨_, e0⟩ | ⟨g, cap, cur, e0, hBg, hh, _⟩
  · exact absurd e0 (by omega)
  · injection e0 with e0 e1 e2
    subst e0 e1 e2
    obtain ⟨_, _, X, d, a2, _, a4⟩ := hc.2 k hs[k] (by simp)
    have h1 := cells_hits hr rfl _ _ a2
    rw [Addr.add_lit, Nat.zero_add] at h1
    refine ⟨g, X, d, rfl, hBg, lt_of_block hh, h1, fun j hj => ?_⟩
    obtain ⟨ad, rfl, s, lt, hcj⟩ := a4 j (by rw [i32s_len]; exact hj)
    obtain ⟨f1, _, _, f4⟩ := hf _ _ _ (List.mem_of_getElem? a2) ad rfl
    rw [i32s_at hj] at hcj
    rw [f1, Addr.add_lit, Nat.zero_add] at hcj
    exact ⟨ad.block, _, by rw [f1], s.1, lt, fun e => s.2 (by rw [e]; rfl), hcj, f4 j⟩
theorem Flip.kept {lo hi : Nat} {w w' : World} {A : Option Addr} {hs : List Hit} (h : Flip lo hi w A hs) (hk : ∀ g, lo ≤ g → g < hi → w'.heap[g]? = w.heap[g]?) : Flip lo hi w' A hs := fun k hk' => by
  obtain ⟨g, X, d, e, h1, h2, h3, h4⟩ := h k hk'
  refine ⟨g, X, d, e, h1, h2, (World.cell?_of_block (a := ⟨g, k * 3 + 2, none⟩) (hk g h1 h2)).trans h3, fun j hj => ?_⟩
  obtain ⟨q, n, e1, e2, e3, e4, e5, e6⟩ := h4 j hj
  exact ⟨q, n, e1, e2, e3, e4, (World.cell?_of_block (a := ⟨q, j, none⟩) (hk q e2 e3)).trans e5, (World.frozen?_of_block (w := w) (w' := w') (a := ⟨q, j, none⟩) (hk q e2 e3)).trans e6⟩
theorem Flip.set {lo hi : Nat} {w : World} {A : Option Addr} {hs : List Hit} (h : Flip lo hi w A hs) {g q j : Nat} {n m : Int} (hA : A = some ⟨g, 0, none⟩) (hq : q ≠ g) (hc : w.cell? ⟨q, j, none⟩ = some (.int .i32 n)) : Flip lo hi (w.setCell ⟨q, j, none⟩ (.int .i32 m)) A hs := fun k hk' => by
  obtain ⟨g', X, d, e, h1, h2, h3, h4⟩ := h k hk'
  rw [hA] at e
  injection e with e
  injection e with e _ _
  subst e
  refine ⟨g, X, d, hA, h1, h2, (World.cell?_of_block (a := ⟨g, k * 3 + 2, none⟩) (Below.heap_setCell _ _ _ _ (fun e => hq e.symm))).trans h3, fun i hi' => ?_⟩
  obtain ⟨q', n', e1, e2, e3, e4, e5, e6⟩ := h4 i hi'
  by_cases e : (⟨q, j, none⟩ : Addr) = ⟨q', i, none⟩
  · rw [← e] at e5
    exact ⟨q', m, e1, e2, e3, e4, by rw [← e]; exact World.cell?_setCell_same _ _ _ e5, by rw [World.frozen?_setCell]; exact e6⟩
  · exact ⟨q', n', e1, e2, e3, e4, by rw [World.cell?_setCell_other _ _ _ _ e]; exact e5, by rw [World.frozen?_setCell]; exact e6⟩
/-- Nothing has turned but in blocks from lo up to hi. -/
structure Fz (lo hi : Nat) (w w' : World) : Prop where
  os : w'.os = w.os
  tape : w'.tape = w.tape
  output : w'.output = w.output
  size : w'.heap.size = w.heap.size
  block : ∀ g, ¬ (lo ≤ g ∧ g < hi) → w'.heap[g]? = w.heap[g]?
theorem Fz.refl (lo hi : Nat) (w : World) : Fz lo hi w w := ⟨rfl, rfl, rfl, rfl, fun _ _ => rfl⟩
theorem Fz.set {lo hi : Nat} {w w' : World} (h : Fz lo hi w w') {q : Nat} (h1 : lo ≤ q) (h2 : q < hi) (j : Nat) (u : Value) : Fz lo hi w (w'.setCell ⟨q, j, none⟩ u) :=
  ⟨h.os, h.tape, h.output, by rw [set_size]; exact h.size, fun g hg => (Below.heap_setCell _ _ _ _ (fun e => hg (by simp at e; omega))).trans (h.block g hg)⟩

def K0 (B bx g : Nat) : Prop := B ≤ g ∧ g ≠ bx
def SP (b mb bx : Nat) (v : Value) (g : Nat) : Prop := g ≠ b ∧ g ≠ mb ∧ g ≠ bx ∧ some g ≠ v.ownBlock
/-- The List and the document's. -/
structure PI (B b mb bx most : Nat) (w : World) (N : Nat) (v : Value) (A : Option Addr) (c : Nat) (L T : List Hit) : Prop where
  lst : LstK (K0 B bx) w B b mb N v most T
  rl : RL w (SP b mb bx v) B bx most A c L
  perm : L.Perm T
  good : Good most T
  offv : v.ownBlock ≠ some bx
theorem PI.below {B b mb bx most N : Nat} {w w' : World} {v : Value} {A : Option Addr} {c : Nat} {L T : List Hit} (h : PI B b mb bx most w N v A c L T) (hb : Below w.heap.size w w') : PI B b mb bx most w' N v A c L T := ⟨h.lst.below hb, h.rl.below hb, h.perm, h.good, h.offv⟩

def K1 (B bx lo hi g : Nat) : Prop := B ≤ g ∧ g ≠ bx ∧ ¬ (lo ≤ g ∧ g < hi)
def S1 (b mb bx lo hi : Nat) (v : Value) (g : Nat) : Prop := SP b mb bx v g ∧ ¬ (lo ≤ g ∧ g < hi)
/-- The same, off some blocks. -/
structure PJ (B b mb bx most lo hi : Nat) (w : World) (N : Nat) (v : Value) (A : Option Addr) (c : Nat) (L T : List Hit) : Prop where
  lst : LstK (K1 B bx lo hi) w B b mb N v most T
  rl : RL w (S1 b mb bx lo hi v) B bx most A c L
  offv : v.ownBlock ≠ some bx
  offr : ∀ g, v.ownBlock = some g → ¬ (lo ≤ g ∧ g < hi)
  lts : b < lo ∧ mb < lo ∧ bx < lo
theorem PI.enter {B b mb bx most N : Nat} {w w' w'' : World} {v : Value} {A : Option Addr} {c : Nat} {L T : List Hit} (h : PI B b mb bx most w N v A c L T) (hb : Below w.heap.size w w') (hb' : Below w'.heap.size w' w'') (hbx : b ≠ bx ∧ mb ≠ bx) : PJ B b mb bx most w'.heap.size w''.heap.size w'' N v A c L T := by
  have l1 := h.lst.below hb
  obtain ⟨q1, q2, q3⟩ := l1.lt
  have qx := lt_of_block (h.rl.below hb).blk
  have s2 := hb'.size
  refine ⟨?_, ?_, h.offv, fun g e hg => by have := (l1.rowlt e).2; omega, q1, q2, qx⟩
  · have l2 := l1.below hb'
    obtain ⟨cs, ⟨hl, hr⟩, hc⟩ := l1.row
    refine ⟨l2.blk, ⟨cs, own_below ⟨hl, hr⟩ hb', ⟨hc.1, fun j x hx => ?_⟩⟩, l2.map, l2.lob, l2.lom, fun g hg => ⟨by omega, by omega, by omega⟩, fun g s => s.1⟩
    obtain ⟨b0, b1, Y, d, b2, b3, b4⟩ := hc.2 j x hx
    have b5 : Row (fun g => (K1 B bx w'.heap.size w''.heap.size) g ∧ g ≠ b ∧ g ≠ mb ∧ some g ≠ v.ownBlock) w' Y (i32s x.2.2) := b4.mono fun g hg s => ⟨⟨s.1.1, s.1.2, by omega⟩, s.2⟩
    exact ⟨b0, b1, Y, d, b2, b3, b5.below hb'⟩
  · exact (((h.rl.below hb).lt).below hb').mono (fun g s => ⟨s.2, by omega⟩) (fun g s => s.1.2.2.1)
/-- behind an Add on the document's List -/
theorem PJ.radd {B b mb bx most lo hi N : Nat} {w w' : World} {v : Value} {A A' : Option Addr} {c c' : Nat} {L L' T : List Hit} (h : PJ B b mb bx most lo hi w N v A c L T) (hO : Only bx w w') (hR : RL w' (SX w (S1 b mb bx lo hi v) bx) B bx most A' c' L') (hhi : hi ≤ w.heap.size) : PJ B b mb bx most lo hi w' N v A' c' L' T := by
  obtain ⟨q1, q2, q3⟩ := h.lst.lt
  obtain ⟨t1, t2, t3⟩ := h.lts
  refine ⟨h.lst.kept hO.size fun g hg s => hO.block g hg ?_, hR.mono (fun g s => ?_) (fun g s => s.1.2.2.1), h.offv, h.offr, h.lts⟩
  · rcases s with s | s | s | s
    · exact s.1.2.1
    · have := h.lst.blk; intro e; subst s; subst e; rw [h.rl.blk] at this; simp at this
    · obtain ⟨D, ⟨es, clock, hm, _⟩, _⟩ := h.lst.map
      intro e; subst s; subst e; rw [h.rl.blk] at hm; cases hm
    · intro e; subst e; exact h.offv s
  · rcases s.2 with s2 | s2
    · exact s2
    · exact ⟨⟨by omega, by omega, s.1, fun e => by have := (h.lst.rowlt e.symm).2; omega⟩, by omega⟩
/-- behind an Add on the List -/
theorem PJ.ladd {B b mb bx most lo hi N N' : Nat} {w w' : World} {v v' : Value} {A : Option Addr} {c : Nat} {L T T' : List Hit} (h : PJ B b mb bx most lo hi w N v A c L T) (hL : LstK (K1 B bx lo hi) w' B b mb N' v' most T') (hC : Chg w w' b mb v v') (hhi : hi ≤ w.heap.size) : PJ B b mb bx most lo hi w' N' v' A c L T' := by
  have hv : ∀ g, g < w.heap.size → some g ≠ v.ownBlock → some g ≠ v'.ownBlock := fun g hg hne e => by
    rcases hC.new with e' | ⟨g', e', hg'⟩
    · exact hne (e.trans e')
    · rw [e'] at e; injection e with e; omega
  have hbx := lt_of_block h.rl.blk
  have hne1 : bx ≠ b := fun e => by have := h.lst.blk; rw [← e, h.rl.blk] at this; simp at this
  have hne2 : bx ≠ mb := fun e => by
    obtain ⟨D, ⟨es, clock, hm, _⟩, _⟩ := h.lst.map
    rw [← e, h.rl.blk] at hm; cases hm
  refine ⟨hL, ?_, fun e => ?_, fun g e hg => ?_, h.lts⟩
  · have h1 := (h.rl.lt).kept (w' := w') hC.size fun g hg s => by
      rcases s with s | s
      · exact hC.block g hg s.2.1.1 s.2.1.2.1 s.2.1.2.2.2
      · subst s; exact hC.block g hg hne1 hne2 (fun e => h.offv e.symm)
    exact h1.mono (fun g s => ⟨⟨s.2.1.1, s.2.1.2.1, s.2.1.2.2.1, hv g s.1 s.2.1.2.2.2⟩, s.2.2⟩) (fun g s => s.1.2.2.1)
  · exact hv bx hbx (fun e => h.offv e.symm) e.symm
  · rcases hC.new with e' | ⟨g', e', hg'⟩
    · exact h.offr g (e'.symm.trans e) hg
    · rw [e'] at e; injection e with e; omega
/-- behind the writing -/
theorem PJ.leave {B b mb bx most lo hi N : Nat} {w w' : World} {v : Value} {A : Option Addr} {c : Nat} {L T : List Hit} (h : PJ B b mb bx most lo hi w N v A c L T) (hF : Fz lo hi w w') (hP : L.Perm T) (hG : Good most T) : PI B b mb bx most w' N v A c L T := by
  obtain ⟨t1, t2, t3⟩ := h.lts
  have hs : w.heap.size ≤ w'.heap.size := by rw [hF.size]; exact Nat.le_refl _
  refine ⟨(h.lst.kept hs fun g hg s => hF.block g ?_).mono (fun g _ s => ⟨s.1, s.2.1⟩) (fun g hg => ?_) (fun g s => s.1), (h.rl.kept hs fun g hg s => hF.block g ?_).mono (fun g s => s.1) (fun g s => s.2.2.1), hP, hG, h.offv⟩
  · rcases s with s | s | s | s
    · exact s.1.2.2
    · omega
    · omega
    · exact h.offr g s
  · have := h.lst.up g (by rw [← hF.size]; exact hg)
    exact ⟨this.1, this.2.1⟩
  · rcases s with s | s
    · exact s.2
    · omega

end Go.Proofs.Ytfhnhfppamnjhaa
