/-
  Words for memory: what a call on one object may have turned ('Fr'), and a Writer's memory ('Wr').
-/
import Derived.WalkKit
import Derived.Deep.AppendLies
import Derived.Laws.CopyOwn
namespace Go.Proofs.Ytlambcmikfihgaa
open Go.RowKit

/-- w' is w with new blocks, and with writes to block b and to row o alone. -/
structure Fr (b : Nat) (o : Option Nat) (w w' : World) : Prop where
  os : w'.os = w.os
  tape : w'.tape = w.tape
  output : w'.output = w.output
  size : w.heap.size ≤ w'.heap.size
  block : ∀ k, k < w.heap.size → k ≠ b → some k ≠ o → w'.heap[k]? = w.heap[k]?

theorem Fr.refl (b : Nat) (o : Option Nat) (w : World) : Fr b o w w := ⟨rfl, rfl, rfl, Nat.le_refl _, fun _ _ _ _ => rfl⟩

/-- the row behind a step: the old one, or one that is new -/
def Later (w : World) (o o' : Option Nat) : Prop := o' = o ∨ ∃ g, o' = some g ∧ w.heap.size ≤ g

theorem Later.refl (w : World) (o : Option Nat) : Later w o o := .inl rfl
theorem Later.trans {w w' : World} {o o' o'' : Option Nat} (h : Later w o o') (k : Later w' o' o'') (hs : w.heap.size ≤ w'.heap.size) : Later w o o'' := by
  rcases k with rfl | ⟨g, rfl, hg⟩
  · exact h
  · exact .inr ⟨g, rfl, by omega⟩

theorem Fr.trans {b : Nat} {o o' : Option Nat} {w w' w'' : World} (h : Fr b o w w') (k : Fr b o' w' w'') (hl : Later w o o') : Fr b o w w'' :=
  ⟨k.os.trans h.os, k.tape.trans h.tape, k.output.trans h.output, Nat.le_trans h.size k.size, fun i hi hb ho => (k.block i (by have := h.size; omega) hb (by
    rcases hl with rfl | ⟨g, rfl, hg⟩
    · exact ho
    · intro e; injection e with e; omega)).trans (h.block i hi hb ho)⟩

theorem Fr.below {b B : Nat} {o : Option Nat} {w w' : World} (h : Fr b o w w') (hB : B ≤ w.heap.size) (hb : B ≤ b) (ho : ∀ g, o = some g → B ≤ g) : Below B w w' :=
  ⟨h.os, h.tape, h.output, h.size, fun k hk => h.block k (by omega) (by omega) (fun e => by have := ho k e.symm; omega)⟩

/-- A Writer at block b, its slice v, which owns the bytes l, in rows from B on. -/
structure Wr (w : World) (B b : Nat) (v : Value) (l : List Int) : Prop where
  blk : w.heap[b]? = some (.cells #[v] 27 (0, 0))
  own : w.ownsRow B 5 1 v l.length (l.map (Value.int .u8))
  low : B ≤ w.heap.size

theorem Wr.kept {w w' : World} {B b : Nat} {v : Value} {l : List Int} {b' : Nat} {o : Option Nat} (h : Wr w B b v l) (hf : Fr b' o w w') (hb : b ≠ b') (hbo : some b ≠ o)
    (hv : v.ownBlock = none ∨ (v.ownBlock ≠ some b' ∧ v.ownBlock ≠ o)) : Wr w' B b v l := by
  refine ⟨(hf.block b (lt_of_block h.blk) hb hbo).trans h.blk, ?_, by have := hf.size; have := h.low; omega⟩
  obtain ⟨h1, h2⟩ := h.own
  refine ⟨h1, ?_⟩
  rcases h2 with h2 | ⟨g, cap, cur, rfl, hg, hh, r⟩
  · exact .inl h2
  · refine .inr ⟨g, cap, cur, rfl, hg, ?_, r⟩
    have hv' : g ≠ b' ∧ some g ≠ o := by
      rcases hv with hv | hv
      · simp [Value.ownBlock] at hv
      · simpa [Value.ownBlock] using hv
    exact (hf.block g (lt_of_block hh) hv'.1 hv'.2).trans hh

theorem Wr.apart {w : World} {B b : Nat} {v : Value} {l : List Int} (h : Wr w B b v l) : v.ownBlock ≠ some b := by
  intro e
  rcases h.own.2 with ⟨rfl, _⟩ | ⟨g', c', cur, rfl, _, hh, _⟩
  · simp [Value.ownBlock] at e
  · have : g' = b := by simpa [Value.ownBlock] using e
    subst this
    rw [h.blk] at hh; simp at hh

/-- the Writer's own block behind an append -/
theorem Wr.after {w w1 : World} {B b : Nat} {v : Value} {l : List Int} {o : Obj} (h : Wr w B b v l) (hgrow : (w.alloc o).grownBy w1 v.ownBlock) :
    w1.heap[b]? = some (.cells #[v] 27 (0, 0)) := by
  have hblt := lt_of_block h.blk
  rw [hgrow.block b (by simp; omega) (fun e => h.apart e.symm), Below.heap_alloc _ _ _ hblt]; exact h.blk

/-- behind an append of one byte and the store into the field -/
theorem Wr.step {w w1 : World} {B b : Nat} {v : Value} {l : List Int} {x : Int} {g cap : Nat} {o : Obj} (h : Wr w B b v l)
    (hown : w1.ownsRow B 5 1 (.slice (some ⟨g, 0, none⟩) (l.length + 1) cap) (l.length + 1) (l.map (Value.int .u8) ++ [.int .u8 x]))
    (hgrow : (w.alloc o).grownBy w1 v.ownBlock) (hat : v.ownBlock = some g ∨ g = w.heap.size + 1) :
    Wr (w1.setCell ⟨b, 0, none⟩ (.slice (some ⟨g, 0, none⟩) (l.length + 1) cap)) B b (.slice (some ⟨g, 0, none⟩) (l.length + 1) cap) (l ++ [x]) ∧
    Fr b v.ownBlock w (w1.setCell ⟨b, 0, none⟩ (.slice (some ⟨g, 0, none⟩) (l.length + 1) cap)) ∧
    Later w v.ownBlock (Value.ownBlock (.slice (some ⟨g, 0, none⟩) (l.length + 1) cap)) := by
  have hblt := lt_of_block h.blk
  have hsz : (w.alloc o).heap.size = w.heap.size + 1 := by simp
  have hvb : v.ownBlock ≠ some b := by
    intro e
    rcases h.own.2 with ⟨rfl, _⟩ | ⟨g', c', cur, rfl, _, hh, _⟩
    · simp [Value.ownBlock] at e
    · have : g' = b := by simpa [Value.ownBlock] using e
      subst this
      rw [h.blk] at hh; simp at hh
  have hgb : g ≠ b := by
    rcases hat with e | rfl
    · rintro rfl; exact hvb e
    · omega
  have hb1 : w1.heap[b]? = some (.cells #[v] 27 (0, 0)) := by
    rw [hgrow.block b (by omega) (fun e => hvb e.symm), Below.heap_alloc _ _ _ hblt]; exact h.blk
  refine ⟨⟨one_setCell hb1, ?_, ?_⟩, ⟨hgrow.os, hgrow.tape, hgrow.output, ?_, fun k hk hkb hko => ?_⟩, ?_⟩
  · have := ownsRow_setCell_other (a := ⟨b, 0, none⟩) hown (by simpa [Value.ownBlock] using hgb) (.slice (some ⟨g, 0, none⟩) (l.length + 1) cap)
    simpa using this
  · have := hgrow.size; have := h.low; simp [World.setCell]; omega
  · have := hgrow.size; simp [World.setCell]; omega
  · rw [Below.heap_setCell _ _ _ _ hkb, hgrow.block k (by omega) hko, Below.heap_alloc _ _ _ hk]
  · rcases hat with e | rfl
    · exact .inl (by rw [e]; rfl)
    · exact .inr ⟨w.heap.size + 1, rfl, by omega⟩

/-- What a call on a Writer has done. -/
def Wrote (B b : Nat) (v : Value) (w : World) (l' : List Int) (w' : World) : Prop :=
  ∃ v', Wr w' B b v' l' ∧ Fr b v.ownBlock w w' ∧ Later w v.ownBlock v'.ownBlock

theorem Wrote.start {B b : Nat} {v : Value} {w : World} {l : List Int} (h : Wr w B b v l) : Wrote B b v w l w := ⟨v, h, Fr.refl _ _ _, Later.refl _ _⟩
theorem Wrote.more {B b : Nat} {v v1 : Value} {w w1 w2 : World} {l2 : List Int} (f1 : Fr b v.ownBlock w w1) (t1 : Later w v.ownBlock v1.ownBlock) (h : Wrote B b v1 w1 l2 w2) : Wrote B b v w l2 w2 := by
  obtain ⟨v2, h2, f2, t2⟩ := h
  exact ⟨v2, h2, f1.trans f2 t1, t1.trans t2 f1.size⟩

/-- A slice that reads as the cells xs; of its block S holds. -/
def Row (S : Nat → Prop) (w : World) (A : Option Addr) (xs : List Value) : Prop :=
  ∀ j, j < xs.length → ∃ ad, A = some ad ∧ S ad.block ∧ ad.block < w.heap.size ∧ w.cell? (ad.add j) = xs[j]?

theorem block_add (a : Addr) (n : Nat) : (a.add n).block = a.block := by unfold Addr.add; split <;> rfl

theorem Row.mono {S S' : Nat → Prop} {w : World} {A : Option Addr} {xs : List Value} (h : Row S w A xs) (hS : ∀ g, g < w.heap.size → S g → S' g) : Row S' w A xs :=
  fun j hj => by obtain ⟨ad, e, s, lt, c⟩ := h j hj; exact ⟨ad, e, hS _ lt s, lt, c⟩
theorem Row.kept {S : Nat → Prop} {w w' : World} {A : Option Addr} {xs : List Value} (h : Row S w A xs) (hs : w.heap.size ≤ w'.heap.size) (hk : ∀ g, g < w.heap.size → S g → w'.heap[g]? = w.heap[g]?) : Row S w' A xs :=
  fun j hj => by
    obtain ⟨ad, e, s, lt, c⟩ := h j hj
    exact ⟨ad, e, s, by omega, (World.cell?_of_block (by rw [block_add]; exact hk _ lt s)).trans c⟩
theorem Row.nil {S : Nat → Prop} {w : World} {A : Option Addr} : Row S w A [] := fun j hj => by simp at hj

/-- off a Writer's memory -/
def OffW (b : Nat) (v : Value) (g : Nat) : Prop := g ≠ b ∧ some g ≠ v.ownBlock

theorem Row.wrote {b : Nat} {v v' : Value} {w w' : World} {A : Option Addr} {xs : List Value} (h : Row (OffW b v) w A xs) (hf : Fr b v.ownBlock w w') (hl : Later w v.ownBlock v'.ownBlock) : Row (OffW b v') w' A xs := by
  have h1 : Row (fun g => OffW b v g ∧ OffW b v' g) w A xs := h.mono fun g hg s => ⟨s, s.1, by
    rcases hl with e | ⟨g', e, hg'⟩
    · rw [e]; exact s.2
    · rw [e]; intro e2; injection e2 with e2; omega⟩
  exact (h1.kept hf.size fun g hg s => hf.block g hg s.1.1 s.1.2).mono fun g _ s => s.2

def u8s (l : List Int) : List Value := l.map fun (n : Int) => Value.int .u8 n
theorem u8s_at {xs : List Int} {k : Nat} (h : k < xs.length) : (u8s xs)[k]? = some (.int .u8 xs[k]) := by simp [u8s, h]
theorem u8s_len (xs : List Int) : (u8s xs).length = xs.length := by simp [u8s]
theorem u8s_one (xs : List Int) : ∀ u ∈ u8s xs, u.oneCell' = true := ints_oneCell _ _

theorem Row.any {S : Nat → Prop} {w : World} {A : Option Addr} {xs : List Value} (h : Row S w A xs) : Row (fun _ => True) w A xs := h.mono fun _ _ _ => trivial
theorem Row.below {S : Nat → Prop} {w w' : World} {A : Option Addr} {xs : List Value} (h : Row S w A xs) (hb : Below w.heap.size w w') : Row S w' A xs := h.kept hb.size fun g hg _ => hb.block g hg
theorem Row.alloc {S : Nat → Prop} {w : World} {A : Option Addr} {xs : List Value} (h : Row S w A xs) (o : Obj) : Row S (w.alloc o) A xs := h.kept (by simp) fun g hg _ => Below.heap_alloc w o g hg
theorem Row.drew {S : Nat → Prop} {w : World} {A : Option Addr} {xs : List Value} (h : Row S w A xs) : Row S w.drew A xs := h
/-- a block that is known whole -/
theorem Row.of_block {S : Nat → Prop} {w : World} {g : Nat} {xs : List Value} {t : TypeId} {fr : Nat × Nat} (h : w.heap[g]? = some (.cells xs.toArray t fr)) (hS : S g) : Row S w (some ⟨g, 0, none⟩) xs := fun j hj => by
  refine ⟨_, rfl, hS, lt_of_block h, ?_⟩
  have := World.news_of_block h j xs[j] (by simp)
  rw [this]; simp [hj]
/-- the cells, as the laws on append and copy ask for them -/
theorem Row.cells {S : Nat → Prop} {w : World} {A : Option Addr} {xs : List Value} (h : Row S w A xs) (h0 : 0 < xs.length) : ∃ ad, A = some ad ∧ ∀ j v, xs[j]? = some v → w.cell? (ad.add j) = some v := by
  obtain ⟨ad, rfl, _⟩ := h 0 h0
  refine ⟨ad, rfl, fun j v hv => ?_⟩
  have hj : j < xs.length := by
    rcases Nat.lt_or_ge j xs.length with h1 | h1
    · exact h1
    · rw [List.getElem?_eq_none h1] at hv; cases hv
  obtain ⟨ad', e, _, _, hc⟩ := h j hj
  injection e with e
  subst e
  rw [hc, hv]

theorem Wr.row {w : World} {B b : Nat} {v : Value} {l : List Int} (h : Wr w B b v l) : ∃ A cap, v = .slice A l.length cap ∧ Row (fun g => some g = v.ownBlock) w A (u8s l) := by
  obtain ⟨_, h2⟩ := h.own
  rcases h2 with ⟨rfl, e⟩ | ⟨g, cap, cur, rfl, _, hh, hnc, _, hcs, htake⟩
  · have : l = [] := List.eq_nil_of_length_eq_zero e
    subst this
    exact ⟨none, 0, rfl, Row.nil⟩
  · refine ⟨_, cap, rfl, fun j hj => ⟨_, rfl, rfl, lt_of_block hh, ?_⟩⟩
    have hcell := h.own.cells (g := g) rfl j (u8s l)[j] (by rw [show l.map (Value.int .u8) = u8s l from rfl]; simp)
    rw [hcell]; simp [hj]

/-- the room that make lays -/
theorem made_u8 (n : Nat) : ∃ L : List Value, madeCells #[.int .u8 0] n = L.toArray ∧ L.length = n :=
  ⟨(madeCells #[.int .u8 0] n).toList, by simp, by rw [toList_madeCells_one]; simp⟩

theorem splice_all {L cs : List Value} (h : cs.length = L.length) : splice L 0 cs = cs := by simp [splice, h]

/-- A Reader at block b: what is left, and its fault. -/
def Rd (w : World) (b : Nat) (l : List Int) (f : Int) : Prop :=
  ∃ A c, w.heap[b]? = some (.cells #[.slice A l.length c, .int .i64 f] 61 (0, 0)) ∧ l.length ≤ c ∧ Row (fun g => g < b) w A (u8s l)

/-- A new Reader. -/
def Opened (w : World) (l : List Int) (e : Ending) (w' : World) : Prop :=
  ∃ b, e = .returned (.pointer (some ⟨b, 0, none⟩)) ∧ w.heap.size ≤ b ∧ Rd w' b l 0 ∧ Below w.heap.size w w'

/-- New bytes: all of l, in a block of their own. -/
def Gave (w : World) (l : List Int) (e : Ending) (w' : World) : Prop :=
  ∃ g, e = .returned (.slice (some ⟨g, 0, none⟩) l.length l.length) ∧ w.heap.size ≤ g ∧ w'.heap[g]? = some (.cells (u8s l).toArray 5 (0, 0)) ∧ Below w.heap.size w w'

end Go.Proofs.Ytlambcmikfihgaa
