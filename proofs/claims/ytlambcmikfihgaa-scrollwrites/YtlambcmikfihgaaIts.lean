/-
  What ScrollWrites keeps beside a Writer: the bytes that it wants, and the items that it wrote.
-/
import Derived.Test.YtlambcmikfihgaaMany1
import Derived.Test.YtlambcmikfihgaaRefVec
import Derived.Test.YtlambcmikfihgaaRefText
import Derived.Test.YtlambcmikfihgaaRVec
import Derived.Test.YtlambcmikfihgaaReadMath
namespace Go.Proofs.Ytlambcmikfihgaa
open Go.RowKit
set_option linter.unusedSimpArgs false
set_option linter.unusedVariables false

/-- An item. -/
structure Itm where
  d : Int
  xs : List Nat
  ts : List (List Int)
  vs : List (List Int)
  m : Int
/-- its cells -/
def itV (o : Itm) (A1 : Option Addr) (c1 : Nat) (A2 : Option Addr) (c2 : Nat) (A3 : Option Addr) (c3 : Nat) : List Value :=
  [.int .u8 o.d, .slice A1 o.xs.length c1, .slice A2 o.ts.length c2, .slice A3 o.vs.length c3, .int .i64 o.m]
structure ItAt (S : Nat → Prop) (w : World) (o : Itm) (A1 A2 A3 : Option Addr) : Prop where
  xs : Row S w A1 (u64s o.xs)
  ts : Texts S w A2 o.ts
  vs : Rows S w A3 o.vs
/-- one that isn't too great -/
structure ItFew (o : Itm) : Prop where
  d : 0 ≤ o.d ∧ o.d < 256
  xl : o.xs.length ≤ 5
  x : ∀ x ∈ o.xs, x < U64
  tl : o.ts.length ≤ 4
  t : ∀ t ∈ o.ts, t.length ≤ 40 ∧ Bytes8 t
  vl : o.vs.length ≤ 4
  v : ∀ v ∈ o.vs, v.length ≤ 12 ∧ ∀ y ∈ v, I32 y

section
variable {S S' : Nat → Prop} {w w' : World}

theorem row_kept {A : Option Addr} {xs : List Value} (h : Row S w A xs) (hs : w.heap.size ≤ w'.heap.size) (hk : ∀ g, g < w.heap.size → S g → w'.heap[g]? = w.heap[g]? ∧ S' g) : Row S' w' A xs :=
  (((h.mono (S' := fun g => S g ∧ g < w.heap.size) fun g hg s => ⟨s, hg⟩).kept hs fun g hg s => (hk g hg s.1).1)).mono fun g _ s => (hk g s.2 s.1).2
theorem ItAt.kept {o : Itm} {A1 A2 A3 : Option Addr} (h : ItAt S w o A1 A2 A3) (hs : w.heap.size ≤ w'.heap.size) (hk : ∀ g, g < w.heap.size → S g → w'.heap[g]? = w.heap[g]? ∧ S' g) : ItAt S' w' o A1 A2 A3 :=
  ⟨row_kept h.xs hs hk, texts_kept h.ts hs hk, rows_kept h.vs hs hk⟩

/-- Cells that hold items. -/
def Cells5 (S : Nat → Prop) (w : World) (cs : List Value) (os : List Itm) : Prop :=
  cs.length = os.length * 5 ∧ ∀ j (h : j < os.length), ∃ A1 c1 A2 c2 A3 c3, (∀ i, i < 5 → cs[j * 5 + i]? = (itV os[j] A1 c1 A2 c2 A3 c3)[i]?) ∧ ItAt S w os[j] A1 A2 A3
theorem Cells5.nil : Cells5 S w [] [] := ⟨rfl, fun j h => by simp at h⟩
theorem Cells5.kept {cs : List Value} {os : List Itm} (h : Cells5 S w cs os) (hs : w.heap.size ≤ w'.heap.size) (hk : ∀ g, g < w.heap.size → S g → w'.heap[g]? = w.heap[g]? ∧ S' g) : Cells5 S' w' cs os :=
  ⟨h.1, fun j hj => by
    obtain ⟨A1, c1, A2, c2, A3, c3, h1, h2⟩ := h.2 j hj
    exact ⟨A1, c1, A2, c2, A3, c3, h1, h2.kept hs hk⟩⟩
theorem Cells5.snoc {cs : List Value} {os : List Itm} (h : Cells5 S w cs os) {o : Itm} {A1 A2 A3 : Option Addr} (c1 c2 c3 : Nat) (ho : ItAt S w o A1 A2 A3) : Cells5 S w (cs ++ itV o A1 c1 A2 c2 A3 c3) (os ++ [o]) := by
  obtain ⟨h1, h2⟩ := h
  refine ⟨by simp [itV, h1]; omega, fun j hj => ?_⟩
  rw [List.length_append, List.length_singleton] at hj
  by_cases hjl : j < os.length
  · obtain ⟨B1, e1, B2, e2, B3, e3, k1, k2⟩ := h2 j hjl
    refine ⟨B1, e1, B2, e2, B3, e3, fun i hi => ?_, ?_⟩
    · rw [List.getElem?_append_left (by omega), k1 i hi, List.getElem_append_left hjl]
    · rw [List.getElem_append_left hjl]
      exact k2
  · obtain rfl : j = os.length := by omega
    refine ⟨A1, c1, A2, c2, A3, c3, fun i hi => ?_, ?_⟩
    · rw [List.getElem?_append_right (by omega), show os.length * 5 + i - cs.length = i by omega]
      simp
    · simpa using ho

theorem own_off {B e s n : Nat} {v : Value} {xs : List Value} (h : w.ownsRow B e s v n xs) (hk : ∀ g, v.ownBlock = some g → w'.heap[g]? = w.heap[g]?) : w'.ownsRow B e s v n xs := by
  obtain ⟨h1, h2⟩ := h
  refine ⟨h1, ?_⟩
  rcases h2 with h2 | ⟨g, cap, cur, rfl, hg, hh, r⟩
  · exact .inl h2
  · exact .inr ⟨g, cap, cur, rfl, hg, (hk g rfl).trans hh, r⟩
end

/-- off the Writer's memory, the bytes' that are wanted, the items' -/
def Off (b : Nat) (v v4 v5 : Value) (g : Nat) : Prop := g ≠ b ∧ some g ≠ v.ownBlock ∧ some g ≠ v4.ownBlock ∧ some g ≠ v5.ownBlock
/-- Behind some items. -/
structure Sta (w0 w : World) (b : Nat) (v v4 v5 : Value) (Lw Lt : List Int) (os : List Itm) : Prop where
  bel : Below w0.heap.size w0 w
  wr : Wr w w0.heap.size b v Lw
  wa : w.ownsRow w0.heap.size 5 1 v4 Lt.length (u8s Lt)
  al : ∃ cs, w.ownsRow w0.heap.size 32 5 v5 os.length cs ∧ Cells5 (Off b v v4 v5) w cs os
  b0 : w0.heap.size ≤ b
  d4 : ∀ g, v4.ownBlock = some g → g ≠ b ∧ v.ownBlock ≠ some g
  d5 : ∀ g, v5.ownBlock = some g → g ≠ b ∧ v.ownBlock ≠ some g ∧ v4.ownBlock ≠ some g
/-- what a step keeps -/
def Kp (w w' : World) (P P' : Nat → Prop) : Prop := w.heap.size ≤ w'.heap.size ∧ ∀ g, g < w.heap.size → P g → w'.heap[g]? = w.heap[g]? ∧ P' g
theorem Kp.trans {w w' w'' : World} {P P' P'' : Nat → Prop} (h : Kp w w' P P') (k : Kp w' w'' P' P'') : Kp w w'' P P'' :=
  ⟨Nat.le_trans h.1 k.1, fun g hg s => by
    obtain ⟨h1, h2⟩ := h.2 g hg s
    obtain ⟨k1, k2⟩ := k.2 g (Nat.lt_of_lt_of_le hg h.1) h2
    exact ⟨k1.trans h1, k2⟩⟩
theorem Kp.of_below {w w' : World} (P : Nat → Prop) (h : Below w.heap.size w w') : Kp w w' P P := ⟨h.size, fun g hg s => ⟨h.block g hg, s⟩⟩

section
variable {w0 w w' : World} {b : Nat} {v v4 v5 : Value} {Lw Lt : List Int} {os : List Itm}

theorem Sta.below (h : Sta w0 w b v v4 v5 Lw Lt os) (hb : Below w.heap.size w w') : Sta w0 w' b v v4 v5 Lw Lt os := by
  obtain ⟨cs, h1, h2⟩ := h.al
  exact ⟨h.bel.trans (hb.mono h.bel.size), h.wr.below hb, own_below h.wa hb, ⟨cs, own_below h1 hb, h2.kept hb.size fun g hg s => ⟨hb.block g hg, s⟩⟩, h.b0, h.d4, h.d5⟩
/-- the Writer writes on -/
theorem Sta.write {Lw' : List Int} (h : Sta w0 w b v v4 v5 Lw Lt os) (hw : Wrote w0.heap.size b v w Lw' w') : ∃ v', Sta w0 w' b v' v4 v5 Lw' Lt os ∧ Kp w w' (Off b v v4 v5) (Off b v' v4 v5) := by
  obtain ⟨v', hwr, fr, la⟩ := hw
  obtain ⟨cs, h1, h2⟩ := h.al
  have hne : ∀ g, g < w.heap.size → v.ownBlock ≠ some g → v'.ownBlock ≠ some g := fun g hg hv e => by
    rcases la with h | ⟨g', h, hg'⟩
    · rw [h] at e; exact hv e
    · rw [h] at e; injection e with e; omega
  have hK : Kp w w' (Off b v v4 v5) (Off b v' v4 v5) := ⟨fr.size, fun g hg s => ⟨fr.block g hg s.1 s.2.1, s.1, fun e => hne g hg (fun e' => s.2.1 e'.symm) e.symm, s.2.2⟩⟩
  refine ⟨v', ⟨h.bel.trans (fr.below h.bel.size h.b0 fun g e => (own_lt h.wr.own e).1), hwr, own_off h.wa fun g e => fr.block g (own_lt h.wa e).2 (h.d4 g e).1 fun e' => (h.d4 g e).2 e'.symm, ⟨cs, own_off h1 fun g e => fr.block g (own_lt h1 e).2 (h.d5 g e).1 fun e' => (h.d5 g e).2.1 e'.symm, h2.kept hK.1 hK.2⟩, h.b0, fun g e => ⟨(h.d4 g e).1, hne g (own_lt h.wa e).2 (h.d4 g e).2⟩, fun g e => ⟨(h.d5 g e).1, hne g (own_lt h1 e).2 (h.d5 g e).2.1, (h.d5 g e).2.2⟩⟩, hK⟩
/-- more is wanted -/
theorem Sta.want {v4' : Value} {Lt' : List Int} {n m : Nat} {xs : List Value} (h : Sta w0 w b v v4 v5 Lw Lt os) (hown : w'.ownsRow w0.heap.size 5 1 v4' n xs) (hn : n = Lt'.length) (hx : xs = u8s Lt') (hg : w.grownBy w' v4.ownBlock) (ha : v4'.ownBlock = v4.ownBlock ∨ v4'.ownBlock = some m) (hm : w.heap.size ≤ m) :
    Sta w0 w' b v v4' v5 Lw Lt' os ∧ Kp w w' (Off b v v4 v5) (Off b v v4' v5) := by
  subst hn hx
  obtain ⟨cs, h1, h2⟩ := h.al
  have hne : ∀ g, g < w.heap.size → v4.ownBlock ≠ some g → v4'.ownBlock ≠ some g := fun g hl hv e => by
    rcases ha with h | h
    · rw [h] at e; exact hv e
    · rw [h] at e; injection e with e; omega
  have hK : Kp w w' (Off b v v4 v5) (Off b v v4' v5) := ⟨hg.size, fun g hl s => ⟨hg.block g hl s.2.2.1, s.1, s.2.1, fun e => hne g hl (fun e' => s.2.2.1 e'.symm) e.symm, s.2.2.2⟩⟩
  have hw : ∀ g, v.ownBlock = some g → some g ≠ v4.ownBlock := fun g e e' => (h.d4 g e'.symm).2 e
  refine ⟨⟨h.bel.grown hg h.bel.size fun g e => (own_lt h.wa e).1, ⟨(hg.block b (lt_of_block h.wr.blk) fun e => (h.d4 b e.symm).1 rfl).trans h.wr.blk, own_off h.wr.own fun g e => hg.block g (own_lt h.wr.own e).2 (hw g e), Nat.le_trans h.wr.low hg.size⟩, hown, ⟨cs, own_off h1 fun g e => hg.block g (own_lt h1 e).2 fun e' => (h.d5 g e).2.2 e'.symm, h2.kept hK.1 hK.2⟩, h.b0, fun g e => ?_, fun g e => ⟨(h.d5 g e).1, (h.d5 g e).2.1, hne g (own_lt h1 e).2 (h.d5 g e).2.2⟩⟩, hK⟩
  rcases ha with h' | h'
  · rw [h'] at e
    exact h.d4 g e
  · rw [h'] at e
    injection e with e
    have hbl := lt_of_block h.wr.blk
    exact ⟨by omega, fun e' => by have := (own_lt h.wr.own e').2; omega⟩
/-- an item more -/
theorem Sta.more {v5' : Value} {n m : Nat} {xs cs : List Value} {o : Itm} {A1 A2 A3 : Option Addr} {c1 c2 c3 : Nat} (h : Sta w0 w b v v4 v5 Lw Lt os) (hc : Cells5 (Off b v v4 v5) w cs os) (h1 : w.ownsRow w0.heap.size 32 5 v5 os.length cs) (hown : w'.ownsRow w0.heap.size 32 5 v5' n xs) (hn : n = os.length + 1) (hx : xs = cs ++ itV o A1 c1 A2 c2 A3 c3) (ho : ItAt (Off b v v4 v5) w o A1 A2 A3)
    (hg : w.grownBy w' v5.ownBlock) (ha : v5'.ownBlock = v5.ownBlock ∨ v5'.ownBlock = some m) (hm : w.heap.size ≤ m) :
    Sta w0 w' b v v4 v5' Lw Lt (os ++ [o]) ∧ Kp w w' (Off b v v4 v5) (Off b v v4 v5') := by
  subst hn hx
  have hne : ∀ g, g < w.heap.size → v5.ownBlock ≠ some g → v5'.ownBlock ≠ some g := fun g hl hv e => by
    rcases ha with h | h
    · rw [h] at e; exact hv e
    · rw [h] at e; injection e with e; omega
  have hK : Kp w w' (Off b v v4 v5) (Off b v v4 v5') := ⟨hg.size, fun g hl s => ⟨hg.block g hl s.2.2.2, s.1, s.2.1, s.2.2.1, fun e => hne g hl (fun e' => s.2.2.2 e'.symm) e.symm⟩⟩
  have hw : ∀ g, v.ownBlock = some g → some g ≠ v5.ownBlock := fun g e e' => (h.d5 g e'.symm).2.1 e
  have hw4 : ∀ g, v4.ownBlock = some g → some g ≠ v5.ownBlock := fun g e e' => (h.d5 g e'.symm).2.2 e
  refine ⟨⟨h.bel.grown hg h.bel.size fun g e => (own_lt h1 e).1, ⟨(hg.block b (lt_of_block h.wr.blk) fun e => (h.d5 b e.symm).1 rfl).trans h.wr.blk, own_off h.wr.own fun g e => hg.block g (own_lt h.wr.own e).2 (hw g e), Nat.le_trans h.wr.low hg.size⟩, own_off h.wa fun g e => hg.block g (own_lt h.wa e).2 (hw4 g e), ⟨_, by rw [List.length_append, List.length_singleton]; exact hown, (hc.snoc c1 c2 c3 ho).kept hK.1 hK.2⟩, h.b0, h.d4, fun g e => ?_⟩, hK⟩
  rcases ha with h' | h'
  · rw [h'] at e
    exact h.d5 g e
  · rw [h'] at e
    injection e with e
    have hbl := lt_of_block h.wr.blk
    exact ⟨by omega, fun e' => by have := (own_lt h.wr.own e').2; omega, fun e' => by have := (own_lt h.wa e').2; omega⟩

end

/-- an item's bytes -/
def itB (o : Itm) : List Int := if o.d % 3 = 0 then o.xs.flatMap vi else if o.d % 3 = 1 then o.ts.flatMap textB else o.vs.flatMap vecB
theorem ItFew.tU {o : Itm} (h : ItFew o) : ∀ t ∈ o.ts, t.length < U64 := fun t ht => by have := (h.t t ht).1; unfold U64; omega
theorem ItFew.vU {o : Itm} (h : ItFew o) : ∀ t ∈ o.vs, (∀ y ∈ t, I32 y) ∧ t.length < U64 := fun t ht => ⟨(h.v t ht).2, by have := (h.v t ht).1; unfold U64; omega⟩
theorem ItFew.xLen {o : Itm} (h : ItFew o) : (o.xs.flatMap vi).length ≤ 50 := by have := flat_len o.xs h.x; have := h.xl; omega
theorem ItFew.tLen {o : Itm} (h : ItFew o) : (o.ts.flatMap textB).length ≤ 200 := by
  have h1 := texts_len o.ts h.tU
  have h2 := bulkT_le (n := 40) fun t ht => (h.t t ht).1
  have := h.tl
  omega
theorem ItFew.vLen {o : Itm} (h : ItFew o) : (o.vs.flatMap vecB).length ≤ 520 := by
  have h1 := vecs_len o.vs h.vU
  have h2 := bulkV_le (n := 12) fun t ht => (h.v t ht).1
  have := h.vl
  omega
theorem ItFew.len {o : Itm} (h : ItFew o) : (itB o).length ≤ 520 := by
  unfold itB
  split
  · have := h.xLen; omega
  split
  · have := h.tLen; omega
  · exact h.vLen
theorem ItFew.b8 {o : Itm} (h : ItFew o) : Bytes8 (itB o) := by
  have h8 := many_8 (xs := o.xs) (vs := o.vs) fun t ht => (h.t t ht).2
  unfold itB
  split
  · exact h8.1
  split
  · exact h8.2.1
  · exact h8.2.2
theorem its_len : ∀ {os : List Itm}, (∀ o ∈ os, ItFew o) → (os.flatMap itB).length ≤ 520 * os.length
  | [], _ => by simp
  | o :: os, h => by
    have h1 := (h o List.mem_cons_self).len
    have h2 := its_len fun x hx => h x (List.mem_cons_of_mem o hx)
    rw [List.flatMap_cons, List.length_append, List.length_cons]
    omega
theorem its_8 {os : List Itm} (h : ∀ o ∈ os, ItFew o) : Bytes8 (os.flatMap itB) := fun x hx => by
  obtain ⟨o, ho, hy⟩ := List.mem_flatMap.1 hx
  exact (h o ho).b8 x hy

/-- items that are kept read as a row of cells -/
theorem own_cells {w : World} {B e s n : Nat} {v : Value} {cs : List Value} (h : w.ownsRow B e s v n cs) : ∃ A c, v = .slice A n c ∧ Row (fun g => g < w.heap.size) w A cs := by
  rcases h.2 with ⟨rfl, e0⟩ | ⟨g, cap, cur, rfl, hg, hh, hnc, _, hcs, htake⟩
  · have : cs = [] := List.eq_nil_of_length_eq_zero (by have := h.1; rw [e0] at this; simpa using this)
    subst this e0
    exact ⟨none, 0, rfl, Row.nil⟩
  · exact ⟨_, cap, rfl, fun j hj => ⟨_, rfl, lt_of_block hh, lt_of_block hh, by rw [h.cells (g := g) rfl j cs[j] (by simp)]; simp [hj]⟩⟩

theorem Try.info32 : (Try.prog.info? 32).map (fun i => (i.zero, i.size, i.bytes)) = some (some (.agg #[.int .u8 0, .slice none 0 0, .slice none 0 0, .slice none 0 0, .int .i64 0]), 5, 88) := by kernel_rfl

set_option maxRecDepth 100000 in
set_option maxHeartbeats 400000 in
/-- NewReader, whose bytes lie in new memory. -/
theorem newReader_own (S : Nat → Prop) (A : Option Addr) (c : Nat) (l : List Int) (w : World) (hrow : Row S w A (u8s l)) (hl : l.length ≤ 70368744177664) :
    Calls Try.prog 15 #[.slice A l.length c] w fun e w' => ∃ b, e = .returned (.pointer (some ⟨b, 0, none⟩)) ∧ w.heap.size ≤ b ∧ (∃ A' c', w'.heap[b]? = some (.cells #[.slice A' l.length c', .int .i64 0] 61 (0, 0)) ∧ l.length ≤ c' ∧ Row (fun g => w.heap.size ≤ g ∧ g < b) w' A' (u8s l)) ∧ Below w.heap.size w w' := by
  obtain ⟨L, hL, hmk⟩ := run_make_u8 l.length hl
  have HL := Lib.hid hL
  clear hL
  go_enter Try.func15, Try.ntmps15
  go_wp2_with (with_reducible refine wpList_copy_splice rfl (.tmp 7) (.tmp 8) 25 25 rfl 5 Try.underlying25 Try.size5 (some ⟨w.heap.size, 0, none⟩) A l.length l.length l.length c rfl rfl w.heap.size 0 L 5 (heap_alloc_new w _) (u8s l) ?c1 ?c2 ?c3 ?c4 w.heap.size w ?c5 (Nat.le_refl _) ?_; rotate_right; intro w2 hg2 hb2)
  case c1 => rw [u8s_len]; exact (Nat.min_self _).symm
  case c2 => exact fun h0 => by simpa using (hrow.alloc _).cells h0
  case c3 => rw [u8s_len, HL.out]; omega
  case c4 => exact u8s_one l
  case c5 => exact (Below.refl _ _).alloc (Nat.le_refl _) _
  go_ret
  have hg3 := hg2.out
  rw [splice_all (by rw [u8s_len, HL.out])] at hg3
  have hlt := lt_of_block hg3
  exact ⟨w2.heap.size, rfl, hb2.size, ⟨_, l.length, heap_alloc_new w2 _, Nat.le_refl _, (Row.of_block hg3 ⟨Nat.le_refl _, hlt⟩).alloc _⟩, hb2.alloc hb2.size _⟩

end Go.Proofs.Ytlambcmikfihgaa
