/-
  Rows of hits of the call's own whose vectors may be written to: the contracts of CutVec, own, Hits and ref03's Hits once more.
-/
import Derived.Test.YtfhnhfppamnjhaaCutHits
namespace Go.Proofs.Ytfhnhfppamnjhaa
open Go.RowKit Go.Maps

/-- A slice whose block starts with it, and isn't frozen; of the block T holds. -/
def FreeA (T : Nat → Prop) (w : World) (A : Option Addr) : Prop := ∀ ad, A = some ad → ad = ⟨ad.block, 0, none⟩ ∧ T ad.block ∧ ad.block < w.heap.size ∧ ∀ i, w.frozen? ⟨ad.block, i, none⟩ = false
theorem FreeA.kept {T : Nat → Prop} {w w' : World} {A : Option Addr} (h : FreeA T w A) (hs : w.heap.size ≤ w'.heap.size) (hk : ∀ g, g < w.heap.size → T g → w'.heap[g]? = w.heap[g]?) : FreeA T w' A := fun ad e => by
  obtain ⟨h1, h2, h3, h4⟩ := h ad e
  exact ⟨h1, h2, by omega, fun i => (World.frozen?_of_block (w := w) (w' := w') (a := ⟨ad.block, i, none⟩) (hk _ h3 h2)).trans (h4 i)⟩
theorem FreeA.mono {T T' : Nat → Prop} {w : World} {A : Option Addr} (h : FreeA T w A) (hT : ∀ g, g < w.heap.size → T g → T' g) : FreeA T' w A := fun ad e => by
  obtain ⟨h1, h2, h3, h4⟩ := h ad e
  exact ⟨h1, hT _ h3 h2, h3, h4⟩
theorem freeA_own {w : World} {B n c : Nat} {e : TypeId} {A : Option Addr} {xs : List Value} (h : w.ownsRow B e 1 (.slice A n c) n xs) : FreeA (fun g => B ≤ g) w A := fun ad ea => by
  rcases h.2 with ⟨e0, _⟩ | ⟨g, cap, cur, e0, hg, hh, _⟩
  · injection e0 with e0 _ _
    rw [e0] at ea; cases ea
  · injection e0 with e0 _ _
    rw [e0] at ea
    injection ea with ea
    subst ea
    exact ⟨rfl, hg, lt_of_block hh, fun i => by simp [World.frozen?, hh]⟩
def FreeC (T : Nat → Prop) (w : World) (cs : List Value) : Prop := ∀ X n c, Value.slice X n c ∈ cs → FreeA T w X
theorem FreeC.kept {T T' : Nat → Prop} {w w' : World} {cs : List Value} (h : FreeC T w cs) (hs : w.heap.size ≤ w'.heap.size) (hk : ∀ g, g < w.heap.size → T g → w'.heap[g]? = w.heap[g]? ∧ T' g) : FreeC T' w' cs := fun X n c hx => by
  have h1 : FreeA (fun g => T g ∧ T' g) w X := (h X n c hx).mono fun g hg s => ⟨s, (hk g hg s).2⟩
  exact (h1.kept hs fun g hg s => (hk g hg s.1).1).mono fun g _ s => s.2
theorem FreeC.nil {T : Nat → Prop} {w : World} : FreeC T w [] := fun X n c hx => by cases hx
theorem FreeC.append {T : Nat → Prop} {w : World} {cs cs' : List Value} (h : FreeC T w cs) (h' : FreeC T w cs') : FreeC T w (cs ++ cs') := fun X n c hx => by
  rcases List.mem_append.1 hx with hx | hx
  · exact h X n c hx
  · exact h' X n c hx
theorem FreeC.one {T : Nat → Prop} {w : World} {i d : Int} {X : Option Addr} {n c : Nat} (h : FreeA T w X) : FreeC T w [.int .u64 i, .int .u64 d, .slice X n c] := fun Y m e hx => by
  simp at hx
  rw [hx.1]
  exact h

/-- A row of hits of the call's own, whose vectors may be written to. -/
def OwnF (w : World) (B : Nat) (v : Value) (hs : List Hit) : Prop :=
  ∃ cs, w.ownsRow B 36 3 v hs.length cs ∧ Cells3 (fun g => B ≤ g ∧ some g ≠ v.ownBlock) w cs hs ∧ FreeC (fun g => B ≤ g ∧ some g ≠ v.ownBlock) w cs
theorem OwnF.own {w : World} {B : Nat} {v : Value} {hs : List Hit} (h : OwnF w B v hs) : Own3 w B v hs := by
  obtain ⟨cs, h1, h2, _⟩ := h
  exact ⟨cs, h1, h2⟩
theorem OwnF.hits {w : World} {B : Nat} {v : Value} {hs : List Hit} (h : OwnF w B v hs) : ∃ A c, v = .slice A hs.length c ∧ hs.length ≤ c ∧ HitsAt (fun g => B ≤ g) w A hs := h.own.hits
theorem OwnF.start (w : World) : OwnF w w.heap.size (.slice none 0 0) [] := ⟨[], ⟨by simp, .inl ⟨rfl, rfl⟩⟩, Cells3.nil, FreeC.nil⟩
theorem OwnF.low {w : World} {B g : Nat} {v : Value} {hs : List Hit} (h : OwnF w B v hs) (hv : v.ownBlock = some g) : B ≤ g ∧ g < w.heap.size := h.own.low hv
theorem OwnF.below {w w' : World} {B : Nat} {v : Value} {hs : List Hit} (h : OwnF w B v hs) (hb : Below w.heap.size w w') : OwnF w' B v hs := by
  obtain ⟨cs, h1, h2, h3⟩ := h
  exact ⟨cs, own_kept (row := none) h1 ⟨hb.os, hb.tape, hb.output, hb.size, fun i hi _ => hb.block i hi⟩ (by simp), h2.kept hb.size fun g hg s => ⟨hb.block g hg, s⟩, h3.kept hb.size fun g hg s => ⟨hb.block g hg, s⟩⟩
theorem OwnF.alloc {w : World} {B : Nat} {v : Value} {hs : List Hit} (h : OwnF w B v hs) (o : Obj) : OwnF (w.alloc o) B v hs := h.below ((Below.refl _ _).alloc (Nat.le_refl _) _)
theorem OwnF.lower {w : World} {B B' : Nat} {v : Value} {hs : List Hit} (h : OwnF w B v hs) (hB : B' ≤ B) : OwnF w B' v hs := by
  obtain ⟨cs, ⟨hl, h1⟩, h2, h3⟩ := h
  refine ⟨cs, ⟨hl, ?_⟩, h2.kept (Nat.le_refl _) fun g _ s => ⟨rfl, Nat.le_trans hB s.1, s.2⟩, h3.kept (Nat.le_refl _) fun g _ s => ⟨rfl, Nat.le_trans hB s.1, s.2⟩⟩
  rcases h1 with h1 | ⟨g, cap, cur, e, hg, r⟩
  · exact .inl h1
  · exact .inr ⟨g, cap, cur, e, Nat.le_trans hB hg, r⟩
theorem OwnF.step {w w' : World} {B g cap : Nat} {v : Value} {hs : List Hit} {o : Obj} {cs : List Value} {h : Hit} {X : Option Addr} {c : Nat}
    (h2 : Cells3 (fun g => B ≤ g ∧ some g ≠ v.ownBlock) w cs hs) (hf : FreeC (fun g => B ≤ g ∧ some g ≠ v.ownBlock) w cs) (hc : h.2.2.length ≤ c) (hr : Row (fun g => B ≤ g ∧ some g ≠ v.ownBlock) w X (i32s h.2.2)) (hfx : FreeA (fun g => B ≤ g ∧ some g ≠ v.ownBlock) w X)
    (hown : w'.ownsRow B 36 3 (.slice (some ⟨g, 0, none⟩) (hs.length + 1) cap) (hs.length + 1) (cs ++ [.int .u64 h.1, .int .u64 h.2.1, .slice X h.2.2.length c])) (hgrow : (w.alloc o).grownBy w' v.ownBlock) (hat : v.ownBlock = some g ∨ g = w.heap.size + 1) :
    OwnF w' B (.slice (some ⟨g, 0, none⟩) (hs.length + 1) cap) (hs ++ [h]) := by
  refine ⟨_, by rw [List.length_append, List.length_singleton]; exact hown, ?_⟩
  have hsz : (w.alloc o).heap.size = w.heap.size + 1 := by simp
  have key : ∀ k, k < w.heap.size → (B ≤ k ∧ some k ≠ v.ownBlock) → w'.heap[k]? = w.heap[k]? ∧ (B ≤ k ∧ some k ≠ (Value.slice (some ⟨g, 0, none⟩) (hs.length + 1) cap).ownBlock) := fun k hk s => by
    refine ⟨?_, s.1, ?_⟩
    · rw [hgrow.block k (by omega) s.2, Below.heap_alloc _ _ _ hk]
    · intro e
      have e' : k = g := by simpa [Value.ownBlock] using e
      subst e'
      rcases hat with e | e
      · exact s.2 e.symm
      · omega
  exact ⟨(h2.append (Cells3.one h X c hc hr)).kept (by have := hgrow.size; omega) key, (hf.append (FreeC.one hfx)).kept (by have := hgrow.size; omega) key⟩

/-- New memory that reads as xs, and may be written to. -/
def GivesF (w : World) (k : List Value) (e : Ending) (w' : World) : Prop :=
  ∃ A c, e = .returned (.slice A k.length c) ∧ k.length ≤ c ∧ Row (fun g => w.heap.size ≤ g) w' A k ∧ FreeA (fun g => w.heap.size ≤ g) w' A ∧ Below w.heap.size w w'
def GaveHitsF (w : World) (hs : List Hit) (e : Ending) (w' : World) : Prop := ∃ v, e = .returned v ∧ OwnF w' w.heap.size v hs ∧ Below w.heap.size w w'
def GaveHitF (w : World) (h : Hit) (e : Ending) (w' : World) : Prop :=
  ∃ A c, e = .returned (.agg #[.int .u64 h.1, .int .u64 h.2.1, .slice A h.2.2.length c]) ∧ h.2.2.length ≤ c ∧ Row (fun g => w.heap.size ≤ g) w' A (i32s h.2.2) ∧ FreeA (fun g => w.heap.size ≤ g) w' A ∧ Below w.heap.size w w'

set_option maxRecDepth 100000 in
set_option maxHeartbeats 400000 in
theorem cutVecF_any (S : Nat → Prop) (A : Option Addr) (c n : Nat) (l : List Int) (w : World) (hrow : Row S w A (i32s l)) (hc : l.length ≤ c) (hl : l.length ≤ 9223372036854775807) (hn : n ≤ 17592186044416) :
    Calls Try.prog 22 #[.slice A l.length c, .int .i64 (n : Int)] w fun e w' => GivesF w (i32s (l.take n)) e w' := by
  obtain ⟨i0, hi, hz0, hz1, hz2⟩ := info_parts Try.info21
  have h0 : (w.alloc (.cells #[] 21)).ownsRow w.heap.size 21 1 (.slice (some ⟨w.heap.size, 0, none⟩) 0 0) 0 [] := World.ownsRow_lit w #[] 0 (Nat.le_refl _) (by decide) rfl
  have hrow1 := (hrow.alloc (.cells #[] 21)).take n
  have htl : ((i32s l).take n).length = min n l.length := by rw [List.length_take, i32s_len]
  have hut : (i32s l).take n = i32s (l.take n) := by simp [i32s]
  rw [hut] at hrow1 htl
  have h1c := i32s_one (l.take n)
  unfold GivesF
  generalize i32s (l.take n) = ys at *
  have fin : ∀ (v' : Value) (w' : World), w'.ownsRow w.heap.size 21 1 v' ys.length ys → (w.alloc (.cells #[] 21)).grownBy w' (some w.heap.size) →
      ∃ A c, Ending.returned v' = .returned (.slice A ys.length c) ∧ ys.length ≤ c ∧ Row (fun g => w.heap.size ≤ g) w' A ys ∧ FreeA (fun g => w.heap.size ≤ g) w' A ∧ Below w.heap.size w w' := by
    intro v' w' hown hgrow
    obtain ⟨A', c', rfl, hc', _, hr'⟩ := Row.of_own hown
    exact ⟨A', c', rfl, hc', hr'.mono fun g _ h => h.1, freeA_own hown, ((Below.refl _ _).alloc (Nat.le_refl _) _).grown hgrow (by simp) (fun k e => by injection e with e; omega)⟩
  clear hut
  by_cases h : l.length ≤ n
  · have hm : ys.length = l.length := by omega
    have HM := Lib.hid hm
    clear htl hm
    go_enter Try.func22, Try.ntmps22
    go_wp2_with (at_builtin; refine wpList_append_row _ rfl (.tmp 5) (.tmp 11) 34 rfl w.heap.size 21 i0 (.int .i32 0) 4 Try.underlying34 hi hz0 hz1 hz2 rfl _ 0 [] rfl h0 S A l.length c ys rfl HM.out hrow1 h1c ?c3 ?c4 ?c5 ?_; rotate_right; intro A' c' w' hown hgrow hat)
    case c3 => unfold maxLen; omega
    case c4 => omega
    case c5 => simp
    go_ret
    rw [Nat.zero_add] at hown
    exact fin _ w' (by rw [HM.out]; exact hown) hgrow
  · have hm : ys.length = n := by omega
    have HM := Lib.hid hm
    clear htl hm
    go_enter Try.func22, Try.ntmps22
    go_wp2_with (at_builtin; refine wpList_append_row _ rfl (.tmp 5) (.tmp 11) 34 rfl w.heap.size 21 i0 (.int .i32 0) 4 Try.underlying34 hi hz0 hz1 hz2 rfl _ 0 [] rfl h0 S A n c ys rfl HM.out hrow1 h1c ?d3 ?d4 ?d5 ?_; rotate_right; intro A' c' w' hown hgrow hat)
    case d3 => unfold maxLen; omega
    case d4 => omega
    case d5 => simp
    go_ret
    rw [Nat.zero_add] at hown
    exact fin _ w' (by rw [HM.out]; exact hown) hgrow

set_option maxRecDepth 100000 in
set_option maxHeartbeats 1000000 in
theorem ownF_any (S : Nat → Prop) (h : Hit) (X : Option Addr) (c : Nat) (w : World) (hr : Row S w X (i32s h.2.2)) (hl : h.2.2.length ≤ 1000) :
    Calls Try.prog 28 #[.agg #[.int .u64 h.1, .int .u64 h.2.1, .slice X h.2.2.length c]] w fun e w' => GaveHitF w h e w' := by
  obtain ⟨i0, hi, hz0, hz1, hz2⟩ := info_parts Try.info21
  unfold GaveHitF
  generalize h.1 = id at *
  generalize h.2.1 = dist at *
  generalize h.2.2 = l at *
  obtain ⟨w2, hw2⟩ : ∃ x, x = (w.alloc (.cells #[.int .u64 id, .int .u64 dist, .slice X l.length c] 36)).alloc (.cells #[.int .u64 0, .int .u64 0, .slice none 0 0] 36) := ⟨_, rfl⟩
  have hb2 : Below w.heap.size w w2 := by rw [hw2]; exact ((Below.refl _ _).alloc (Nat.le_refl _) _).alloc (by simp) _
  have hX : w2.heap[w.heap.size]? = some (.cells #[.int .u64 id, .int .u64 dist, .slice X l.length c] 36 (0, 0)) := by rw [hw2, Below.heap_alloc _ _ _ (by simp)]; exact heap_alloc_new w _
  have hY : w2.heap[w.heap.size + 1]? = some (.cells #[.int .u64 0, .int .u64 0, .slice none 0 0] 36 (0, 0)) := by
    rw [hw2]
    have := heap_alloc_new (w.alloc (.cells #[.int .u64 id, .int .u64 dist, .slice X l.length c] 36)) (.cells #[.int .u64 0, .int .u64 0, .slice none 0 0] 36)
    simpa using this
  have hs2 : w2.heap.size = w.heap.size + 2 := by rw [hw2]; simp
  have hr2 := hr.below hb2
  have hlen := i32s_len l
  have h1c := i32s_one l
  have x2 := three_cell2 hX
  have HX := Lib.hid hX
  have HY := Lib.hid hY
  have HB2 := Lib.hid hb2
  have HLEN := Lib.hid hlen
  clear hX hY hb2 hlen hr
  have hown0 : w2.ownsRow w2.heap.size 21 1 (.slice none 0 0) 0 [] := World.ownsRow_nil w2 _ 21 1
  have HR2 := Lib.hid hr2
  clear hr2
  have HL1 : Hid (w.heap.size < w2.heap.size) := by show _ < _; omega
  have HL2 : Hid (w.heap.size + 1 < w2.heap.size) := by show _ < _; omega
  have HNO : Hid (∀ g : Nat, some g ≠ (Value.slice none 0 0).ownBlock) := fun g => by simp [Value.ownBlock]
  have HS2 := Lib.hid hs2
  clear hs2
  subst hw2
  go_enter Try.func28, Try.ntmps28
  go_wp2_with (at_builtin; refine wpList_append_row _ rfl (.const (.slice none 0 0)) (.tmp 4) 34 rfl _ 21 i0 (.int .i32 0) 4 Try.underlying34 hi hz0 hz1 hz2 rfl _ 0 [] rfl hown0 S X l.length c (i32s l) rfl HLEN.out HR2.out h1c ?c3 ?c4 ?c5 ?_; rotate_right; intro A' c' w' hown hgrow hat; have hX' := (hgrow.block _ HL1.out (HNO.out _)).trans HX.out; have hY' := (hgrow.block _ HL2.out (HNO.out _)).trans HY.out; have x0' := three_cell0 hX'; have x1' := three_cell1 hX'; have x2' := three_cell2 hX'; have f2 := three_free (k := 2) hX'; have y0 := three_cell0 hY'; have y1 := three_cell1 hY'; have y2 := three_cell2 hY'; have p0 := three_free (k := 0) hY'; have p1 := three_free (k := 1) hY'; have p2 := three_free (k := 2) hY'; have HX' := Lib.hid hX'; have HY' := Lib.hid hY'; have HOWN := Lib.hid hown; have HGROW := Lib.hid hgrow; clear hX' hY' hown hgrow hat)
  case c3 => unfold maxLen; omega
  case c4 => omega
  case c5 => exact Nat.le_refl _
  rw [Nat.zero_add] at HOWN
  obtain ⟨w9, hw9⟩ : ∃ x, x = (((w'.setCell ⟨w.heap.size, 2, none⟩ (.slice A' l.length c')).setCell ⟨w.heap.size + 1, 0, none⟩ (.int .u64 id)).setCell ⟨w.heap.size + 1, 1, none⟩ (.int .u64 dist)).setCell ⟨w.heap.size + 1, 2, none⟩ (.slice A' l.length c') := ⟨_, rfl⟩
  have hk9 : ∀ g, g ≠ w.heap.size → g ≠ w.heap.size + 1 → w9.heap[g]? = w'.heap[g]? := fun g g1 g2 => by rw [hw9, Below.heap_setCell _ _ _ _ g2, Below.heap_setCell _ _ _ _ g2, Below.heap_setCell _ _ _ _ g2, Below.heap_setCell _ _ _ _ g1]
  have hs9 : w9.heap.size = w'.heap.size := by rw [hw9]; simp only [set_size]
  have hg2 := HGROW.out
  have hb9 : Below w.heap.size w w9 := by
    have hb2 := HB2.out
    refine ⟨?_, ?_, ?_, by rw [hs9]; exact Nat.le_trans hb2.size hg2.size, fun k hk => ?_⟩
    · rw [hw9]; simp only [set_os]; exact hg2.os.trans hb2.os
    · rw [hw9]; simp only [set_tape]; exact hg2.tape.trans hb2.tape
    · rw [hw9]; simp only [set_output]; exact hg2.output.trans hb2.output
    · rw [hk9 k (by omega) (by omega), hg2.block k (by have := HS2.out; omega) (HNO.out k)]
      exact hb2.block k hk
  obtain ⟨A5, c5, e5, hc5, _, hr5⟩ := Row.of_own HOWN.out
  injection e5 with e51 e52 e53
  subst e51 e53
  have hr9 : Row (fun g => w.heap.size ≤ g) w9 A' (i32s l) := (hr5.kept (by omega) fun g _ s => hk9 g (by have := HS2.out; omega) (by have := HS2.out; omega)).mono fun g _ s => by have := HS2.out; omega
  have hf9 : FreeA (fun g => w.heap.size ≤ g) w9 A' := ((freeA_own HOWN.out).kept (by omega) fun g _ s => hk9 g (by have := HS2.out; omega) (by have := HS2.out; omega)).mono fun g _ s => by have := HS2.out; omega
  have hY9 : w9.heap[w.heap.size + 1]? = some (.cells #[.int .u64 id, .int .u64 dist, .slice A' l.length c'] 36 (0, 0)) := by
    rw [hw9]
    exact three_set2 (three_set1 (three_set0 ((Below.heap_setCell _ _ _ _ (by simp)).trans HY'.out)))
  have z0 := three_cell0 hY9
  have z1 := three_cell1 hY9
  have z2 := three_cell2 hY9
  rw [← hw9]
  have HG : Hid (l.length ≤ c' ∧ Row (fun g => w.heap.size ≤ g) w9 A' (i32s l) ∧ FreeA (fun g => w.heap.size ≤ g) w9 A' ∧ Below w.heap.size w w9) := ⟨hc5, hr9, hf9, hb9⟩
  clear hw9 hs9 hk9 hb9 hr9 hf9 hr5 hg2 hY9 x0' x1' x2' f2 y0 y1 y2 p0 p1 p2
  refine bodyPost_ret (v := .agg #[.int .u64 id, .int .u64 dist, .slice A' l.length c']) (by simp [results, Try.results28, go_sem, z0, z1, z2]) rfl ?_
  exact ⟨A', c', rfl, HG.out.1, HG.out.2.1, HG.out.2.2.1, HG.out.2.2.2⟩

set_option maxRecDepth 100000 in
set_option maxHeartbeats 1000000 in
theorem hitsF_any (B b mb n most : Nat) (v : Value) (hs : List Hit) (w : World) (L : Lst w B b mb n v most hs) (hlen : hs.length ≤ 1000) (hw : ∀ x ∈ hs, Wf x) :
    Calls Try.prog 16 #[.pointer (some ⟨b, 0, none⟩)] w fun e w' => GaveHitsF w hs e w' := by
  obtain ⟨i0, hi0, hz0, hz1, hz2⟩ := info_parts Try.info36
  obtain ⟨c0, c1, c2⟩ := L.cells
  obtain ⟨A, ca, rfl, hca, hat⟩ := L.hits
  have HAT := Lib.hid hat
  have HW := Lib.hid hw
  have hlb := L.lt.1
  clear L hat hw
  obtain ⟨wm, hmk, hown0, hgr0⟩ := run_make_own (P := Try.prog) w w.heap.size 29 36 i0 _ 3 Try.underlying29 hi0 hz0 hz1 .i64 .i64 hs.length (by rw [hz2]; omega) (by unfold maxLen; omega) (Nat.le_refl _)
  have hbm : Below w.heap.size w wm := ⟨hgr0.os, hgr0.tape, hgr0.output, hgr0.size, fun k hk => hgr0.block k hk (by simp)⟩
  have c1m := (hbm.cell (p := ⟨b, 1, none⟩) hlb).trans c1
  have HOS : Hid (OwnF wm w.heap.size (.slice (some ⟨w.heap.size, 0, none⟩) 0 hs.length) []) := ⟨[], hown0, Cells3.nil, FreeC.nil⟩
  clear hown0 hgr0
  go_enter Try.func16, Try.ntmps16
  go_wp2_with fail
  go_loopw [3, 5, 19] (fun v _ i wr => ∃ k : Nat, k ≤ hs.length ∧ i = .int .i64 k ∧ OwnF wr w.heap.size v (hs.take k) ∧ Below w.heap.size w wr) (fun _ _ i _ => hs.length - (intOf i).toNat)
  case atStart => exact ⟨0, Nat.zero_le _, rfl, by simpa using HOS.out, hbm⟩
  case round =>
    obtain ⟨k, hk, rfl, hown, hbl⟩ := hrel
    by_cases hlt : k < hs.length
    · obtain ⟨ad, rfl, hj1, hadl, g0, g1, Y, cy, g2, hj2, hrow⟩ := (HAT.out.kept hbl.size (fun g hg _ => hbl.block g hg)) k hlt
      have i1 : (k : Int) < (hs.length : Int) := by omega
      have hvl := (HW.out _ (List.getElem_mem hlt)).2.2
      have HT := Lib.hid (show hs.take (k + 1) = hs.take k ++ [hs[k]] from List.take_succ_eq_append_getElem hlt)
      have HLN := Lib.hid (show (hs.take k).length = k by rw [List.length_take]; omega)
      obtain ⟨wa, hwa⟩ : ∃ x, x = wr.alloc (.cells #[.int .u64 hs[k].1, .int .u64 hs[k].2.1, .slice Y hs[k].2.2.length cy] 36) := ⟨_, rfl⟩
      have hba : Below w.heap.size w wa := by rw [hwa]; exact hbl.alloc hbl.size _
      have hsa : wr.heap.size < wa.heap.size := by rw [hwa]; simp
      have hoa : OwnF wa w.heap.size u3 (hs.take k) := by rw [hwa]; exact hown.alloc _
      have HO := Lib.hid (ownF_any _ hs[k] Y cy wa (by rw [hwa]; exact hrow.alloc _) hvl)
      generalize hs.take k = os at *
      clear hrow hj1 hj2 hown hbl
      obtain ⟨cs, hcs, hce, hfc⟩ := hoa
      have HFC := Lib.hid hfc
      have HG0 : Hid (∀ g, u3.ownBlock = some g → w.heap.size ≤ g ∧ g < wa.heap.size) := fun g hg => own_lt hcs hg
      have HCS := Lib.hid hcs
      have HCE := Lib.hid hce
      have HBA := Lib.hid hba
      have hbase0 : w.heap.size ≤ wa.heap.size := hba.size
      have hol : os.length ≤ 1000 := by have := HLN.out; omega
      clear hcs hce hba hfc
      go_wp2_with fail
      rw [← hwa]
      refine (HO.out).mono ?_
      rintro e w5 ⟨A5, c5, rfl, hc5, r5, fr5, hb5⟩
      have hs5 : wa.heap.size ≤ w5.heap.size := hb5.size
      have hcs5 : w5.ownsRow w.heap.size 36 3 u3 os.length cs := own_below HCS.out hb5
      have h2 : Cells3 (fun g => w.heap.size ≤ g ∧ some g ≠ u3.ownBlock) w5 cs os := HCE.out.kept hs5 fun g hg s => ⟨hb5.block g hg, s⟩
      have h3 : Row (fun g => w.heap.size ≤ g ∧ some g ≠ u3.ownBlock) w5 A5 (i32s hs[k].2.2) := r5.mono fun g _ hg => ⟨Nat.le_trans hbase0 hg, fun e => by have h4 := (HG0.out g e.symm).2; exact absurd h4 (Nat.not_lt.2 hg)⟩
      have h4 : FreeC (fun g => w.heap.size ≤ g ∧ some g ≠ u3.ownBlock) w5 cs := HFC.out.kept hs5 fun g hg s => ⟨hb5.block g hg, s⟩
      have h5 : FreeA (fun g => w.heap.size ≤ g ∧ some g ≠ u3.ownBlock) w5 A5 := fr5.mono fun g _ hg => ⟨Nat.le_trans hbase0 hg, fun e => by have h4 := (HG0.out g e.symm).2; exact absurd h4 (Nat.not_lt.2 hg)⟩
      have hb5w : Below w.heap.size w w5 := HBA.out.trans (hb5.mono hbase0)
      have HB5 := Lib.hid hb5w
      have HR5 := Lib.hid hcs5
      have HST := fun (w6 : World) (gg cap : Nat) (o : Obj) (ho6) (hg6 : (w5.alloc o).grownBy w6 u3.ownBlock) (ha6 : u3.ownBlock = some gg ∨ gg = w5.heap.size + 1) => OwnF.step (B := w.heap.size) (cap := cap) h2 h4 hc5 h3 h5 ho6 hg6 ha6
      have HSTEP := Lib.hid HST
      clear HST h2 h3 h4 h5 fr5 r5 hb5 hcs5 hwa HO HCS HCE hb5w
      generalize hs[k].1 = xi at *
      generalize hs[k].2.1 = xd at *
      go_wp2_with (at_builtin; refine wpList_append_lies _ rfl _ _ 29 rfl w.heap.size 36 i0 _ 3 40 Try.underlying29 hi0 hz0 hz1 hz2 rfl (by omega) u3 os.length cs rfl (HR5.out.alloc _) ⟨w5.heap.size, 0, none⟩ 1 1 [.int .u64 xi, .int .u64 xd, .slice A5 hs[k].2.2.length c5] rfl rfl (World.news_of_block (cs := #[.int .u64 xi, .int .u64 xd, .slice A5 hs[k].2.2.length c5]) (t := 36) (fr := (0, 0)) (heap_alloc_new w5 _)) (by simp [Value.oneCell']) (by omega) (by unfold maxLen; omega) (by omega) (by simp; omega) (w5.heap.size + 1) (by simp) ?_; intro gg cap w6 hown6 hgrow6 hat6 hlt6)
      have hb6 : Below w.heap.size w w6 := (HB5.out.alloc HB5.out.size _).grown hgrow6 (by simp; omega) (fun g hg => (HG0.out g hg).1)
      have hO6 := HSTEP.out w6 gg cap _ hown6 hgrow6 hat6
      rw [← HT.out] at hO6
      go_roundw
      case rel => exact ⟨k + 1, by omega, by go_num, hO6, hb6⟩
      case measure => simp [intOf]; omega
    · have i1 : ¬ (k : Int) < (hs.length : Int) := by omega
      have HF := Lib.hid (show OwnF wr w.heap.size u3 hs by rw [List.take_of_length_le (by omega)] at hown; exact hown)
      clear hown
      go_wp2_with fail
      go_ret
      exact ⟨_, rfl, HF.out, hbl⟩

set_option maxRecDepth 100000 in
set_option maxHeartbeats 1000000 in
theorem cutHitsF_any (S : Nat → Prop) (A : Option Addr) (c n : Nat) (hs : List Hit) (w : World) (h : HitsAt S w A hs) (hl : hs.length ≤ 9223372036854775807) (hv : ∀ o ∈ hs, o.2.2.length ≤ 9223372036854775807) (hn : n ≤ 1000) :
    Calls Try.prog 11 #[.slice A hs.length c, .int .i64 (n : Int)] w fun e w' => GaveHitsF w ((hs.take n).map cutHit) e w' := by
  obtain ⟨i0, hi0, hz0, hz1, hz2⟩ := info_parts Try.info36
  go_enter Try.func11, Try.ntmps11
  go_wp2_with fail
  go_loopw [5, 6, 7, 10] (fun v _ _ i wr => ∃ k : Nat, k ≤ hs.length ∧ i = .int .i64 k ∧ OwnF wr w.heap.size v ((hs.take (min k n)).map cutHit) ∧ Below w.heap.size w wr) (fun _ _ _ i _ => hs.length - (intOf i).toNat)
  case atStart => exact ⟨0, Nat.zero_le _, rfl, by simpa using OwnF.start w, Below.refl _ _⟩
  case round =>
    obtain ⟨k, hk, rfl, hown, hbl⟩ := hrel
    by_cases hlt : k < hs.length
    · obtain ⟨ad, rfl, _, hlt2, hc0, hc1, X, cx, hc2, hcx, hrow⟩ := (h.below hbl) k hlt
      have i1 : (k : Int) < (hs.length : Int) := by omega
      have hvl := hv _ (List.getElem_mem hlt)
      by_cases hkn : (k : Int) < (n : Int)
      · have HT := Lib.hid (show (hs.take (min (k + 1) n)).map cutHit = (hs.take (min k n)).map cutHit ++ [(hs[k].1, hs[k].2.1, hs[k].2.2.take 8)] by
          rw [show min (k + 1) n = k + 1 by omega, show min k n = k by omega, List.take_succ_eq_append_getElem hlt, List.map_append]; rfl)
        have HLN := Lib.hid (show ((hs.take (min k n)).map cutHit).length = k by rw [List.length_map, List.length_take]; omega)
        generalize (hs.take (min k n)).map cutHit = os at *
        generalize hs[k].1 = id at *
        generalize hs[k].2.1 = dist at *
        generalize hs[k].2.2 = vec at *
        clear h hv
        go_wp2_with fail
        obtain ⟨wa, hwa⟩ : ∃ x, x = wr.alloc (.cells #[.int .u64 id, .int .u64 dist, .slice X vec.length cx] 36) := ⟨_, rfl⟩
        have ha0 : wa.cell? ⟨wr.heap.size, 0, none⟩ = some (.int .u64 id) := by rw [hwa]; go_simp
        have ha1 : wa.cell? ⟨wr.heap.size, 1, none⟩ = some (.int .u64 dist) := by rw [hwa]; go_simp
        have ha2 : wa.cell? ⟨wr.heap.size, 2, none⟩ = some (.slice X vec.length cx) := by rw [hwa]; go_simp
        have hba : Below w.heap.size w wa := by rw [hwa]; exact hbl.alloc hbl.size _
        have hoa : OwnF wa w.heap.size u5 os := by rw [hwa]; exact hown.alloc _
        have hra : Row S wa X (i32s vec) := by rw [hwa]; exact hrow.alloc _
        have hlt0 : wr.heap.size < wa.heap.size := by rw [hwa]; simp
        have hne : some wr.heap.size ≠ u5.ownBlock := fun e => by have := hown.low e.symm; omega
        rw [← hwa]
        clear hwa hc0 hc1 hc2 hown hrow hbl hlt2
        generalize wr.heap.size = b0 at *
        have HC : Hid (Calls Try.prog 22 #[.slice X vec.length cx, .int .i64 8] wa.drew fun e w' => GivesF wa.drew (i32s (vec.take 8)) e w') := cutVecF_any S X cx 8 vec wa.drew hra hcx hvl (by decide)
        have HV := Lib.hid (i32s_len (vec.take 8))
        obtain ⟨cs, hcs, hce, hfc⟩ := hoa
        have HFC := Lib.hid hfc
        have hg0 : ∀ g, u5.ownBlock = some g → w.heap.size ≤ g ∧ g < wa.heap.size := fun g hg => own_lt hcs hg
        have HG0 := Lib.hid hg0
        have HCE := Lib.hid hce
        clear hg0 hra hce hfc
        generalize vec.take 8 = vt at *
        have hn1 : os.length + 1 ≤ 1001 := by have := HLN.out; omega
        have hbase0 : w.heap.size ≤ wa.heap.size := hba.size
        go_region_held3 (fun w' => w'.cell? ⟨b0, 0, none⟩ = some (.int .u64 id) ∧ w'.cell? ⟨b0, 1, none⟩ = some (.int .u64 dist) ∧ w'.cell? ⟨b0, 2, none⟩ = some (.slice X vec.length cx)) (first | exact ⟨ha0, ha1, ha2⟩ | exact ⟨hk0, hk1, hk2⟩ | exact ⟨hm0, hm1, hm2⟩ | exact ⟨hn0, hn2, hn3⟩)
          (first
            | (go_at_call 22; refine (HC.out).mono ?_; rintro e w5 ⟨A5, c5, rfl, hc5, r5, fr5, hb5⟩; rw [HV.out] at hc5 ⊢; have hk0 := (hb5.cell (p := ⟨b0, 0, none⟩) (by exact hlt0)).trans ha0; have hk1 := (hb5.cell (p := ⟨b0, 1, none⟩) (by exact hlt0)).trans ha1; have hk2 := (hb5.cell (p := ⟨b0, 2, none⟩) (by exact hlt0)).trans ha2;
               have hs5 : wa.heap.size ≤ w5.heap.size := hb5.size;
               have hm0 := (World.cell?_alloc_lt w5 (.cells #[.int .u64 id, .int .u64 dist, .slice A5 vt.length c5] 36) ⟨b0, 0, none⟩ (show b0 < w5.heap.size by omega)).trans hk0; have hm1 := (World.cell?_alloc_lt w5 (.cells #[.int .u64 id, .int .u64 dist, .slice A5 vt.length c5] 36) ⟨b0, 1, none⟩ (show b0 < w5.heap.size by omega)).trans hk1; have hm2 := (World.cell?_alloc_lt w5 (.cells #[.int .u64 id, .int .u64 dist, .slice A5 vt.length c5] 36) ⟨b0, 2, none⟩ (show b0 < w5.heap.size by omega)).trans hk2;
               have hcs5 : w5.ownsRow w.heap.size 36 3 u5 os.length cs := own_kept (row := none) hcs ⟨hb5.os, hb5.tape, hb5.output, hb5.size, fun i hi _ => hb5.block i hi⟩ (by simp))
            | (refine step_append_lies _ (by rfl) _ _ _ (by rfl) w.heap.size 36 i0 _ 3 40 Try.underlying29 hi0 hz0 hz1 hz2 rfl (by omega) u5 os.length cs (by rfl) (hcs5.alloc _) ⟨w5.heap.size, 0, none⟩ 1 1 [.int .u64 id, .int .u64 dist, .slice A5 vt.length c5] (by rfl) (by rfl)
                (World.news_of_block (cs := #[.int .u64 id, .int .u64 dist, .slice A5 vt.length c5]) (t := 36) (fr := (0, 0)) (heap_alloc_new w5 _)) (by simp [Value.oneCell']) (by omega) (by unfold maxLen; omega) (by omega) (by simp; omega) (w5.heap.size + 1) (by simp) ?_; intro gg cap w6 hown6 hgrow6 hat6 hlt6; have hn0 := (hgrow6.cell_far ⟨b0, 0, none⟩ (by simp; omega) hne).trans hm0; have hn2 := (hgrow6.cell_far ⟨b0, 1, none⟩ (by simp; omega) hne).trans hm1; have hn3 := (hgrow6.cell_far ⟨b0, 2, none⟩ (by simp; omega) hne).trans hm2))
        have hb56 : Below w.heap.size w w6 := ((hba.drew.trans (hb5.mono hbase0)).alloc (by omega) _).grown hgrow6 (by simp; omega) (fun g hg => (HG0.out g hg).1)
        have h2 : Cells3 (fun g => w.heap.size ≤ g ∧ some g ≠ u5.ownBlock) w5 cs os := HCE.out.kept hs5 fun g hg s => ⟨hb5.block g hg, s⟩
        have h3 : Row (fun g => w.heap.size ≤ g ∧ some g ≠ u5.ownBlock) w5 A5 (i32s vt) := r5.mono fun g _ hg => ⟨Nat.le_trans hbase0 hg, fun e => by have h4 := (HG0.out g e.symm).2; exact absurd h4 (Nat.not_lt.2 hg)⟩
        have h4 : FreeC (fun g => w.heap.size ≤ g ∧ some g ≠ u5.ownBlock) w5 cs := HFC.out.kept hs5 fun g hg s => ⟨hb5.block g hg, s⟩
        have h5 : FreeA (fun g => w.heap.size ≤ g ∧ some g ≠ u5.ownBlock) w5 A5 := fr5.mono fun g _ hg => ⟨Nat.le_trans hbase0 hg, fun e => by have h4 := (HG0.out g e.symm).2; exact absurd h4 (Nat.not_lt.2 hg)⟩
        have HO := Lib.hid (OwnF.step (h := (id, dist, vt)) h2 h4 hc5 h3 h5 hown6 hgrow6 hat6)
        clear hown6 hgrow6 hat6 hn0 hn2 hn3 hm0 hm1 hm2 hk0 hk1 hk2 h2 h3 h4 h5 fr5 hcs5 hcs r5 hb5
        go_wp2_with fail
        go_roundw
        case rel => exact ⟨k + 1, by omega, by go_num, by rw [HT.out]; exact HO.out, hb56⟩
        case measure => simp [intOf]; omega
      · have HT := Lib.hid (show min (k + 1) n = min k n by omega)
        generalize hs[k].1 = id at *
        generalize hs[k].2.1 = dist at *
        generalize hs[k].2.2 = vec at *
        clear h hv
        go_wp2_with fail
        go_roundw
        case rel => exact ⟨k + 1, by omega, by go_num, by rw [HT.out]; exact hown.alloc _, hbl.alloc hbl.size _⟩
        case measure => simp [intOf]; omega
    · have HT := Lib.hid (show (hs.take (min k n)) = hs.take n by
        rcases Nat.le_total n k with h1 | h1
        · rw [Nat.min_eq_right h1]
        · rw [Nat.min_eq_left h1, List.take_of_length_le (by omega), List.take_of_length_le (by omega)])
      have HF := Lib.hid (show OwnF wr w.heap.size u5 ((hs.take n).map cutHit) by rw [← HT.out]; exact hown)
      have i1 : ¬ (k : Int) < (hs.length : Int) := by omega
      go_wp2_with fail
      go_ret
      exact ⟨_, rfl, by first | exact HF.out | (have h := HF.out; rw [List.map_take] at h; exact h), hbl⟩


end Go.Proofs.Ytfhnhfppamnjhaa
