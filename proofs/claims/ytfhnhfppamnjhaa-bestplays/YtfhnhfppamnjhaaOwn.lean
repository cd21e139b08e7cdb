/-
  The contract of own: the hit with a vector of its own.
-/
import Derived.Test.YtfhnhfppamnjhaaSearch
namespace Go.Proofs.Ytfhnhfppamnjhaa
open Go.RowKit Go.Maps

theorem three_cell0 {w : World} {b : Nat} {x y z : Value} {t : TypeId} (h : w.heap[b]? = some (.cells #[x, y, z] t (0, 0))) : w.cell? ⟨b, 0, none⟩ = some x := by simp [World.cell?, h]
theorem three_cell1 {w : World} {b : Nat} {x y z : Value} {t : TypeId} (h : w.heap[b]? = some (.cells #[x, y, z] t (0, 0))) : w.cell? ⟨b, 1, none⟩ = some y := by simp [World.cell?, h]
theorem three_cell2 {w : World} {b : Nat} {x y z : Value} {t : TypeId} (h : w.heap[b]? = some (.cells #[x, y, z] t (0, 0))) : w.cell? ⟨b, 2, none⟩ = some z := by simp [World.cell?, h]
theorem three_free {w : World} {b k : Nat} {x y z : Value} {t : TypeId} (h : w.heap[b]? = some (.cells #[x, y, z] t (0, 0))) : w.frozen? ⟨b, k, none⟩ = false := by simp [World.frozen?, h]
theorem three_set0 {w : World} {b : Nat} {x y z a : Value} {t : TypeId} (h : w.heap[b]? = some (.cells #[x, y, z] t (0, 0))) : (w.setCell ⟨b, 0, none⟩ a).heap[b]? = some (.cells #[a, y, z] t (0, 0)) := by simp [World.setCell, Array.getElem?_modify, h]
theorem three_set1 {w : World} {b : Nat} {x y z a : Value} {t : TypeId} (h : w.heap[b]? = some (.cells #[x, y, z] t (0, 0))) : (w.setCell ⟨b, 1, none⟩ a).heap[b]? = some (.cells #[x, a, z] t (0, 0)) := by simp [World.setCell, Array.getElem?_modify, h]
theorem three_set2 {w : World} {b : Nat} {x y z a : Value} {t : TypeId} (h : w.heap[b]? = some (.cells #[x, y, z] t (0, 0))) : (w.setCell ⟨b, 2, none⟩ a).heap[b]? = some (.cells #[x, y, a] t (0, 0)) := by simp [World.setCell, Array.getElem?_modify, h]
theorem set_os (w : World) (a : Addr) (v : Value) : (w.setCell a v).os = w.os := rfl
theorem set_tape (w : World) (a : Addr) (v : Value) : (w.setCell a v).tape = w.tape := rfl
theorem set_output (w : World) (a : Addr) (v : Value) : (w.setCell a v).output = w.output := rfl
theorem set_size (w : World) (a : Addr) (v : Value) : (w.setCell a v).heap.size = w.heap.size := by simp [World.setCell]

/-- The same hit, its vector in new memory. -/
def GaveHit (w : World) (h : Hit) (e : Ending) (w' : World) : Prop :=
  ∃ A c, e = .returned (.agg #[.int .u64 h.1, .int .u64 h.2.1, .slice A h.2.2.length c]) ∧ h.2.2.length ≤ c ∧ Row (fun g => w.heap.size ≤ g) w' A (i32s h.2.2) ∧ Below w.heap.size w w'

set_option maxRecDepth 100000 in
set_option maxHeartbeats 1000000 in
theorem own_any (S : Nat → Prop) (h : Hit) (X : Option Addr) (c : Nat) (w : World) (hr : Row S w X (i32s h.2.2)) (hl : h.2.2.length ≤ 1000) :
    Calls Try.prog 28 #[.agg #[.int .u64 h.1, .int .u64 h.2.1, .slice X h.2.2.length c]] w fun e w' => GaveHit w h e w' := by
  obtain ⟨i0, hi, hz0, hz1, hz2⟩ := info_parts Try.info21
  unfold GaveHit
  generalize h.1 = id at *
  generalize h.2.1 = dist at *
  generalize h.2.2 = l at *
  obtain ⟨w2, hw2⟩ : ∃ x, x = (w.alloc (.cells #[.int .u64 id, .int .u64 dist, .slice X l.length c] 36)).alloc (.cells #[.int .u64 0, .int .u64 0, .slice none 0 0] 36) := ⟨_, rfl⟩
  have hb2 : Below w.heap.size w w2 := by rw [hw2]; exact ((Below.refl _ _).alloc (Nat.le_refl _) _).alloc (by simp) _
  have hX : w2.heap[w.heap.size]? = some (.cells #[.int .u64 id, .int .u64 dist, .slice X l.length c] 36 (0, 0)) := by rw [hw2, Below.heap_alloc _ _ _ (by simp)]; exact heap_alloc_new w _
  have hY : w2.heap[w.heap.size + 1]? = some (.cells #[.int .u64 0, .int .u64 0, .slice none 0 0] 36 (0, 0)) := by
    rw [hw2]
    have := heap_alloc_new (w.alloc (.cells #[.int .u64 id, .int .u64 dist, .slice X l.length c] 36)) (.cells #[.int .u64 0, .int .u64 0, .slice none 0 0] 36)
    simpa using this
  have hs2 : w2.heap.size = w.heap.size + 2 := by rw [hw2]; simp
  have hr2 := hr.below hb2
  have hlen := i32s_len l
  have h1c := i32s_one l
  have x2 := three_cell2 hX
  have HX := Lib.hid hX
  have HY := Lib.hid hY
  have HB2 := Lib.hid hb2
  have HLEN := Lib.hid hlen
  clear hX hY hb2 hlen hr
  have hown0 : w2.ownsRow w2.heap.size 21 1 (.slice none 0 0) 0 [] := World.ownsRow_nil w2 _ 21 1
  have HR2 := Lib.hid hr2
  clear hr2
  have HL1 : Hid (w.heap.size < w2.heap.size) := by show _ < _; omega
  have HL2 : Hid (w.heap.size + 1 < w2.heap.size) := by show _ < _; omega
  have HNO : Hid (∀ g : Nat, some g ≠ (Value.slice none 0 0).ownBlock) := fun g => by simp [Value.ownBlock]
  have HS2 := Lib.hid hs2
  clear hs2
  subst hw2
  go_enter Try.func28, Try.ntmps28
  go_wp2_with (at_builtin; refine wpList_append_row _ rfl (.const (.slice none 0 0)) (.tmp 4) 34 rfl _ 21 i0 (.int .i32 0) 4 Try.underlying34 hi hz0 hz1 hz2 rfl _ 0 [] rfl hown0 S X l.length c (i32s l) rfl HLEN.out HR2.out h1c ?c3 ?c4 ?c5 ?_; rotate_right; intro A' c' w' hown hgrow hat; have hX' := (hgrow.block _ HL1.out (HNO.out _)).trans HX.out; have hY' := (hgrow.block _ HL2.out (HNO.out _)).trans HY.out; have x0' := three_cell0 hX'; have x1' := three_cell1 hX'; have x2' := three_cell2 hX'; have f2 := three_free (k := 2) hX'; have y0 := three_cell0 hY'; have y1 := three_cell1 hY'; have y2 := three_cell2 hY'; have p0 := three_free (k := 0) hY'; have p1 := three_free (k := 1) hY'; have p2 := three_free (k := 2) hY'; have HX' := Lib.hid hX'; have HY' := Lib.hid hY'; have HOWN := Lib.hid hown; have HGROW := Lib.hid hgrow; clear hX' hY' hown hgrow hat)
  case c3 => unfold maxLen; omega
  case c4 => omega
  case c5 => exact Nat.le_refl _
  rw [Nat.zero_add] at HOWN
  obtain ⟨w9, hw9⟩ : ∃ x, x = (((w'.setCell ⟨w.heap.size, 2, none⟩ (.slice A' l.length c')).setCell ⟨w.heap.size + 1, 0, none⟩ (.int .u64 id)).setCell ⟨w.heap.size + 1, 1, none⟩ (.int .u64 dist)).setCell ⟨w.heap.size + 1, 2, none⟩ (.slice A' l.length c') := ⟨_, rfl⟩
  have hk9 : ∀ g, g ≠ w.heap.size → g ≠ w.heap.size + 1 → w9.heap[g]? = w'.heap[g]? := fun g g1 g2 => by rw [hw9, Below.heap_setCell _ _ _ _ g2, Below.heap_setCell _ _ _ _ g2, Below.heap_setCell _ _ _ _ g2, Below.heap_setCell _ _ _ _ g1]
  have hs9 : w9.heap.size = w'.heap.size := by rw [hw9]; simp only [set_size]
  have hg2 := HGROW.out
  have hb9 : Below w.heap.size w w9 := by
    have hb2 := HB2.out
    refine ⟨?_, ?_, ?_, by rw [hs9]; exact Nat.le_trans hb2.size hg2.size, fun k hk => ?_⟩
    · rw [hw9]; simp only [set_os]; exact hg2.os.trans hb2.os
    · rw [hw9]; simp only [set_tape]; exact hg2.tape.trans hb2.tape
    · rw [hw9]; simp only [set_output]; exact hg2.output.trans hb2.output
    · rw [hk9 k (by omega) (by omega), hg2.block k (by have := HS2.out; omega) (HNO.out k)]
      exact hb2.block k hk
  obtain ⟨A5, c5, e5, hc5, _, hr5⟩ := Row.of_own HOWN.out
  injection e5 with e51 e52 e53
  subst e51 e53
  have hr9 : Row (fun g => w.heap.size ≤ g) w9 A' (i32s l) := (hr5.kept (by omega) fun g _ s => hk9 g (by have := HS2.out; omega) (by have := HS2.out; omega)).mono fun g _ s => by have := HS2.out; omega
  have hY9 : w9.heap[w.heap.size + 1]? = some (.cells #[.int .u64 id, .int .u64 dist, .slice A' l.length c'] 36 (0, 0)) := by
    rw [hw9]
    exact three_set2 (three_set1 (three_set0 ((Below.heap_setCell _ _ _ _ (by simp)).trans HY'.out)))
  have z0 := three_cell0 hY9
  have z1 := three_cell1 hY9
  have z2 := three_cell2 hY9
  rw [← hw9]
  have HG : Hid (l.length ≤ c' ∧ Row (fun g => w.heap.size ≤ g) w9 A' (i32s l) ∧ Below w.heap.size w w9) := ⟨hc5, hr9, hb9⟩
  clear hw9 hs9 hk9 hb9 hr9 hr5 hg2 hY9 x0' x1' x2' f2 y0 y1 y2 p0 p1 p2
  refine bodyPost_ret (v := .agg #[.int .u64 id, .int .u64 dist, .slice A' l.length c']) (by simp [results, Try.results28, go_sem, z0, z1, z2]) rfl ?_
  exact ⟨A', c', rfl, HG.out.1, HG.out.2.1, HG.out.2.2⟩

end Go.Proofs.Ytfhnhfppamnjhaa
