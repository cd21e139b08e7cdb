/-
  The contracts of bytes.Clone and of a letter's own.
-/
import Derived.Lib.SliceRun
import Derived.Test.YtalifbajihkenaaNApp
namespace Go.Proofs.Ytalifbajihkenaa
open Go.RowKit Go.Maps
set_option linter.unusedSimpArgs false
set_option linter.unusedVariables false

/-- bytes of a call's own -/
def Fresh (w w' : World) (p : List Int) (A : Option Addr) (c : Nat) : Prop :=
  p.length ≤ c ∧ Row w' A (bs p) ∧ (∀ a, A = some a → w.heap.size ≤ a.block ∧ a.block < w'.heap.size) ∧ Below w.heap.size w w'

set_option maxRecDepth 100000 in
set_option maxHeartbeats 400000 in
theorem clone_any (A : Option Addr) (n c : Nat) (p : List Int) (w : World) (hn : p.length = n) (hrow : Row w A (bs p)) (hpl : p.length ≤ 70368744177664) :
    Calls Try.prog 36 #[.slice A n c] w fun e w' => ∃ A' c', e = .returned (.slice A' n c') ∧ Fresh w w' p A' c' := by
  subst hn
  rcases A with _ | ad
  · have hp : p = [] := by
      rcases Nat.eq_zero_or_pos p.length with h0 | h0
      · exact List.eq_nil_of_length_eq_zero h0
      · obtain ⟨_, e, _⟩ := hrow 0 (by rw [bs_len]; exact h0)
        cases e
    subst hp
    have hq := fun u : World => Lib.run_eql_slice_nil (P := Try.prog) u 35 5 none 0 c 0 0 Try.underlying35
    go_enter Try.func36, Try.ntmps36
    go_wp2_with fail
    go_ret
    refine ⟨none, 0, rfl, Nat.le_refl _, Row.nil, ?_, Below.refl _ _⟩
    intro a e
    cases e
  · have hq := fun u : World => Lib.run_eql_slice_nil (P := Try.prog) u 35 5 (some ad) p.length c 0 0 Try.underlying35
    have h0 : (w.alloc (.cells #[] 5)).ownsRow w.heap.size 5 1 (.slice (some ⟨w.heap.size, 0, none⟩) 0 0) 0 [] := World.ownsRow_lit w #[] 0 (Nat.le_refl _) (by decide) rfl
    have hrow1 : Row (w.alloc (.cells #[] 5)) (some ad) (bs p) := hrow.below ((Below.refl _ _).alloc (Nat.le_refl _) _)
    go_enter Try.func36, Try.ntmps36
    go_wp2_with (at_builtin; refine wpList_append_el elem35 rfl (.tmp 5) (.tmp 6) rfl w.heap.size _ 0 [] rfl h0 (some ad) p.length c (bs p) rfl (by rw [bs_len, Nat.mul_one]) (fun j u hj => ?c1) (bs_one p) ?c3 ?c4 ?c5 ?_; rotate_right; intro A' c' w' hown hgrow hat)
    case c1 =>
      have hjl : j < (bs p).length := by
        rcases Nat.lt_or_ge j (bs p).length with h | h
        · exact h
        · rw [List.getElem?_eq_none h] at hj; cases hj
      obtain ⟨ad', e, _, hc⟩ := hrow1 j hjl
      exact ⟨ad', e, hc.trans hj⟩
    case c3 => unfold maxLen; omega
    case c4 => omega
    case c5 => simp
    go_ret
    rw [Nat.zero_add] at hown
    have hgrow2 : (w.alloc (.cells #[] 5)).grownBy w' (some w.heap.size) := hgrow
    obtain ⟨A2, c2, hv, hc2, hr2⟩ := Row.of_own hown
    injection hv with hv1 _ hv3
    subst hv1 hv3
    refine ⟨A', c', rfl, hc2, by simpa using hr2, fun a e => ?_, ((Below.refl _ _).alloc (Nat.le_refl _) _).grown hgrow2 (by simp) (fun k e => by injection e with e; omega)⟩
    have := own_lt hown (g := a.block) (by rw [e]; rfl)
    exact this

theorem three_cell0 {w : World} {b : Nat} {x y z : Value} {t : TypeId} (h : w.heap[b]? = some (.cells #[x, y, z] t (0, 0))) : w.cell? ⟨b, 0, none⟩ = some x := by simp [World.cell?, h]
theorem three_cell1 {w : World} {b : Nat} {x y z : Value} {t : TypeId} (h : w.heap[b]? = some (.cells #[x, y, z] t (0, 0))) : w.cell? ⟨b, 1, none⟩ = some y := by simp [World.cell?, h]
theorem three_cell2 {w : World} {b : Nat} {x y z : Value} {t : TypeId} (h : w.heap[b]? = some (.cells #[x, y, z] t (0, 0))) : w.cell? ⟨b, 2, none⟩ = some z := by simp [World.cell?, h]
theorem three_free {w : World} {b k : Nat} {x y z : Value} {t : TypeId} (h : w.heap[b]? = some (.cells #[x, y, z] t (0, 0))) : w.frozen? ⟨b, k, none⟩ = false := by simp [World.frozen?, h]
theorem three_set0 {w : World} {b : Nat} {x y z a : Value} {t : TypeId} (h : w.heap[b]? = some (.cells #[x, y, z] t (0, 0))) : (w.setCell ⟨b, 0, none⟩ a).heap[b]? = some (.cells #[a, y, z] t (0, 0)) := by simp [World.setCell, Array.getElem?_modify, h]
theorem three_set1 {w : World} {b : Nat} {x y z a : Value} {t : TypeId} (h : w.heap[b]? = some (.cells #[x, y, z] t (0, 0))) : (w.setCell ⟨b, 1, none⟩ a).heap[b]? = some (.cells #[x, a, z] t (0, 0)) := by simp [World.setCell, Array.getElem?_modify, h]
theorem three_set2 {w : World} {b : Nat} {x y z a : Value} {t : TypeId} (h : w.heap[b]? = some (.cells #[x, y, z] t (0, 0))) : (w.setCell ⟨b, 2, none⟩ a).heap[b]? = some (.cells #[x, y, a] t (0, 0)) := by simp [World.setCell, Array.getElem?_modify, h]
theorem set_os (w : World) (a : Addr) (v : Value) : (w.setCell a v).os = w.os := rfl
theorem set_tape (w : World) (a : Addr) (v : Value) : (w.setCell a v).tape = w.tape := rfl
theorem set_output (w : World) (a : Addr) (v : Value) : (w.setCell a v).output = w.output := rfl
theorem set_size (w : World) (a : Addr) (v : Value) : (w.setCell a v).heap.size = w.heap.size := by simp [World.setCell]


/-- a letter as one value -/
def letV (f t : Int) (A : Option Addr) (n c : Nat) : Value := .agg #[.int .i64 f, .int .i64 t, .slice A n c]

set_option maxRecDepth 100000 in
set_option maxHeartbeats 1000000 in
theorem own_any (f t : Int) (A : Option Addr) (n c : Nat) (p : List Int) (w : World) (hn : p.length = n) (hrow : Row w A (bs p)) (hpl : p.length ≤ 70368744177664) :
    Calls Try.prog 31 #[letV f t A n c] w fun e w' => ∃ A' c', e = .returned (letV f t A' n c') ∧ Fresh w w' p A' c' := by
  subst hn
  obtain ⟨w2, hw2⟩ : ∃ x, x = (w.alloc (.cells #[.int .i64 f, .int .i64 t, .slice A p.length c] 37)).alloc (.cells #[.int .i64 0, .int .i64 0, .slice none 0 0] 37) := ⟨_, rfl⟩
  have hb2 : Below w.heap.size w w2 := by rw [hw2]; exact ((Below.refl _ _).alloc (Nat.le_refl _) _).alloc (by simp) _
  have hX : w2.heap[w.heap.size]? = some (.cells #[.int .i64 f, .int .i64 t, .slice A p.length c] 37 (0, 0)) := by rw [hw2, Below.heap_alloc _ _ _ (by simp)]; exact heap_alloc_new w _
  have hY : w2.heap[w.heap.size + 1]? = some (.cells #[.int .i64 0, .int .i64 0, .slice none 0 0] 37 (0, 0)) := by
    rw [hw2]
    have := heap_alloc_new (w.alloc (.cells #[.int .i64 f, .int .i64 t, .slice A p.length c] 37)) (.cells #[.int .i64 0, .int .i64 0, .slice none 0 0] 37)
    simpa using this
  have hs2 : w2.heap.size = w.heap.size + 2 := by rw [hw2]; simp
  have HC := Lib.hid (clone_any A p.length c p w2 rfl (hrow.below hb2) hpl)
  have HX := Lib.hid hX
  have HY := Lib.hid hY
  have HB2 := Lib.hid hb2
  have HS2 := Lib.hid hs2
  clear hX hY hb2 hrow hs2
  unfold letV
  go_enter Try.func31, Try.ntmps31
  go_wp2_with fail
  rw [← hw2]
  refine (HC.out).mono ?_
  rintro e w' ⟨A', c', rfl, hF⟩
  have hX' := (hF.2.2.2.block _ (lt_of_block HX.out)).trans HX.out
  have hY' := (hF.2.2.2.block _ (lt_of_block HY.out)).trans HY.out
  have x0' := three_cell0 hX'
  have x1' := three_cell1 hX'
  have x2' := three_cell2 hX'
  have f2 := three_free (k := 2) hX'
  have y0 := three_cell0 hY'
  have y1 := three_cell1 hY'
  have y2 := three_cell2 hY'
  have p0 := three_free (k := 0) hY'
  have p1 := three_free (k := 1) hY'
  have p2 := three_free (k := 2) hY'
  have HX' := Lib.hid hX'
  have HY' := Lib.hid hY'
  have HF := Lib.hid hF
  clear hX' hY' hF HC hw2
  go_wp2_with fail
  obtain ⟨w9, hw9⟩ : ∃ x, x = (((w'.setCell ⟨w.heap.size, 2, none⟩ (.slice A' p.length c')).setCell ⟨w.heap.size + 1, 0, none⟩ (.int .i64 f)).setCell ⟨w.heap.size + 1, 1, none⟩ (.int .i64 t)).setCell ⟨w.heap.size + 1, 2, none⟩ (.slice A' p.length c') := ⟨_, rfl⟩
  have hk9 : ∀ g, g ≠ w.heap.size → g ≠ w.heap.size + 1 → w9.heap[g]? = w'.heap[g]? := fun g g1 g2 => by rw [hw9, Below.heap_setCell _ _ _ _ g2, Below.heap_setCell _ _ _ _ g2, Below.heap_setCell _ _ _ _ g2, Below.heap_setCell _ _ _ _ g1]
  have hs9 : w9.heap.size = w'.heap.size := by rw [hw9]; simp only [set_size]
  have hg2 := HF.out.2.2.2
  have hb9 : Below w.heap.size w w9 := by
    have hb2 := HB2.out
    refine ⟨?_, ?_, ?_, by rw [hs9]; exact Nat.le_trans hb2.size hg2.size, fun k hk => ?_⟩
    · rw [hw9]; simp only [set_os]; exact hg2.os.trans hb2.os
    · rw [hw9]; simp only [set_tape]; exact hg2.tape.trans hb2.tape
    · rw [hw9]; simp only [set_output]; exact hg2.output.trans hb2.output
    · rw [hk9 k (by omega) (by omega), hg2.block k (by have := HS2.out; omega)]
      exact hb2.block k hk
  have hY9 : w9.heap[w.heap.size + 1]? = some (.cells #[.int .i64 f, .int .i64 t, .slice A' p.length c'] 37 (0, 0)) := by
    rw [hw9]
    exact three_set2 (three_set1 (three_set0 ((Below.heap_setCell _ _ _ _ (by simp)).trans HY'.out)))
  have z0 := three_cell0 hY9
  have z1 := three_cell1 hY9
  have z2 := three_cell2 hY9
  rw [← hw9]
  have HG : Hid (Fresh w w9 p A' c') := by
    obtain ⟨k1, k2, k3, k4⟩ := HF.out
    refine ⟨k1, k2.kept (by omega) fun ad ea _ => hk9 _ ?_ ?_, fun a ea => ?_, hb9⟩
    · have := (k3 ad ea).1; have := HS2.out; omega
    · have := (k3 ad ea).1; have := HS2.out; omega
    · have := k3 a ea; have := HS2.out; omega
  clear hw9 hs9 hk9 hb9 hg2 hY9 x0' x1' x2' f2 y0 y1 y2 p0 p1 p2
  refine bodyPost_ret (v := .agg #[.int .i64 f, .int .i64 t, .slice A' p.length c']) (by simp [results, Try.results31, go_sem, z0, z1, z2]) rfl ?_
  exact ⟨A', c', rfl, HG.out⟩

end Go.Proofs.Ytalifbajihkenaa
