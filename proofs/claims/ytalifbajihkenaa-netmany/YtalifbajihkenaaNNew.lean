/-
  The contracts of New and Copy.
-/
import Derived.Test.YtalifbajihkenaaNOwn
namespace Go.Proofs.Ytalifbajihkenaa
open Go.RowKit Go.Maps
set_option linter.unusedSimpArgs false
set_option linter.unusedVariables false

theorem makeSp (w : World) : (Instr.makeMap 65 none).run Try.prog w = .ok (.map (some w.heap.size)) (w.alloc (.map #[] 0)) := by
  rfl

/-- a net without letters -/
theorem Nt.empty (w : World) (nodes : Int) (h1 : 1 ≤ nodes) (h2 : nodes ≤ 16) : Nt ((w.alloc (.map #[] 0)).alloc (.cells #[.int .i64 nodes, .slice none 0 0, .map (some w.heap.size)] 67)) w.heap.size (w.heap.size + 1) w.heap.size 0 nodes (.slice none 0 0) [] (fun _ _ => false) where
  blk := by
    have := heap_alloc_new (w.alloc (.map #[] 0)) (.cells #[.int .i64 nodes, .slice none 0 0, .map (some w.heap.size)] 67)
    simpa using this
  map := (SpM.new w).kept (Below.heap_alloc _ _ _ (by simp))
  form := ⟨none, 0, rfl, Nat.le_refl _, by decide, fun j hj => by simp at hj⟩
  row g hg := by simp [Value.ownBlock] at hg
  low := ⟨by omega, Nat.le_refl _, fun g hg => by simp [Value.ownBlock] at hg⟩
  ok := ⟨⟨h1, h2⟩, fun l hl => by cases hl⟩

set_option maxRecDepth 100000 in
set_option maxHeartbeats 1000000 in
theorem new_any (w : World) (nodes : Int) (h1 : 1 ≤ nodes) (h2 : nodes ≤ 16) : Calls Try.prog 9 #[.int .i64 nodes] w fun e w' => e = .returned (.tuple #[.pointer (some ⟨w.heap.size + 1, 0, none⟩), .int .i64 0]) ∧ Nt w' w.heap.size (w.heap.size + 1) w.heap.size 0 nodes (.slice none 0 0) [] (fun _ _ => false) ∧ Below w.heap.size w w' := by
  have HE := Lib.hid (Nt.empty w nodes h1 h2)
  have HB : Hid (Below w.heap.size w ((w.alloc (.map #[] 0)).alloc (.cells #[.int .i64 nodes, .slice none 0 0, .map (some w.heap.size)] 67))) := ((Below.refl _ _).alloc (Nat.le_refl _) _).alloc (by simp) _
  have hm := makeSp w
  have k1 : ¬ nodes < 1 := by omega
  have k2 : ¬ nodes > 16 := by omega
  have k3 : ¬ 16 < nodes := by omega
  go_enter Try.func9, Try.ntmps9
  go_wp2_with fail
  go_ret2
  exact ⟨rfl, HE.out, HB.out⟩

/-- three cells of one block are written over -/
structure Set3 (w w' : World) (b : Nat) (x y z : Value) : Prop where
  at' : w'.heap[b]? = some (.cells #[x, y, z] 37 (0, 0))
  block : ∀ g, g ≠ b → w'.heap[g]? = w.heap[g]?
  size : w'.heap.size = w.heap.size
  rest : w'.os = w.os ∧ w'.tape = w.tape ∧ w'.output = w.output
theorem Set3.mk' {w : World} {b : Nat} {x y z x' y' z' : Value} (h : w.heap[b]? = some (.cells #[x', y', z'] 37 (0, 0))) : Set3 w (((w.setCell ⟨b, 0, none⟩ x).setCell ⟨b, 1, none⟩ y).setCell ⟨b, 2, none⟩ z) b x y z where
  at' := three_set2 (three_set1 (three_set0 h))
  block g hg := by rw [Below.heap_setCell _ _ _ _ hg, Below.heap_setCell _ _ _ _ hg, Below.heap_setCell _ _ _ _ hg]
  size := by simp only [set_size]
  rest := ⟨rfl, rfl, rfl⟩
theorem Set3.below {w0 w w' : World} {B b : Nat} {x y z : Value} (h : Set3 w w' b x y z) (hb : Below B w0 w) (hB : B ≤ b) : Below B w0 w' :=
  ⟨h.rest.1.trans hb.os, h.rest.2.1.trans hb.tape, h.rest.2.2.trans hb.output, by rw [h.size]; exact hb.size, fun k hk => (h.block k (by omega)).trans (hb.block k hk)⟩

section
variable {w w' : World} {B b mb n : Nat} {nodes x y i : Int} {v : Value} {ls : List L3} {sp : Int → Int → Bool}

/-- the cells of the i-th letter -/
theorem Nt.at (h : Nt w B b mb n nodes v ls sp) {k : Nat} (hk : k < ls.length) : ∃ ad c Y cy, v = .slice (some ad) ls.length c ∧ ls.length ≤ c ∧ w.cell? (ad.add (k * 3)) = some (.int .i64 (ls[k]'hk).1) ∧ w.cell? ⟨(ad.add (k * 3)).block, (ad.add (k * 3)).off + 1, none⟩ = some (.int .i64 (ls[k]'hk).2.1) ∧ w.cell? ⟨(ad.add (k * 3)).block, (ad.add (k * 3)).off + 2, none⟩ = some (.slice Y (ls[k]'hk).2.2.length cy) ∧ (ls[k]'hk).2.2.length ≤ cy ∧ Row w Y (bs (ls[k]'hk).2.2) ∧ (∀ a, Y = some a → ¬ NB b mb v a.block ∧ a.block < w.heap.size) := by
  obtain ⟨A, c, e, h1, _, h3⟩ := h.form
  obtain ⟨ad, ea, _, c0, c1, Y, cy, c2, hc, hr, hx⟩ := h3 k hk
  exact ⟨ad, c, Y, cy, by rw [e, ea], h1, c0, c1, c2, hc, hr, hx⟩

/-- what a call that gives a letter answers -/
def Gives (w : World) (l : L3) (e : Ending) (w' : World) : Prop :=
  ∃ A' c', e = .returned (.tuple #[letV l.1 l.2.1 A' l.2.2.length c', .int .i64 0]) ∧ Fresh w w' l.2.2 A' c'

set_option maxRecDepth 100000 in
set_option maxHeartbeats 1000000 in
theorem copy_out (h : Nt w B b mb n nodes v ls sp) (i : Int) (hi : comesE sp ls i ≠ 0) : Calls Try.prog 11 #[.pointer (some ⟨b, 0, none⟩), .int .i64 i] w fun e w' => e = .returned (.tuple #[letV 0 0 none 0 0, .int .i64 (comesE sp ls i)]) ∧ Below w.heap.size w w' := by
  obtain ⟨w1, hw1⟩ : ∃ x, x = w.alloc (.cells #[.int .i64 0, .int .i64 0, .slice none 0 0] 37) := ⟨_, rfl⟩
  have hb1 : Below w.heap.size w w1 := by rw [hw1]; exact (Below.refl _ _).alloc (Nat.le_refl _) _
  have hX : w1.heap[w.heap.size]? = some (.cells #[.int .i64 0, .int .i64 0, .slice none 0 0] 37 (0, 0)) := by rw [hw1]; exact heap_alloc_new w _
  have HC := Lib.hid (comes_any (h.below hb1) i)
  have HX := Lib.hid hX
  have HB1 := Lib.hid hb1
  obtain ⟨e0, he0⟩ : ∃ x, x = comesE sp ls i := ⟨_, rfl⟩
  rw [← he0] at HC hi ⊢
  clear hX hb1 h he0
  unfold letV
  go_enter Try.func11, Try.ntmps11
  go_wp2_with fail
  rw [← hw1]
  refine (HC.out).mono ?_
  rintro e w' ⟨rfl, hF⟩
  have hX' := (hF.block _ (lt_of_block HX.out)).trans HX.out
  have y0 := three_cell0 hX'
  have y1 := three_cell1 hX'
  have y2 := three_cell2 hX'
  have p0 := three_free (k := 0) hX'
  have p1 := three_free (k := 1) hX'
  have p2 := three_free (k := 2) hX'
  have HX' := Lib.hid hX'
  have HF := Lib.hid hF
  clear hX' hF HC hw1
  go_wp2_with fail
  have HS := Lib.hid (Set3.mk' (x := .int .i64 0) (y := .int .i64 0) (z := .slice none 0 0) HX'.out)
  obtain ⟨w9, hw9⟩ : ∃ x, x = ((w'.setCell ⟨w.heap.size, 0, none⟩ (.int .i64 0)).setCell ⟨w.heap.size, 1, none⟩ (.int .i64 0)).setCell ⟨w.heap.size, 2, none⟩ (.slice none 0 0) := ⟨_, rfl⟩
  rw [← hw9] at HS ⊢
  have z0 := three_cell0 HS.out.at'
  have z1 := three_cell1 HS.out.at'
  have z2 := three_cell2 HS.out.at'
  have HG : Hid (Below w.heap.size w w9) := HS.out.below (HB1.out.trans (HF.out.mono HB1.out.size)) (Nat.le_refl _)
  clear hw9 y0 y1 y2 p0 p1 p2
  refine bodyPost_ret (v := .tuple #[.agg #[.int .i64 0, .int .i64 0, .slice none 0 0], .int .i64 e0]) (by simp [results, Try.results11, go_sem, z0, z1, z2]) rfl ?_
  exact ⟨rfl, HG.out⟩

set_option maxRecDepth 100000 in
set_option maxHeartbeats 1000000 in
theorem copy_in (h : Nt w B b mb n nodes v ls sp) {k : Nat} (hk : k < ls.length) (hi : comesE sp ls k = 0) (hbd : (ls[k]'hk).2.2.length ≤ 70368744177664) : Calls Try.prog 11 #[.pointer (some ⟨b, 0, none⟩), .int .i64 k] w fun e w' => Gives w (ls[k]'hk) e w' := by
  obtain ⟨w1, hw1⟩ : ∃ x, x = w.alloc (.cells #[.int .i64 0, .int .i64 0, .slice none 0 0] 37) := ⟨_, rfl⟩
  have hb1 : Below w.heap.size w w1 := by rw [hw1]; exact (Below.refl _ _).alloc (Nat.le_refl _) _
  have hX : w1.heap[w.heap.size]? = some (.cells #[.int .i64 0, .int .i64 0, .slice none 0 0] 37 (0, 0)) := by rw [hw1]; exact heap_alloc_new w _
  have HC := Lib.hid (comes_any (h.below hb1) k)
  rw [hi] at HC
  have HX := Lib.hid hX
  have HB1 := Lib.hid hb1
  have HN := Lib.hid fun W (hW : Below w.heap.size w W) => h.below hW
  obtain ⟨ad, c, Y, cy, rfl, hc, _⟩ := h.at hk
  have HAT : Hid (∀ W, Below w.heap.size w W → W.cell? ⟨b, 1, none⟩ = some (.slice (some ad) ls.length c) ∧ ∃ Y cy, W.cell? (ad.add (k * 3)) = some (.int .i64 (ls[k]'hk).1) ∧ W.cell? ⟨(ad.add (k * 3)).block, (ad.add (k * 3)).off + 1, none⟩ = some (.int .i64 (ls[k]'hk).2.1) ∧ W.cell? ⟨(ad.add (k * 3)).block, (ad.add (k * 3)).off + 2, none⟩ = some (.slice Y (ls[k]'hk).2.2.length cy) ∧ Row W Y (bs (ls[k]'hk).2.2)) := fun W hW => by
    obtain ⟨ad', c', Y', cy', e, _, q0, q1, q2, _, q3, _⟩ := (HN.out W hW).at hk
    injection e with e1 e2 e3
    injection e1 with e1
    subst e1
    exact ⟨(HN.out W hW).cells.2.1, Y', cy', q0, q1, q2, q3⟩
  have i1 : (k : Int) < (ls.length : Int) := by omega
  have i0 : (0 : Int) ≤ (k : Int) := by omega
  unfold Gives letV
  generalize (ls[k]'hk).1 = z0 at *
  generalize (ls[k]'hk).2.1 = z1 at *
  generalize (ls[k]'hk).2.2 = p at *
  clear hX hb1 h hi hc
  go_enter Try.func11, Try.ntmps11
  go_wp2_with fail
  rw [← hw1]
  refine (HC.out).mono ?_
  rintro e w' ⟨rfl, hF⟩
  have hb2 := HB1.out.trans (hF.mono HB1.out.size)
  have hX' := (hF.block _ (lt_of_block HX.out)).trans HX.out
  obtain ⟨k1, Y, cy, q0, q1, q2, q3⟩ := HAT.out _ hb2
  have HX' := Lib.hid hX'
  have HB2 := Lib.hid hb2
  have HO := Lib.hid (own_any z0 z1 Y p.length cy p w' rfl q3 hbd)
  unfold letV at HO
  clear hX' hF HC hw1 hb2 HN HAT q3
  go_wp2_with fail
  refine (HO.out).mono ?_
  rintro e w5 ⟨A', c', rfl, hF⟩
  have hX5 := (hF.2.2.2.block _ (lt_of_block HX'.out)).trans HX'.out
  have y0 := three_cell0 hX5
  have y1 := three_cell1 hX5
  have y2 := three_cell2 hX5
  have p0 := three_free (k := 0) hX5
  have p1 := three_free (k := 1) hX5
  have p2 := three_free (k := 2) hX5
  have HX5 := Lib.hid hX5
  have HF := Lib.hid hF
  clear hX5 hF HO k1 q0 q1 q2
  go_wp2_with fail
  have HS := Lib.hid (Set3.mk' (x := .int .i64 z0) (y := .int .i64 z1) (z := .slice A' p.length c') HX5.out)
  obtain ⟨w9, hw9⟩ : ∃ x, x = ((w5.setCell ⟨w.heap.size, 0, none⟩ (.int .i64 z0)).setCell ⟨w.heap.size, 1, none⟩ (.int .i64 z1)).setCell ⟨w.heap.size, 2, none⟩ (.slice A' p.length c') := ⟨_, rfl⟩
  rw [← hw9] at HS ⊢
  have z0' := three_cell0 HS.out.at'
  have z1' := three_cell1 HS.out.at'
  have z2' := three_cell2 HS.out.at'
  have HG : Hid (Fresh w w9 p A' c') := by
    obtain ⟨k1, k2, k3, k4⟩ := HF.out
    have hlt := lt_of_block HX'.out
    refine ⟨k1, k2.kept (by rw [HS.out.size]; exact Nat.le_refl _) fun a ea _ => HS.out.block _ (by have := (k3 a ea).1; omega), fun a ea => ?_, HS.out.below (HB2.out.trans (k4.mono HB2.out.size)) (Nat.le_refl _)⟩
    have := k3 a ea
    rw [HS.out.size]
    have := HB2.out.size
    omega
  clear hw9 y0 y1 y2 p0 p1 p2
  refine bodyPost_ret (v := .tuple #[.agg #[.int .i64 z0, .int .i64 z1, .slice A' p.length c'], .int .i64 0]) (by simp [results, Try.results11, go_sem, z0', z1', z2']) rfl ?_
  exact ⟨A', c', rfl, HG.out⟩
end

end Go.Proofs.Ytalifbajihkenaa
