/-
  The contract of Take.
-/
import Derived.Test.YtalifbajihkenaaNRem
namespace Go.Proofs.Ytalifbajihkenaa
open Go.RowKit Go.Maps
set_option linter.unusedSimpArgs false
set_option linter.unusedVariables false

theorem Lts.both {X Z : Nat → Prop} {w : World} {A : Option Addr} {ls : List L3} (h : Lts X w A ls) (h' : Lts Z w A ls) : Lts (fun g => X g ∨ Z g) w A ls := fun j hj => by
  obtain ⟨ad, e, lt, c0, c1, Y, cy, c2, h3, h4, h5⟩ := h j hj
  obtain ⟨ad', e', _, _, _, Y', cy', c2', _, _, h5'⟩ := h' j hj
  rw [e] at e'
  injection e' with e'
  subst e'
  rw [c2] at c2'
  injection c2' with c2'
  injection c2' with q1 q2 q3
  subst q1
  exact ⟨ad, e, lt, c0, c1, Y, cy, c2, h3, h4, fun a ea => ⟨fun q => q.elim (h5 a ea).1 (h5' a ea).1, (h5 a ea).2⟩⟩
theorem Lts.mono {X Z : Nat → Prop} {w : World} {A : Option Addr} {ls : List L3} (h : Lts X w A ls) (hz : ∀ g, Z g → X g) : Lts Z w A ls := fun j hj => by
  obtain ⟨ad, e, lt, c0, c1, Y, cy, c2, h3, h4, h5⟩ := h j hj
  exact ⟨ad, e, lt, c0, c1, Y, cy, c2, h3, h4, fun a ea => ⟨fun q => (h5 a ea).1 (hz _ q), (h5 a ea).2⟩⟩

section
variable {w w' : World} {B b mb n : Nat} {nodes x y i : Int} {v : Value} {ls : List L3} {sp : Int → Int → Bool}
/-- a block that is none of the net's changes -/
theorem Nt.off (h : Nt w B b mb n nodes v ls sp) {q : Nat} (hT : Low w v ls q) (hq : ¬ NB b mb v q) (hs : w.heap.size ≤ w'.heap.size) (hk : ∀ g, g < w.heap.size → g ≠ q → w'.heap[g]? = w.heap[g]?) : Nt w' B b mb n nodes v ls sp where
  blk := (hk b (lt_of_block h.blk) fun e => hq (.inl e.symm)).trans h.blk
  map := h.map.kept (hk mb h.map.lt fun e => hq (.inr (.inl e.symm)))
  form := by
    obtain ⟨A, c, e, h1, h2, h3⟩ := h.form
    refine ⟨A, c, e, h1, h2, ((h3.both (hT A c e)).kept hs (fun ad ea => ?_) fun g hg hx => hk g hg fun e => hx (.inr (by omega))).mono fun g hg => .inl hg⟩
    obtain ⟨cur, hc⟩ := h.row ad.block (by rw [e, ea]; rfl)
    exact hk _ (lt_of_block hc) fun e' => hq (.inr (.inr (by rw [e, ea, ← e']; rfl)))
  row g hg := by
    obtain ⟨cur, hc⟩ := h.row g hg
    exact ⟨cur, (hk g (lt_of_block hc) fun e => hq (.inr (.inr (by rw [← e]; exact hg)))).trans hc⟩
  low := h.low
  ok := h.ok
theorem Fit.off (h : Fit w v) {q : Nat} (hq : ¬ NB b mb v q) (hk : ∀ g, g < w.heap.size → g ≠ q → w'.heap[g]? = w.heap[g]?) : Fit w' v := fun ad n c e => by
  obtain ⟨h1, cur, h2, h3⟩ := h ad n c e
  exact ⟨h1, cur, (hk _ (lt_of_block h2) fun e' => hq (.inr (.inr (by rw [e, ← e']; rfl)))).trans h2, h3⟩
theorem Fit.below (h : Fit w v) (hb : Below w.heap.size w w') : Fit w' v := fun ad n c e => by
  obtain ⟨h1, cur, h2, h3⟩ := h ad n c e
  exact ⟨h1, cur, (hb.block _ (lt_of_block h2)).trans h2, h3⟩
theorem Low.below {T : Nat} (h : Nt w B b mb n nodes v ls sp) (hl : Low w v ls T) (hb : Below w.heap.size w w') : Low w' v ls T := fun A c e => by
  refine (hl A c e).kept hb.size (fun ad ea => ?_) fun g hg _ => hb.block g hg
  obtain ⟨cur, hc⟩ := h.row ad.block (by rw [e, ea]; rfl)
  exact hb.block _ (lt_of_block hc)

/-- what Take leaves -/
def Took (w : World) (B b mb n : Nat) (nodes : Int) (v : Value) (ls : List L3) (sp : Int → Int → Bool) (k : Nat) (l : L3) (e : Ending) (w' : World) : Prop :=
  ∃ Y cy v', e = .returned (.tuple #[letV l.1 l.2.1 Y l.2.2.length cy, .int .i64 0]) ∧ l.2.2.length ≤ cy ∧ Row w' Y (bs l.2.2) ∧ (∀ a, Y = some a → ¬ NB b mb v a.block ∧ a.block < w.heap.size) ∧
    v'.ownBlock = v.ownBlock ∧ Nt w' B b mb n nodes v' (ls.eraseIdx k) sp ∧ Did B b mb v w w' ∧ (Fit w v → Fit w' v') ∧ (∀ cs, OwnAt w B v ls.length cs → cs[k * 3 + 2]? = some (.slice Y l.2.2.length cy) ∧ OwnAt w' B v' (ls.length - 1) (cut3 cs k))

set_option maxRecDepth 100000 in
set_option maxHeartbeats 2000000 in
theorem take_in (h : Nt w B b mb n nodes v ls sp) (hB : B ≤ w.heap.size) {k : Nat} (hk : k < ls.length) (hi : comesE sp ls k = 0) (hbl : ∀ l ∈ ls, l.2.2.length ≤ 70368744177664) : Calls Try.prog 10 #[.pointer (some ⟨b, 0, none⟩), .int .i64 k] w fun e w' => Took w B b mb n nodes v ls sp k (ls[k]'hk) e w' := by
  obtain ⟨w1, hw1⟩ : ∃ x, x = w.alloc (.cells #[.int .i64 0, .int .i64 0, .slice none 0 0] 37) := ⟨_, rfl⟩
  have hb1 : Below w.heap.size w w1 := by rw [hw1]; exact (Below.refl _ _).alloc (Nat.le_refl _) _
  have hX : w1.heap[w.heap.size]? = some (.cells #[.int .i64 0, .int .i64 0, .slice none 0 0] 37 (0, 0)) := by rw [hw1]; exact heap_alloc_new w _
  have HC := Lib.hid (comes_any (h.below hb1) k)
  rw [hi] at HC
  have HX := Lib.hid hX
  have HB1 := Lib.hid hb1
  have HH := Lib.hid h
  obtain ⟨ad, c, Y, cy, rfl, hc, q0, q1, q2, hcy, hrow, hY⟩ := h.at hk
  obtain ⟨cur0, hcur0⟩ := h.row ad.block rfl
  have hadl : (ad.add (k * 3)).block < w.heap.size := by rw [block_add]; exact lt_of_block hcur0
  have HQ : Hid (∀ W, Below w.heap.size w W → W.cell? ⟨b, 1, none⟩ = some (.slice (some ad) ls.length c) ∧ W.cell? (ad.add (k * 3)) = some (.int .i64 (ls[k]'hk).1) ∧ W.cell? ⟨(ad.add (k * 3)).block, (ad.add (k * 3)).off + 1, none⟩ = some (.int .i64 (ls[k]'hk).2.1) ∧ W.cell? ⟨(ad.add (k * 3)).block, (ad.add (k * 3)).off + 2, none⟩ = some (.slice Y (ls[k]'hk).2.2.length cy)) := fun W hW =>
    ⟨(h.below hW).cells.2.1, (hW.cell (p := ad.add (k * 3)) hadl).trans q0, (hW.cell (p := ⟨(ad.add (k * 3)).block, (ad.add (k * 3)).off + 1, none⟩) hadl).trans q1, (hW.cell (p := ⟨(ad.add (k * 3)).block, (ad.add (k * 3)).off + 2, none⟩) hadl).trans q2⟩
  have i1 : (k : Int) < (ls.length : Int) := by omega
  have i0 : (0 : Int) ≤ (k : Int) := by omega
  have HROW := Lib.hid hrow
  have HY := Lib.hid hY
  have HCY := Lib.hid hcy
  have HCS : Hid (∀ cs, OwnAt w B (.slice (some ad) ls.length c) ls.length cs → cs[k * 3 + 2]? = some (.slice Y (ls[k]'hk).2.2.length cy)) := fun cs hO => by
    rcases hO.2 with ⟨e, _⟩ | ⟨g2, o2, cap2, cur2, e, _⟩
    · cases e
    injection e with e1 _ e3
    injection e1 with e1
    subst e1 e3
    rw [lit_add, show o2 + k * 3 + 2 = o2 + (k * 3 + 2) from by omega] at q2
    rw [← hO.cell (by omega)]
    exact q2
  unfold Took letV
  have HHK := Lib.hid hk
  generalize (ls[k]'hk).1 = z0 at *
  generalize (ls[k]'hk).2.1 = z1 at *
  generalize (ls[k]'hk).2.2 = p at *
  clear hX hb1 h hi hc q0 q1 q2 hcy hrow hY hcur0 hadl
  go_enter Try.func10, Try.ntmps10
  go_wp2_with fail
  rw [← hw1]
  refine (HC.out).mono ?_
  rintro e w' ⟨rfl, hF⟩
  have hb2 := HB1.out.trans (hF.mono HB1.out.size)
  have hX' := (hF.block _ (lt_of_block HX.out)).trans HX.out
  obtain ⟨k1, q0, q1, q2⟩ := HQ.out _ hb2
  have HX' := Lib.hid hX'
  have HB2 := Lib.hid hb2
  clear hX' hF HC hw1 hb2 HQ
  go_wp2_with fail
  obtain ⟨w2, hw2⟩ : ∃ x, x = w'.alloc (.cells #[.int .i64 z0, .int .i64 z1, .slice Y p.length cy] 37) := ⟨_, rfl⟩
  have hb3 : Below w.heap.size w w2 := by rw [hw2]; exact HB2.out.alloc HB2.out.size _
  have hZ : w2.heap[w'.heap.size]? = some (.cells #[.int .i64 z0, .int .i64 z1, .slice Y p.length cy] 37 (0, 0)) := by rw [hw2]; exact heap_alloc_new w' _
  have hX2 : w2.heap[w.heap.size]? = some (.cells #[.int .i64 0, .int .i64 0, .slice none 0 0] 37 (0, 0)) := by rw [hw2, Below.heap_alloc _ _ _ (lt_of_block HX'.out)]; exact HX'.out
  have hlt2 : w.heap.size < w'.heap.size := lt_of_block HX'.out
  rw [← hw2]
  have hnb : ∀ q, w.heap.size ≤ q → ¬ NB b mb (.slice (some ad) ls.length c) q := fun q hq e => by
    rcases e with e | e | e
    · have := lt_of_block HH.out.blk; omega
    · have := HH.out.map.lt; omega
    · obtain ⟨cur, hcur⟩ := HH.out.row q e
      have := lt_of_block hcur; omega
  have HR := Lib.hid (remove_any (HH.out.below hb3) HHK.out hbl)
  refine (HR.out).mono ?_
  rintro e w3 ⟨rfl, v', hv', hN3, hD3, hF3, hL3, hO3⟩
  have hZ3 := (hD3.same _ (lt_of_block hZ) (hnb _ (by omega))).trans hZ
  have hX3 := (hD3.same _ (lt_of_block hX2) (hnb _ (Nat.le_refl _))).trans hX2
  have y0 := three_cell0 hZ3
  have y1 := three_cell1 hZ3
  have y2 := three_cell2 hZ3
  have x0 := three_cell0 hX3
  have x1 := three_cell1 hX3
  have x2 := three_cell2 hX3
  have p0 := three_free (k := 0) hX3
  have p1 := three_free (k := 1) hX3
  have p2 := three_free (k := 2) hX3
  have HS := Lib.hid (Set3.mk' (x := .int .i64 z0) (y := .int .i64 z1) (z := .slice Y p.length cy) hX3)
  have HG : Hid (∀ w9, Set3 w3 w9 w.heap.size (.int .i64 z0) (.int .i64 z1) (.slice Y p.length cy) → Row w9 Y (bs p) ∧ Nt w9 B b mb n nodes v' (ls.eraseIdx k) sp ∧ Did B b mb (.slice (some ad) ls.length c) w w9 ∧ (Fit w (.slice (some ad) ls.length c) → Fit w9 v') ∧ (∀ cs, OwnAt w B (.slice (some ad) ls.length c) ls.length cs → cs[k * 3 + 2]? = some (.slice Y p.length cy) ∧ OwnAt w9 B v' (ls.length - 1) (cut3 cs k))) := fun w9 h9 => by
    have hnb' : ¬ NB b mb v' w.heap.size := by unfold NB; rw [hv']; exact hnb _ (Nat.le_refl _)
    have hd : Did B b mb (.slice (some ad) ls.length c) w w3 := (Did.of_below hb3 hB).trans hD3
    have hd9 : ∀ g, g < w.heap.size → ¬ NB b mb (.slice (some ad) ls.length c) g → w9.heap[g]? = w.heap[g]? := fun g hg hn => (h9.block g (by omega)).trans (hd.same g hg hn)
    have hsz : w.heap.size ≤ w9.heap.size := by rw [h9.size]; exact hd.below.size
    refine ⟨HROW.out.kept hsz fun a ea hl => hd9 _ hl (HY.out a ea).1, hN3.off (hL3 _ (Low.below HH.out HH.out.low' hb3)) hnb' (by rw [h9.size]; exact Nat.le_refl _) (fun g _ hg => h9.block g hg), ⟨h9.below hd.below hB, hd9⟩, fun hF => (hF3 (hF.below hb3)).off hnb' fun g _ hg => h9.block g hg, fun cs hO => ⟨HCS.out cs hO, (hO3 cs (hO.keep fun g hg => hb3.block g (by obtain ⟨cur, hc⟩ := HH.out.row g hg; exact lt_of_block hc))).keep fun g hg => h9.block g fun e => hnb' (by rw [← e]; exact .inr (.inr hg))⟩⟩
  clear hZ3 hX3 hN3 hD3 hF3 hL3 hO3 hb3 hZ hX2 hlt2 hw2 hnb HR k1 q0 q1 q2
  go_wp2_with fail
  obtain ⟨w9, hw9⟩ : ∃ x, x = ((w3.setCell ⟨w.heap.size, 0, none⟩ (.int .i64 z0)).setCell ⟨w.heap.size, 1, none⟩ (.int .i64 z1)).setCell ⟨w.heap.size, 2, none⟩ (.slice Y p.length cy) := ⟨_, rfl⟩
  rw [← hw9] at HS ⊢
  have z0' := three_cell0 HS.out.at'
  have z1' := three_cell1 HS.out.at'
  have z2' := three_cell2 HS.out.at'
  have HG9 := Lib.hid (HG.out w9 HS.out)
  have HV := Lib.hid hv'
  clear hw9 y0 y1 y2 x0 x1 x2 p0 p1 p2 HG hv'
  refine bodyPost_ret (v := .tuple #[.agg #[.int .i64 z0, .int .i64 z1, .slice Y p.length cy], .int .i64 0]) (by simp [results, Try.results10, go_sem, z0', z1', z2']) rfl ?_
  exact ⟨Y, cy, v', rfl, HCY.out, HG9.out.1, HY.out, HV.out, HG9.out.2⟩
end

end Go.Proofs.Ytalifbajihkenaa
