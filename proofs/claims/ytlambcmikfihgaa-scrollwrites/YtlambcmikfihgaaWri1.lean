/-
  Steps of ScrollWrites behind the writing: the bytes that are turned, the items as they are read.
-/
import Derived.Test.YtlambcmikfihgaaWri0
namespace Go.Proofs.Ytlambcmikfihgaa
open Go.RowKit
set_option linter.unusedSimpArgs false
set_option linter.unusedVariables false

/-- Nothing has turned but bytes of block g. -/
structure Flp (g n : Nat) (w w' : World) : Prop where
  os : w'.os = w.os
  tape : w'.tape = w.tape
  output : w'.output = w.output
  size : w'.heap.size = w.heap.size
  other : ∀ k, k ≠ g → w'.heap[k]? = w.heap[k]?
  blk : ∃ ms : List Int, ms.length = n ∧ w'.heap[g]? = some (.cells (u8s ms).toArray 5 (0, 0))
theorem Flp.start {g : Nat} {L : List Int} {w : World} (h : w.heap[g]? = some (.cells (u8s L).toArray 5 (0, 0))) : Flp g L.length w w := ⟨rfl, rfl, rfl, rfl, fun _ _ => rfl, L, rfl, h⟩
theorem Flp.cell {g n j : Nat} {w w' : World} (h : Flp g n w w') (hj : j < n) : ∃ x, w'.cell? ⟨g, j, none⟩ = some (.int .u8 x) := by
  obtain ⟨ms, h1, h2⟩ := h.blk
  exact ⟨ms[j]'(by omega), by simp [World.cell?, h2, u8s, show j < ms.length by omega]⟩
theorem Flp.free {g n j : Nat} {w w' : World} (h : Flp g n w w') : w'.frozen? ⟨g, j, none⟩ = false := by
  obtain ⟨ms, h1, h2⟩ := h.blk
  simp [World.frozen?, h2]
theorem Flp.set {g n j : Nat} {w w' : World} (h : Flp g n w w') (y : Int) : Flp g n w (w'.setCell ⟨g, j, none⟩ (.int .u8 y)) := by
  obtain ⟨ms, h1, h2⟩ := h.blk
  refine ⟨h.os, h.tape, h.output, by simp [World.setCell, h.size], fun k hk => by rw [Below.heap_setCell _ _ _ _ hk]; exact h.other k hk, ms.set j y, by simpa using h1, ?_⟩
  have hg := lt_of_block h2
  have e : (u8s (ms.set j y)) = (u8s ms).set j (.int .u8 y) := by simp [u8s, List.map_set]
  have h3 := Array.getElem?_eq_some_iff.1 h2
  obtain ⟨_, h4⟩ := h3
  simp [World.setCell, Array.getElem?_modify, h2, e]

theorem Rd.below {w w' : World} {b : Nat} {l : List Int} {f : Int} (h : Rd w b l f) (hb : Below w.heap.size w w') : Rd w' b l f := by
  obtain ⟨A, c, h1, h2, h3⟩ := h
  exact ⟨A, c, (hb.block b (lt_of_block h1)).trans h1, h2, h3.below hb⟩
theorem Below.fr {X r : Nat} {W w w' : World} (h : Below X W w) (hW : X ≤ w.heap.size) (k : Fr r none w w') (hr : X ≤ r) : Below X W w' :=
  h.trans (k.below hW hr fun g e => by cases e)

theorem add_zero_at (g m : Nat) : (⟨g, 0, none⟩ : Addr).add m = ⟨g, m, none⟩ := by
  unfold Addr.add
  split <;> simp_all
/-- Items that are kept, as they are read. -/
def ItsO (X : Nat) (w : World) (A : Option Addr) (os : List Itm) : Prop :=
  ∀ j (hj : j < os.length), ∃ ad, A = some ad ∧ ad.block < X ∧ ∃ A1 c1 A2 c2 A3 c3, ItAt (fun g => g < X) w (os[j]'hj) A1 A2 A3 ∧
    w.cell? (ad.add (j * 5)) = some (.int .u8 (os[j]'hj).d) ∧
    w.cell? ⟨(ad.add (j * 5)).block, (ad.add (j * 5)).off + 1, none⟩ = some (.slice A1 (os[j]'hj).xs.length c1) ∧
    w.cell? ⟨(ad.add (j * 5)).block, (ad.add (j * 5)).off + 2, none⟩ = some (.slice A2 (os[j]'hj).ts.length c2) ∧
    w.cell? ⟨(ad.add (j * 5)).block, (ad.add (j * 5)).off + 3, none⟩ = some (.slice A3 (os[j]'hj).vs.length c3) ∧
    w.cell? ⟨(ad.add (j * 5)).block, (ad.add (j * 5)).off + 4, none⟩ = some (.int .i64 (os[j]'hj).m)
theorem ItsO.below {w w' : World} {A : Option Addr} {os : List Itm} (h : ItsO w.heap.size w A os) (hb : Below w.heap.size w w') : ItsO w.heap.size w' A os := fun j hj => by
  obtain ⟨ad, e, lt, A1, c1, A2, c2, A3, c3, hat, k0, k1, k2, k3, k4⟩ := h j hj
  have hblk : (ad.add (j * 5)).block < w.heap.size := by rw [block_add]; exact lt
  exact ⟨ad, e, lt, A1, c1, A2, c2, A3, c3, hat.kept hb.size (fun g hg s => ⟨hb.block g hg, s⟩), (hb.cell (p := ad.add (j * 5)) hblk).trans k0, (hb.cell (p := ⟨_, _, none⟩) hblk).trans k1, (hb.cell (p := ⟨_, _, none⟩) hblk).trans k2, (hb.cell (p := ⟨_, _, none⟩) hblk).trans k3, (hb.cell (p := ⟨_, _, none⟩) hblk).trans k4⟩
theorem ItsO.of {S : Nat → Prop} {w : World} {B : Nat} {v : Value} {cs : List Value} {os : List Itm} (h : w.ownsRow B 32 5 v os.length cs) (hc : Cells5 S w cs os) : ∃ A c, v = .slice A os.length c ∧ ItsO w.heap.size w A os := by
  rcases h.2 with ⟨rfl, e0⟩ | ⟨g, cap, cur, rfl, hg, hh, hnc, _, hcs, htake⟩
  · exact ⟨none, 0, by rw [e0], fun j hj => by omega⟩
  · refine ⟨_, cap, rfl, fun j hj => ⟨_, rfl, lt_of_block hh, ?_⟩⟩
    obtain ⟨A1, c1, A2, c2, A3, c3, h1, h2⟩ := hc.2 j hj
    have hlen := hc.1
    have hcell : ∀ i, i < 5 → w.cell? ⟨g, j * 5 + i, none⟩ = (itV os[j] A1 c1 A2 c2 A3 c3)[i]? := fun i hi => by
      rw [← add_zero_at, h.cells (g := g) rfl (j * 5 + i) (cs[j * 5 + i]'(by omega)) (by simp), ← h1 i hi]
      simp [show j * 5 + i < cs.length by omega]
    have e0 : (⟨g, 0, none⟩ : Addr).add (j * 5) = ⟨g, j * 5, none⟩ := add_zero_at g _
    refine ⟨A1, c1, A2, c2, A3, c3, h2.kept (Nat.le_refl _) (fun k hk _ => ⟨rfl, hk⟩), ?_, ?_, ?_, ?_, ?_⟩
    · rw [e0]; exact hcell 0 (by decide)
    · rw [e0]; exact hcell 1 (by decide)
    · rw [e0]; exact hcell 2 (by decide)
    · rw [e0]; exact hcell 3 (by decide)
    · rw [e0]; exact hcell 4 (by decide)

theorem drop_flat {α : Type} (f : α → List Int) {xs : List α} {i : Nat} (h : i < xs.length) (R : List Int) : (xs.drop i).flatMap f ++ R = f xs[i] ++ ((xs.drop (i + 1)).flatMap f ++ R) := by
  rw [List.drop_eq_getElem_cons h, List.flatMap_cons, List.append_assoc]

/-- what is read next: a number, a text, a vector -/
theorem rnum_next {r n : Nat} {R : List Int} {w : World} (h : Rd w r (vi n ++ R) 0) (hn : n < U64) (hl : (vi n ++ R).length ≤ 70368744177664) (h8 : Bytes8 (vi n ++ R)) :
    Calls Try.prog 16 #[.pointer (some ⟨r, 0, none⟩), .int .u64 18446744073709551615] w fun e w' => e = .returned (.int .u64 (n : Int)) ∧ Rd w' r R 0 ∧ Fr r none w w' := by
  have := rnum_any r 18446744073709551615 (vi n ++ R) w h hl h8
  rw [numR_vi hn, if_neg (by unfold U64 at hn; omega)] at this
  refine this.mono ?_
  rintro e w' ⟨e1, h1, h2⟩
  simp only [List.drop_left] at h1
  exact ⟨e1, h1, h2⟩
theorem rtext_next {r : Nat} {t R : List Int} {w : World} (h : Rd w r (textB t ++ R) 0) (hn : t.length ≤ 40) (hl : (textB t ++ R).length ≤ 70368744177664) (h8 : Bytes8 (textB t ++ R)) :
    Calls Try.prog 17 #[.pointer (some ⟨r, 0, none⟩), .int .i64 100] w fun e w' => ∃ A c, e = .returned (.slice A t.length c) ∧ Row (fun g => g < r) w' A (u8s t) ∧ Rd w' r R 0 ∧ Fr r none w w' := by
  have := rtext_any r 100 (textB t ++ R) w h hl h8 (by decide) 100 rfl
  rw [show textR (textB t ++ R) 100 = (t, R, 0) by unfold textB; rw [textR_text (by unfold U64; omega), if_neg (by omega)]] at this
  refine this.mono ?_
  rintro e w' ⟨A, c, e1, _, h1, h2, h3⟩
  exact ⟨A, c, e1, h1, h2, h3⟩
theorem rvec_next {r : Nat} {t R : List Int} {w : World} (h : Rd w r (vecB t ++ R) 0) (hn : t.length ≤ 12) (hi : ∀ y ∈ t, I32 y) (hl : (vecB t ++ R).length ≤ 17592186044416) (h8 : Bytes8 (vecB t ++ R)) :
    Calls Try.prog 19 #[.pointer (some ⟨r, 0, none⟩), .int .i64 100] w fun e w' => ∃ A c, e = .returned (.slice A t.length c) ∧ Row (fun _ => True) w' A (i32s t) ∧ Rd w' r R 0 ∧ Fr r none w w' := by
  have := rvec_any r 100 (vecB t ++ R) w h hl h8 (by decide) 100 rfl
  rw [show vecR (vecB t ++ R) 100 = (t, (vecB t).length, 0) by rw [vecR_vec hi (by unfold U64; omega), if_neg (by omega)]] at this
  refine this.mono ?_
  rintro e w' ⟨A, c, e1, _, h1, h2, h3⟩
  simp only [List.drop_left] at h2
  exact ⟨A, c, e1, h1.any, h2, h3⟩

end Go.Proofs.Ytlambcmikfihgaa
