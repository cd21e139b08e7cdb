/-
  Where a hit stands, or would: the contracts of place's closure, of sort.Search with it, of place; of own; of Full and Len.
-/
import Derived.Test.YtfhnhfppamnjhaaLst
import Derived.Deep.QuietTactic
namespace Go.Proofs.Ytfhnhfppamnjhaa
open Go.RowKit Go.Maps

/-- the pointer to the List, and the hit, as the closure holds them -/
structure Held (w : World) (q b : Nat) (h : Hit) (X : Option Addr) (c : Nat) : Prop where
  ptr : w.cell? ⟨q, 0, none⟩ = some (.pointer (some ⟨b, 0, none⟩))
  h0 : w.cell? ⟨q + 1, 0, none⟩ = some (.int .u64 h.1)
  h1 : w.cell? ⟨q + 1, 1, none⟩ = some (.int .u64 h.2.1)
  h2 : w.cell? ⟨q + 1, 2, none⟩ = some (.slice X h.2.2.length c)
  lt : q + 1 < w.heap.size
theorem Held.below {w w' : World} {q b : Nat} {h : Hit} {X : Option Addr} {c : Nat} (H : Held w q b h X c) (hb : Below w.heap.size w w') : Held w' q b h X c :=
  ⟨(hb.cell (p := ⟨q, 0, none⟩) (by have := H.lt; simp; omega)).trans H.ptr, (hb.cell (p := ⟨q + 1, 0, none⟩) (by have := H.lt; simp; omega)).trans H.h0, (hb.cell (p := ⟨q + 1, 1, none⟩) (by have := H.lt; simp; omega)).trans H.h1, (hb.cell (p := ⟨q + 1, 2, none⟩) (by have := H.lt; simp; omega)).trans H.h2, by have := H.lt; have := hb.size; omega⟩

set_option maxRecDepth 100000 in
set_option maxHeartbeats 1000000 in
theorem closure_any (S : Nat → Prop) (q b : Nat) (h : Hit) (X : Option Addr) (c : Nat) (A : Option Addr) (ca j : Nat) (hs : List Hit) (w : World) (H : Held w q b h X c) (hv : w.cell? ⟨b, 1, none⟩ = some (.slice A hs.length ca)) (hat : HitsAt S w A hs) (hj : j < hs.length) :
    Calls Try.prog 35 #[.int .i64 (j : Int), .pointer (some ⟨q, 0, none⟩), .pointer (some ⟨q + 1, 0, none⟩)] w fun e w' => e = .returned (.bool (!near hs[j] h)) ∧ Below w.heap.size w w' := by
  obtain ⟨ad, rfl, _, hlt, h0, h1, Y, cy, h2, _, _⟩ := hat j hj
  obtain ⟨p0, p1, p2, p3, plt⟩ := H
  have i1 : (j : Int) < (hs.length : Int) := by omega
  have HN : Hid (∀ W, Below w.heap.size w W → Calls Try.prog 31 #[.agg #[.int .u64 hs[j].1, .int .u64 hs[j].2.1, .slice Y hs[j].2.2.length cy], .agg #[.int .u64 h.1, .int .u64 h.2.1, .slice X h.2.2.length c]] W fun e w' => e = .returned (.bool (near hs[j] h)) ∧ Below w.heap.size w w') := fun W hW =>
    (nearer_any _ _ _ _ _ _ _ _ _ _ W).mono fun _ _ ⟨he, hb⟩ => ⟨he, hW.trans (hb.mono hW.size)⟩
  generalize near hs[j] h = r at *
  generalize hs[j].1 = xi at *
  generalize hs[j].2.1 = xd at *
  generalize hs[j].2.2.length = xl at *
  generalize h.1 = yi at *
  generalize h.2.1 = yd at *
  generalize h.2.2.length = yl at *
  clear hat
  go_enter Try.func35, Try.ntmps35
  go_wp2_with fail
  have hbl := lt_of_cell hv
  have hB0 : Below w.heap.size w w.drew := (Below.refl _ _).drew
  go_region_held3 (fun w' => w'.cell? ⟨q, 0, none⟩ = some (.pointer (some ⟨b, 0, none⟩)) ∧ w'.cell? ⟨b, 1, none⟩ = some (.slice (some ad) hs.length ca) ∧ w'.cell? (ad.add (j * 3)) = some (.int .u64 xi) ∧ w'.cell? ⟨(ad.add (j * 3)).block, (ad.add (j * 3)).off + 1, none⟩ = some (.int .u64 xd) ∧ w'.cell? ⟨(ad.add (j * 3)).block, (ad.add (j * 3)).off + 2, none⟩ = some (.slice Y xl cy) ∧ w'.cell? ⟨q + 1, 0, none⟩ = some (.int .u64 yi) ∧ w'.cell? ⟨q + 1, 1, none⟩ = some (.int .u64 yd) ∧ w'.cell? ⟨q + 1, 2, none⟩ = some (.slice X yl c)) (first | exact ⟨p0, hv, h0, h1, h2, p1, p2, p3⟩ | exact hS5)
    (first | (go_at_call 31; refine (HN.out _ hB0).mono ?_; rintro e w5 ⟨rfl, hb5⟩; have hS5 := (⟨(hb5.cell (p := ⟨q, 0, none⟩) (by simp; omega)).trans p0, (hb5.cell (p := ⟨b, 1, none⟩) hbl).trans hv, (hb5.cell (p := ad.add (j * 3)) (by rw [block_add]; exact hlt)).trans h0, (hb5.cell (p := ⟨(ad.add (j * 3)).block, (ad.add (j * 3)).off + 1, none⟩) (by show (ad.add (j * 3)).block < _; rw [block_add]; exact hlt)).trans h1, (hb5.cell (p := ⟨(ad.add (j * 3)).block, (ad.add (j * 3)).off + 2, none⟩) (by show (ad.add (j * 3)).block < _; rw [block_add]; exact hlt)).trans h2, (hb5.cell (p := ⟨q + 1, 0, none⟩) plt).trans p1, (hb5.cell (p := ⟨q + 1, 1, none⟩) plt).trans p2, (hb5.cell (p := ⟨q + 1, 2, none⟩) plt).trans p3⟩ : _ ∧ _ ∧ _ ∧ _ ∧ _ ∧ _ ∧ _ ∧ _)))
  go_wp2_with fail
  go_ret
  exact ⟨rfl, hb5⟩

end Go.Proofs.Ytfhnhfppamnjhaa
