/-
  The contract of awake: the document's examples.
-/
import Derived.Test.YtlambcmikfihgaaVecs
import Derived.Test.YtlambcmikfihgaaOpen
import Derived.Test.YtlambcmikfihgaaSame
namespace Go.Proofs.Ytlambcmikfihgaa
open Go.RowKit

theorem Wr.new (w : World) : Wr (w.alloc (.cells #[.slice none 0 0] 27)) w.heap.size w.heap.size (.slice none 0 0) [] :=
  ⟨heap_alloc_new w _, World.ownsRow_nil _ _ _ _, by simp⟩
theorem Wr.same {w w' : World} {B b : Nat} {v : Value} {l : List Int} (h : Wr w B b v l) (hb : Below w.heap.size w w') : Wr w' B b v l :=
  ⟨(hb.block b (lt_of_block h.blk)).trans h.blk, by
    obtain ⟨h1, h2⟩ := h.own
    refine ⟨h1, ?_⟩
    rcases h2 with h2 | ⟨g, cap, cur, rfl, hg, hh, r⟩
    · exact .inl h2
    · exact .inr ⟨g, cap, cur, rfl, hg, (hb.block g (lt_of_block hh)).trans hh, r⟩, by have := hb.size; have := h.low; omega⟩
theorem Wr.alloc {w : World} {B b : Nat} {v : Value} {l : List Int} (h : Wr w B b v l) (o : Obj) : Wr (w.alloc o) B b v l := h.same ((Below.refl _ _).alloc (Nat.le_refl _) o)
theorem Wr.lowO {w : World} {B b : Nat} {v : Value} {l : List Int} (h : Wr w B b v l) : ∀ g, v.ownBlock = some g → B ≤ g := fun g e => (h.own.lt g e).1
theorem Wr.ltO {w : World} {B b : Nat} {v : Value} {l : List Int} (h : Wr w B b v l) : ∀ g, v.ownBlock = some g → g < w.heap.size := fun g e => (h.own.lt g e).2
theorem Wrote.below {B b : Nat} {v : Value} {w w' : World} {l : List Int} {l' : List Int} (h : Wrote B b v w l' w') (h0 : Wr w B b v l) (hB : B ≤ b) : Below B w w' := by
  obtain ⟨v', _, f, _⟩ := h
  exact f.below h0.low hB h0.lowO
/-- a block that is new is off a Writer's memory -/
theorem Wr.off {w : World} {B b : Nat} {v : Value} {l : List Int} (h : Wr w B b v l) {g : Nat} (hg : w.heap.size ≤ g) : OffW b v g :=
  ⟨by have := lt_of_block h.blk; omega, fun e => by have := h.ltO g e.symm; omega⟩

theorem new_at {w : World} {o : Obj} {g : Nat} (h : w.heap.size = g) : (w.alloc o).heap[g]? = some o := by subst h; exact heap_alloc_new w o
theorem Row.of_cells {S : Nat → Prop} {w : World} {g : Nat} {cs : Array Value} {xs : List Value} {t : TypeId} {fr : Nat × Nat} (h : w.heap[g]? = some (.cells cs t fr)) (e : cs.toList = xs) (hS : S g) : Row S w (some ⟨g, 0, none⟩) xs := by
  subst e
  exact Row.of_block (xs := cs.toList) (by simpa using h) hS

theorem ex_bytes : ([] ++ [5, 300].flatMap vi) ++ [[1, -1]].flatMap vecB = [5, 172, 2, 2, 2, 1] := by
  have a : vi 5 = [5] := vi_lt (by omega)
  have b : vi 300 = [172, 2] := by rw [vi_ge (by omega), vi_lt (by omega)]; rfl
  have c : vi 2 = [2] := vi_lt (by omega)
  have d : vi 1 = [1] := vi_lt (by omega)
  have e1 : foldI 1 = 2 := rfl
  have e2 : foldI (-1) = 1 := rfl
  simp [vecB, wholes, a, b, c, d, e1, e2]
theorem ex_ok : ∀ ys ∈ [[1, -1]], (∀ y ∈ ys, I32 y) ∧ ys.length < U64 := by simp [I32, U64]
theorem ex_len : ([] ++ [5, 300].flatMap vi).length + bulkV [[1, -1]] ≤ 70368744177664 := by
  have := flat_len [5, 300] (by simp [U64])
  simp [bulkV] at this ⊢
  omega
theorem ex_8 : Bytes8 [128, 0] := by simp [Bytes8]
theorem ex_8' : Bytes8 [5, 172, 2, 2, 2, 1] := by simp [Bytes8]
theorem ex_num : numR [128, 0] 9 = (0, 0, 4) := by
  simp [numR, nsz, badForm, lastOf]

set_option maxRecDepth 100000 in
set_option maxHeartbeats 800000 in
theorem awake_any (w : World) : Calls Try.prog 5 #[] w fun e w' => e = .returned (.bool true) ∧ Below w.heap.size w w' := by
  obtain ⟨w1, hw1e⟩ : ∃ x, x = (w.alloc (.cells #[.slice none 0 0] 27)).alloc (.cells #[.int .u64 5, .int .u64 300] 35) := ⟨_, rfl⟩
  have hw1 : Wr w1 w.heap.size w.heap.size (.slice none 0 0) [] := by rw [hw1e]; exact (Wr.new w).alloc _
  have hr1 : Row (OffW w.heap.size (.slice none 0 0)) w1 (some ⟨w.heap.size + 1, 0, none⟩) (u64s [5, 300]) := by
    rw [hw1e]
    exact Row.of_cells (new_at (by simp)) (by simp [u64s]) ((Wr.new w).off (by simp))
  have hb1 : Below w.heap.size w w1 := by rw [hw1e]; exact ((Below.refl _ _).alloc (Nat.le_refl _) _).alloc (by simp) _
  have H1 := Lib.hid hw1e
  clear hw1e
  go_enter Try.func5, Try.ntmps5
  go_wp2_with fail
  rw [← H1.out]
  refine (nums_any w.heap.size w.heap.size 2 _ [] [5, 300] _ _ hw1 hr1 (by decide) (by decide)).mono ?_
  rintro e w2 ⟨rfl, hw2⟩
  have hb2 := hb1.trans (hw2.below hw1 (Nat.le_refl _))
  obtain ⟨v2, hv2, _, _⟩ := hw2
  clear hw1 hr1 hb1 H1
  go_wp2_with fail
  obtain ⟨w3, hw3e⟩ : ∃ x, x = (w2.alloc (.cells #[.int .i32 1, .int .i32 (-1)] 21)).alloc (.cells #[.slice (some ⟨w2.heap.size, 0, none⟩) 2 2] 40) := ⟨_, rfl⟩
  have hw3 : Wr w3 w.heap.size w.heap.size v2 ([] ++ [5, 300].flatMap vi) := by rw [hw3e]; exact (hv2.alloc _).alloc _
  have hr3 : Rows (OffW w.heap.size v2) w3 (some ⟨w2.heap.size + 1, 0, none⟩) [[1, -1]] := by
    rw [hw3e]
    refine ⟨[.slice (some ⟨w2.heap.size, 0, none⟩) 2 2], rfl, Row.of_cells (new_at (by simp)) rfl (hv2.off (by simp)), fun k hk => ?_⟩
    obtain rfl : k = 0 := by simpa using hk
    exact ⟨_, 2, rfl, (Row.of_cells (new_at rfl) rfl (hv2.off (Nat.le_refl _))).alloc _⟩
  have hb3 : Below w.heap.size w w3 := by rw [hw3e]; exact (hb2.alloc hb2.size _).alloc (by have := hb2.size; simp; omega) _
  rw [← hw3e]
  clear hw3e hb2 hv2
  refine (vecs_any w.heap.size w.heap.size 1 v2 _ [[1, -1]] _ _ hw3 hr3 ex_ok ex_len (by decide)).mono ?_
  rintro e w4 ⟨rfl, hw4⟩
  have hb4 := hb3.trans (hw4.below hw3 (Nat.le_refl _))
  rw [ex_bytes] at hw4
  obtain ⟨v4, hv4, _, _⟩ := hw4
  clear hw3 hr3 hb3
  go_wp2_with fail
  refine (bytes_any _ _ v4 _ _ hv4 (by decide)).mono ?_
  rintro e w5 ⟨g, rfl, hg, hgb, hb5⟩
  have hb5' := hb4.trans (hb5.mono hb4.size)
  go_wp2_with fail
  have hr6 : Row (fun _ => True) (w5.alloc (.cells #[.int .u8 128, .int .u8 0] 5)) (some ⟨w5.heap.size, 0, none⟩) (u8s [128, 0]) := Row.of_cells (new_at rfl) rfl trivial
  refine (newReader_any _ _ 2 [128, 0] _ hr6 (by decide)).mono ?_
  rintro e w7 ⟨b7, rfl, hb7, hrd7, hbl7⟩
  have hgb7 : w7.heap[g]? = some (.cells (u8s [5, 172, 2, 2, 2, 1]).toArray 5 (0, 0)) := by
    have hlt := lt_of_block hgb
    rw [hbl7.block g (by simp; omega), Below.heap_alloc _ _ _ hlt]; exact hgb
  have hg5 := lt_of_block hgb
  have hs5 := hb5'.size
  have hbw7 : Below w.heap.size w w7 := (hb5'.alloc hb5'.size _).trans (hbl7.mono (by have := hb5'.size; simp; omega))
  clear hr6 hb5 hb5' hgb hbl7
  have hb7w : w5.heap.size + 1 ≤ b7 := by simpa using hb7
  clear hb7
  go_wp2_with fail
  refine (rnum_any b7 9 [128, 0] _ hrd7 (by decide) ex_8).mono ?_
  rintro e w8 ⟨rfl, hrd8, hf8⟩
  rw [ex_num] at hrd8 ⊢
  have hb8 : Below w.heap.size w w8 := hbw7.trans (hf8.below hbw7.size (by omega) (fun _ h => by cases h))
  have hgb8 : w8.heap[g]? = some (.cells (u8s [5, 172, 2, 2, 2, 1]).toArray 5 (0, 0)) := (hf8.block g (lt_of_block hgb7) (by omega) (by simp)).trans hgb7
  clear hbw7 hgb7 hf8 hrd7
  go_wp2_with fail
  have hrA : Row (fun _ => True) (w8.alloc (.cells #[.int .u8 5, .int .u8 172, .int .u8 2, .int .u8 2, .int .u8 2, .int .u8 1] 5)) (some ⟨g, 0, none⟩) (u8s [5, 172, 2, 2, 2, 1]) := (Row.of_block hgb8 trivial).alloc _
  have hrB : Row (fun _ => True) (w8.alloc (.cells #[.int .u8 5, .int .u8 172, .int .u8 2, .int .u8 2, .int .u8 2, .int .u8 1] 5)) (some ⟨w8.heap.size, 0, none⟩) (u8s [5, 172, 2, 2, 2, 1]) := Row.of_cells (new_at rfl) rfl trivial
  refine (same_any _ _ _ _ 6 6 [5, 172, 2, 2, 2, 1] [5, 172, 2, 2, 2, 1] _ hrA hrB ex_8' ex_8').mono ?_
  rintro e w9 ⟨rfl, rfl⟩
  have hb9 := hb8.alloc hb8.size (.cells #[.int .u8 5, .int .u8 172, .int .u8 2, .int .u8 2, .int .u8 2, .int .u8 1] 5)
  have hrd9 : Rd (w8.alloc (.cells #[.int .u8 5, .int .u8 172, .int .u8 2, .int .u8 2, .int .u8 2, .int .u8 1] 5)) b7 (List.drop 0 [128, 0]) 4 := by
    obtain ⟨A, c, h1, h2, h3⟩ := hrd8
    exact ⟨A, c, (Below.heap_alloc _ _ _ (lt_of_block h1)).trans h1, h2, h3.alloc _⟩
  clear hrA hrB hgb8 hb8 hrd8
  rw [show ([5, 172, 2, 2, 2, 1] == ([5, 172, 2, 2, 2, 1] : List Int)) = true from rfl]
  go_wp2_with fail
  refine (end_any b7 _ 4 _ hrd9).mono ?_
  rintro e w10 ⟨rfl, rfl⟩
  rw [show endR (List.drop 0 [128, 0]) 4 = 4 from rfl]
  go_wp2_with fail
  go_ret
  exact ⟨rfl, hb9⟩

end Go.Proofs.Ytlambcmikfihgaa
