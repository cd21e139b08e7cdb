/-
  The contract of awake: the document's example.
-/
import Derived.Test.YtfhnhfppamnjhaaHits
namespace Go.Proofs.Ytfhnhfppamnjhaa
open Go.RowKit Go.Maps

/-- hits in a block of their own -/
theorem hitsAt_block {S : Nat → Prop} {w : World} {g n : Nat} {cs : List Value} {hs : List Hit} (hh : w.heap[g]? = some (.cells cs.toArray 36 (0, 0))) (hn : hs.length = n) (hm : n ≤ maxLen) (h : Cells3 S w cs hs) : HitsAt (fun k => k = g ∨ S k) w (some ⟨g, 0, none⟩) hs := by
  have hl := h.1
  have ho : w.ownsRow g 36 3 (.slice (some ⟨g, 0, none⟩) hs.length n) hs.length cs := ⟨hl, .inr ⟨g, n, cs.toArray, rfl, Nat.le_refl _, hh, by omega, hm, by simp [hl, hn], by rw [← hl]; simp⟩⟩
  obtain ⟨A, c, e, _, hat⟩ := Cells3.hitsAt (T := fun k => k = g ∨ S k) ho h rfl (fun k s => .inr s) (fun k _ e => .inl (by simpa [Value.ownBlock] using e))
  injection e with e _ _
  subst e
  exact hat

theorem awake_math : putAll 2 [] [(1, 5, []), (2, 3, []), (3, 4, [])] = ([(2, 3, []), (3, 4, [])], 3) := by decide

set_option maxRecDepth 100000 in
set_option maxHeartbeats 1000000 in
theorem awake_any (w : World) : Calls Try.prog 9 #[] w fun e w' => e = .returned (.bool true) ∧ Below w.heap.size w w' := by
  have HN := Lib.hid (new_any 2 w (by decide) (by decide))
  go_enter Try.func9, Try.ntmps9
  go_wp2_with fail
  refine (HN.out).mono ?_
  rintro e w1 ⟨rfl, L1, hb1⟩
  have hs1 := L1.lt
  obtain ⟨w2, hw2⟩ : ∃ x, x = w1.alloc (.cells #[.int .u64 1, .int .u64 5, .slice none 0 0, .int .u64 2, .int .u64 3, .slice none 0 0, .int .u64 3, .int .u64 4, .slice none 0 0] 36) := ⟨_, rfl⟩
  have hb2 : Below w1.heap.size w1 w2 := by rw [hw2]; exact (Below.refl _ _).alloc (Nat.le_refl _) _
  have hblk : w2.heap[w1.heap.size]? = some (.cells [Value.int .u64 1, .int .u64 5, .slice none 0 0, .int .u64 2, .int .u64 3, .slice none 0 0, .int .u64 3, .int .u64 4, .slice none 0 0].toArray 36 (0, 0)) := by rw [hw2]; exact heap_alloc_new w1 _
  have hc3 : Cells3 (fun _ => False) w2 [Value.int .u64 1, .int .u64 5, .slice none 0 0, .int .u64 2, .int .u64 3, .slice none 0 0, .int .u64 3, .int .u64 4, .slice none 0 0] [(1, 5, []), (2, 3, []), (3, 4, [])] := by
    have h1 : ∀ a b : Int, Cells3 (fun _ => False) w2 [Value.int .u64 a, .int .u64 b, .slice none 0 0] [((a, b, []) : Hit)] := fun a b => Cells3.one (a, b, []) none 0 (Nat.le_refl _) Row.nil
    exact ((h1 1 5).append (h1 2 3)).append (h1 3 4)
  have hat := hitsAt_block hblk rfl (by unfold maxLen; decide) hc3
  have hadd := add_any _ w.heap.size (w.heap.size + 1) w.heap.size 0 2 (.slice none 0 0) [] [(1, 5, []), (2, 3, []), (3, 4, [])] _ 3 w2 (L1.below hb2) (Good.start 2) (by decide) (by decide) (by decide) hat (fun g hg s => by
    rcases s with rfl | s
    · exact ⟨by omega, by omega, by simp [Value.ownBlock]⟩
    · cases s) (fun x hx => by
    simp only [List.mem_cons, List.not_mem_nil, or_false] at hx
    rcases hx with rfl | rfl | rfl <;> exact ⟨by decide, by decide, by decide⟩)
  rw [awake_math] at hadd
  have HA := Lib.hid hadd
  clear hadd hat hc3 hblk
  have HB2 := Lib.hid hb2
  have HB1 := Lib.hid hb1
  clear hb1 hb2
  go_wp2_with fail
  rw [← hw2]
  refine (HA.out).mono ?_
  rintro e w3 ⟨rfl, v3, L3, C3⟩
  have hb3 : Below w.heap.size w w3 := by
    refine HB1.out.trans ((HB2.out.mono HB1.out.size).trans ⟨C3.os, C3.tape, C3.output, C3.size, fun k hk => C3.block k ?_ ?_ ?_ ?_⟩)
    · have := HB1.out.size; have := HB2.out.size; omega
    · omega
    · omega
    · simp [Value.ownBlock]
  have HH := Lib.hid (hits_any w.heap.size (w.heap.size + 1) w.heap.size _ 2 v3 _ w3 L3 (by decide) (fun x hx => by
    simp only [List.mem_cons, List.not_mem_nil, or_false] at hx
    rcases hx with rfl | rfl <;> exact ⟨by decide, by decide, by decide⟩))
  clear L3 C3 HA HN hw2
  go_wp2_with fail
  refine (HH.out).mono ?_
  rintro e w4 ⟨v4, rfl, ⟨cs, hrow, hcell⟩, hb4⟩
  obtain ⟨d0, _⟩ := hcell.2 0 (2, 3, []) rfl
  obtain ⟨d1, _⟩ := hcell.2 1 (3, 4, []) rfl
  rcases hrow.2 with ⟨_, h0⟩ | ⟨g, cap, cur, rfl, _⟩
  · exact absurd h0 (by decide)
  · have e0 := cells_hits (g := g) hrow rfl _ _ d0
    have e1 := cells_hits (g := g) hrow rfl _ _ d1
    rw [Addr.add_lit] at e0 e1
    simp only [Nat.zero_mul, Nat.add_zero, Nat.one_mul, Nat.zero_add] at e0 e1
    clear hcell hrow d0 d1
    go_wp2_with fail
    go_ret
    exact ⟨rfl, hb3.trans (hb4.mono hb3.size)⟩

end Go.Proofs.Ytfhnhfppamnjhaa
