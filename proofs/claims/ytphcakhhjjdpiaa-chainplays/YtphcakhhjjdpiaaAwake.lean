/-
  The contract of awake: the document's example.
-/
import Derived.Test.YtphcakhhjjdpiaaSweep
import Derived.Test.YtphcakhhjjdpiaaNew
namespace Go.Proofs.Ytphcakhhjjdpiaa
open Go.RowKit

/-- versions in a block of their own -/
theorem versAt_block {K : Nat → Prop} {w : World} {g n t : Nat} {cs : List Value} {vs : List Ver} (hh : w.heap[g]? = some (.cells cs.toArray t (0, 0))) (hn : vs.length = n) (hm : n ≤ maxLen) (h : Cells2 K w cs vs) : VersAt (fun k => k = g) K w (some ⟨g, 0, none⟩) vs := by
  have hl := h.1
  have ho : w.ownsRow g t 2 (.slice (some ⟨g, 0, none⟩) vs.length n) vs.length cs := ⟨hl, .inr ⟨g, n, cs.toArray, rfl, Nat.le_refl _, hh, by omega, hm, by simp [hl, hn], by rw [← hl]; simp⟩⟩
  obtain ⟨A, c, e, _, hat⟩ := Cells2.versAt (T := fun k => k = g) ho h rfl (fun k _ s => s) (fun k _ e => by simpa [Value.ownBlock] using e)
  injection e with e _ _
  subst e
  exact hat

def exV : List Ver := [(5, [1]), (7, []), (9, [2])]
theorem exV_put : putAll [] exV = (exV, 0) := by decide
theorem exV_rise : Rise exV := by unfold Rise exV; simp
theorem exV_at6 : asOf exV 6 = [1] := by decide
theorem exV_at7 : asOf exV 7 = [] := by decide
theorem exV_sw : swN exV 8 = 2 := by decide

set_option maxRecDepth 100000 in
set_option maxHeartbeats 1000000 in
theorem awake_any (w : World) : Calls Try.prog 8 #[] w fun e w' => e = .returned (.bool true) ∧ Below w.heap.size w w' := by
  obtain ⟨w3, hw3⟩ : ∃ x, x = ((w.alloc (.cells #[.int .i32 1] 21)).alloc (.cells #[.int .i32 2] 21)).alloc (.cells #[.int .u64 5, .slice (some ⟨w.heap.size, 0, none⟩) 1 1, .int .u64 7, .slice none 0 0, .int .u64 9, .slice (some ⟨w.heap.size + 1, 0, none⟩) 1 1] 41) := ⟨_, rfl⟩
  have hb3 : Below w.heap.size w w3 := by rw [hw3]; exact (((Below.refl _ _).alloc (Nat.le_refl _) _).alloc (by simp) _).alloc (by simp; omega) _
  have hs3 : w3.heap.size = w.heap.size + 3 := by rw [hw3]; simp
  have h0 : w3.heap[w.heap.size]? = some (.cells (i32s [1]).toArray 21 (0, 0)) := by
    rw [hw3, Below.heap_alloc _ _ _ (by simp; omega), Below.heap_alloc _ _ _ (by simp)]; exact heap_alloc_new w _
  have h1 : w3.heap[w.heap.size + 1]? = some (.cells (i32s [2]).toArray 21 (0, 0)) := by
    rw [hw3, Below.heap_alloc _ _ _ (by simp)]
    have := heap_alloc_new (w.alloc (.cells #[.int .i32 1] 21)) (.cells #[.int .i32 2] 21)
    rw [show (i32s [2]).toArray = #[Value.int .i32 2] from rfl]
    simpa using this
  have h2 : w3.heap[w.heap.size + 2]? = some (.cells [Value.int .u64 5, .slice (some ⟨w.heap.size, 0, none⟩) 1 1, .int .u64 7, .slice none 0 0, .int .u64 9, .slice (some ⟨w.heap.size + 1, 0, none⟩) 1 1].toArray 41 (0, 0)) := by
    rw [hw3]
    have := heap_alloc_new ((w.alloc (.cells #[.int .i32 1] 21)).alloc (.cells #[.int .i32 2] 21)) (.cells #[.int .u64 5, .slice (some ⟨w.heap.size, 0, none⟩) 1 1, .int .u64 7, .slice none 0 0, .int .u64 9, .slice (some ⟨w.heap.size + 1, 0, none⟩) 1 1] 41)
    simpa using this
  have hc : Cells2 (fun _ => True) w3 [Value.int .u64 5, .slice (some ⟨w.heap.size, 0, none⟩) 1 1, .int .u64 7, .slice none 0 0, .int .u64 9, .slice (some ⟨w.heap.size + 1, 0, none⟩) 1 1] exV :=
    ((Cells2.one (5, [1]) _ 1 (Nat.le_refl _) (Row.of_block h0 trivial)).append (Cells2.one (7, []) none 0 (Nat.le_refl _) Row.nil)).append (Cells2.one (9, [2]) _ 1 (Nat.le_refl _) (Row.of_block h1 trivial))
  have hat := versAt_block h2 rfl (by unfold maxLen; decide) hc
  have hN := new_any _ _ (fun _ => True) _ 3 exV w3 hat (by decide) (by decide) (fun _ _ => trivial)
  have HN := Lib.hid hN
  have HB3 := Lib.hid hb3
  clear hN hat hc h0 h1 h2 hb3 hs3
  go_enter Try.func8, Try.ntmps8
  go_wp2_with fail
  rw [← hw3]
  refine (HN.out).mono ?_
  rintro e w4 ⟨hb4, ⟨_, v, rfl, L4⟩ | ⟨h, _⟩⟩
  case inr => rw [exV_put] at h; exact absurd rfl h
  rw [exV_put] at L4
  have HL := Lib.hid L4
  have HB4 := Lib.hid hb4
  clear hw3 HN L4 hb4
  have hA6 : Hid (∀ W, Below w4.heap.size w4 W → Calls Try.prog 17 #[.pointer (some ⟨w3.heap.size, 0, none⟩), .int .u64 6] W fun e w' => GaveAt W [1] e w') := fun W hW => by
    have := at_any _ w3.heap.size w3.heap.size v exV 6 W (HL.out.below hW) exV_rise (by decide) (by decide)
    rw [exV_at6] at this
    exact this
  have hA7 : Hid (∀ W, Below w4.heap.size w4 W → Calls Try.prog 17 #[.pointer (some ⟨w3.heap.size, 0, none⟩), .int .u64 7] W fun e w' => GaveAt W [] e w') := fun W hW => by
    have := at_any _ w3.heap.size w3.heap.size v exV 7 W (HL.out.below hW) exV_rise (by decide) (by decide)
    rw [exV_at7] at this
    exact this
  have hS : Hid (∀ W, Below w4.heap.size w4 W → Calls Try.prog 12 #[.pointer (some ⟨w3.heap.size, 0, none⟩), .int .u64 8] W fun e w' => ∃ A c v', e = .returned (.slice A 2 c) ∧ Row (fun g => W.heap.size ≤ g) w' A (u64s [5, 7]) ∧ Chg W w' w3.heap.size v v') := fun W hW => by
    refine (sweep_any _ w3.heap.size w3.heap.size v exV 8 W (HL.out.below hW) exV_rise (by decide)).mono ?_
    rintro e w' ⟨A, c, v', e1, e2, _, e3⟩
    have ht : stamps (exV.take (swN exV 8)) = [5, 7] := by rw [exV_sw]; rfl
    rw [ht] at e1 e2
    exact ⟨A, c, v', e1, e2, e3⟩
  have hvl : Hid (∀ g, v.ownBlock = some g → w3.heap.size ≤ g ∧ g < w4.heap.size) := fun g e => HL.out.low e
  have hbl : w3.heap.size < w4.heap.size := HL.out.lt.1
  clear HL
  go_wp2_with fail
  refine (hA6.out w4 (Below.refl _ _)).mono ?_
  rintro e w5 ⟨A5, c5, rfl, hc5, r5, _, hb5⟩
  have HR5 := Lib.hid r5
  have HB5 := Lib.hid hb5
  have hx5 : w4.heap.size ≤ w5.heap.size := hb5.size
  clear r5 hb5 hA6
  have hg1 : goneB [1] = false := rfl
  go_wp2_with fail
  refine (hA7.out w5 HB5.out).mono ?_
  rintro e w6 ⟨A6, c6, rfl, hc6, r6, _, hb6⟩
  have hx6 : w5.heap.size ≤ w6.heap.size := hb6.size
  have HB6 := Lib.hid (HB5.out.trans (hb6.mono hx5))
  have HR6 := Lib.hid (HR5.out.below hb6)
  have hg0 : goneB [] = true := rfl
  clear r6 hb6 HR5 HB5 hA7
  go_wp2_with fail
  refine (hS.out w6 HB6.out).mono ?_
  rintro e w7 ⟨A7, c7, v7, rfl, r7, C7⟩
  have r57 : Row (fun g => w4.heap.size ≤ g) w7 A5 (i32s [1]) := HR6.out.kept C7.size fun g hg s => C7.block g hg (by omega) (fun e => by have := (hvl.out g e.symm).2; omega)
  obtain ⟨ad, rfl, _, _, d0⟩ := r57 0 (by decide)
  obtain ⟨bd, rfl, _, _, f1⟩ := r7 1 (by decide)
  have d0' : w7.cell? (ad.add 0) = some (.int .i32 1) := d0
  have d0'' : w7.cell? ad = some (.int .i32 1) := by simpa [Addr.add] using d0'
  have f1' : w7.cell? (bd.add 1) = some (.int .u64 7) := f1
  have f1'' : w7.cell? ⟨bd.block, bd.off + 1, none⟩ = some (.int .u64 7) := by simpa [Addr.add] using f1'
  have HF : Hid (Below w.heap.size w w7) := C7.below (HB3.out.trans ((HB4.out.trans (HB6.out.mono HB4.out.size)).mono HB3.out.size)) HB3.out.size (fun g e => by have := (hvl.out g e).1; have := HB3.out.size; omega)
  clear r57 r7 C7 d0 f1 hS HR6
  go_wp2_with fail
  go_ret
  exact ⟨rfl, HF.out⟩

end Go.Proofs.Ytphcakhhjjdpiaa
