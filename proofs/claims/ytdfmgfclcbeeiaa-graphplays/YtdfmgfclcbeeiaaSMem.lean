/-
  A row of numbers (uint64) that is sorted where it lies: what a call on it has turned.
-/
import Derived.WalkKit
import Derived.BigQuiet
import Derived.BigRegion
import Derived.Lib.Hide
import Derived.Sort.Grow
import Derived.Sort.LotA
import Derived.Sort.LotB
import Derived.Sort.LotC
import Derived.Sort.LotD1
import Derived.Sort.LotD3
import Derived.CellFam
import Derived.Test.YtdfmgfclcbeeiaaChecked
namespace Go.Proofs.Ytdfmgfclcbeeiaa
open Go.RowKit Go.Sort
set_option linter.unusedSimpArgs false
set_option linter.unusedVariables false

def encU (x : Int) : Value := .int .u64 x

/-- w is w0 but for the row's cells, which hold d, for draws, and for new blocks. -/
structure Ro (w0 w : World) (blk off : Nat) (d : Array Int) : Prop where
  mv : ∃ n os, w = grow (putRow encU (Sort.ahead w0 n) blk off d) os
  hold : Holds encU w blk off d
  lt : blk < w0.heap.size

section
variable {w0 w w' : World} {blk off : Nat} {d d' : Array Int}

theorem Ro.start (h : Holds encU w blk off d) (hb : blk < w.heap.size) : Ro w w blk off d :=
  ⟨⟨0, #[], by
    have h0 : putRow encU (Sort.ahead w 0) blk off d = w := putRow_self encU w blk off d h
    rw [h0]
    simp [grow]⟩, h, hb⟩
theorem Ro.size (h : Ro w0 w blk off d) : w0.heap.size ≤ w.heap.size := by
  obtain ⟨n, os, rfl⟩ := h.mv
  simp [grow, putRow, mapBlock, Sort.ahead]
theorem Ro.drewN (h : Ro w0 w blk off d) (q : Nat) : Ro w0 (w.drewN q) blk off d := by
  obtain ⟨n, os, e⟩ := h.mv
  refine ⟨⟨n + q, os, ?_⟩, h.hold, h.lt⟩
  show Sort.ahead w q = _
  rw [e, ahead_grow, ← putRow_ahead encU (Sort.ahead w0 n), ahead_ahead]
theorem Ro.alloc (h : Ro w0 w blk off d) (o : Obj) : Ro w0 (w.alloc o) blk off d := by
  have hs := h.size
  obtain ⟨n, os, e⟩ := h.mv
  have hl := h.lt
  exact ⟨⟨n, os ++ #[o], by rw [e, alloc_eq_grow, grow_grow]⟩, by rw [alloc_eq_grow]; exact holds_grow encU w _ blk off d (by omega) h.hold, h.lt⟩
theorem Ro.swap (h : Ro w0 w blk off d) {i j : Nat} (hi : i < d.size) (hj : j < d.size) : Ro w0 ((w.setCell ⟨blk, off + i, none⟩ (encU d[j]!)).setCell ⟨blk, off + j, none⟩ (encU d[i]!)) blk off (swp d i j) := by
  have hs := h.size
  have hl := h.lt
  have e1 : (w.setCell ⟨blk, off + i, none⟩ (encU d[j]!)).setCell ⟨blk, off + j, none⟩ (encU d[i]!) = putRow encU w blk off (swp d i j) := by
    have h1 := putRow_swp encU w blk off d i j hi hj
    rw [putRow_self encU w blk off d h.hold] at h1
    exact h1
  obtain ⟨n, os, e⟩ := h.mv
  rw [e1]
  refine ⟨⟨n, os, ?_⟩, holds_putRow encU w blk off d (swp d i j) h.hold (by simp [swp]), h.lt⟩
  rw [e, putRow_grow encU _ os blk off _ (by simpa [putRow, mapBlock, Sort.ahead] using h.lt), putRow_putRow encU _ blk off d (swp d i j) (by simp [swp])]
theorem Ro.trans (h : Ro w0 w blk off d) (k : Ro w w' blk off d') (hs : d'.size = d.size) : Ro w0 w' blk off d' := by
  obtain ⟨n, os, e⟩ := h.mv
  obtain ⟨m, os', e'⟩ := k.mv
  exact ⟨⟨n + m, os ++ os', by rw [e', e]; exact grow_step_grow encU w0 os os' n m blk off d d' h.lt hs⟩, k.hold, h.lt⟩
/-- a cell of a new block is written -/
theorem Ro.set (h : Ro w0 w blk off d) {g k : Nat} (hg : w0.heap.size ≤ g) (v : Value) : Ro w0 (w.setCell ⟨g, k, none⟩ v) blk off d := by
  have hl := h.lt
  have e1 : w.setCell ⟨g, k, none⟩ v = mapBlock w g (·.setIfInBounds k v) := setCell_eq w g k v
  refine ⟨?_, fun j hj => ?_, h.lt⟩
  · obtain ⟨n, os, e⟩ := h.mv
    have hsz : (putRow encU (Sort.ahead w0 n) blk off d).heap.size = w0.heap.size := by simp [putRow, mapBlock, Sort.ahead]
    exact ⟨n, _, by rw [e1, e]; exact mapBlock_grow_new _ os g _ (by rw [hsz]; exact hg)⟩
  · obtain ⟨h1, h2⟩ := h.hold j hj
    refine ⟨?_, ?_⟩
    · rw [← h1]
      exact World.cell?_of_block (Below.heap_setCell w _ v blk (by show blk ≠ g; omega))
    · rw [← h2]
      unfold World.frozen?
      rw [Below.heap_setCell w _ v blk (by show blk ≠ g; omega)]
/-- the row's cells, as a family -/
theorem Ro.fam (h : Ro w0 w blk off d) : ∃ G : Nat → Int, (∀ t, G t = d[t]!) ∧ (∀ t, t < d.size → w.cell? ⟨blk, off + t, none⟩ = some (.int .u64 (G t))) ∧ ∀ t, t < d.size → w.frozen? ⟨blk, off + t, none⟩ = false :=
  ⟨fun t => d[t]!, fun _ => rfl, fun t ht => (h.hold t ht).1, fun t ht => (h.hold t ht).2⟩
end

/-- what a call that moves the row's numbers within a, b leaves -/
def Moved (w : World) (blk off a b : Nat) (d d' : Array Int) (w' : World) : Prop := Ro w w' blk off d' ∧ PermIn a b d d'
theorem permIn_size {a b : Nat} {d d' : Array Int} (h : PermIn a b d d') : d'.size = d.size := h.1
theorem Moved.trans {w w1 w2 : World} {blk off a b : Nat} {d d1 d2 : Array Int} (h : Moved w blk off a b d d1 w1) (k : Moved w1 blk off a b d1 d2 w2) : Moved w blk off a b d d2 w2 :=
  ⟨h.1.trans k.1 k.2.1, permIn_trans d d1 d2 a b h.2 k.2⟩

theorem isNaN_any (x : Int) (w : World) : Calls Try.prog 64 #[.int .u64 x] w fun e w' => e = .returned (.bool false) ∧ w' = w := by
  go_enter Try.func64, Try.ntmps64
  go_wp2
  go_ret
  simp
theorem less_any (x y : Int) (w : World) : Calls Try.prog 54 #[.int .u64 x, .int .u64 y] w fun e w' => e = .returned (.bool (ltInt x y)) ∧ w' = w := by
  go_enter Try.func54, Try.ntmps54
  go_wp2_with (go_at_call 64; refine (isNaN_any _ _).mono ?_; rintro e w' ⟨rfl, rfl⟩)
  all_goals (go_ret; simp [ltInt])

end Go.Proofs.Ytdfmgfclcbeeiaa
