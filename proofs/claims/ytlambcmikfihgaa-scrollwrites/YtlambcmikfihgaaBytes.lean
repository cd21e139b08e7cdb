/-
  The contract of (*Writer).Bytes.
-/
import Derived.Test.YtlambcmikfihgaaNum
namespace Go.Proofs.Ytlambcmikfihgaa
open Go.RowKit

theorem Try.size5 : (Try.prog.info? 5).map (·.size) = some 1 := by kernel_rfl

theorem run_make_u8 (n : Nat) (h : n ≤ 70368744177664) : ∃ L : List Value, L.length = n ∧ ∀ u : World, (Instr.makeSlice 25 (.int .i64 (n : Int)) (.int .i64 (n : Int))).run Try.prog u =
    .ok (.slice (some ⟨u.heap.size, 0, none⟩) n n) (u.alloc (.cells L.toArray 5)) := by
  obtain ⟨i0, hi, hz0, hz1, hz2⟩ := info_parts Try.info5
  obtain ⟨L, hL, hn⟩ := made_u8 n
  refine ⟨L, hn, fun u => ?_⟩
  have hm := run_make (P := Try.prog) u 25 5 i0 (.int .u8 0) Try.underlying25 hi hz0 .i64 .i64 (n : Int) (n : Int) (by omega) (Int.le_refl _) (by rw [hz2]; omega) (by omega)
  rw [← hL]
  simpa [hz1, Value.cells] using hm

set_option maxRecDepth 100000 in
set_option maxHeartbeats 400000 in
theorem bytes_any (B b : Nat) (v : Value) (l : List Int) (w : World) (hw : Wr w B b v l) (hl : l.length ≤ 70368744177664) :
    Calls Try.prog 14 #[.pointer (some ⟨b, 0, none⟩)] w fun e w' => Gave w l e w' := by
  obtain ⟨A, cap, rfl, hrow⟩ := hw.row
  obtain ⟨L, hL, hmk⟩ := run_make_u8 l.length hl
  have hcell := cell_of_one hw.blk
  have hblt := lt_of_block hw.blk
  have hc1 : (w.alloc (.cells L.toArray 5)).cell? ⟨b, 0, none⟩ = some (.slice A l.length cap) := (World.cell?_alloc_lt _ _ _ hblt).trans hcell
  have HL := Lib.hid hL
  clear hL
  go_enter Try.func14, Try.ntmps14
  go_wp2_with (with_reducible refine wpList_copy_splice rfl (.tmp 12) (.tmp 16) 25 25 rfl 5 Try.underlying25 Try.size5 (some ⟨w.heap.size, 0, none⟩) A l.length l.length l.length cap rfl rfl w.heap.size 0 L 5 (heap_alloc_new w _) (u8s l) ?c1 ?c2 ?c3 ?c4 w.heap.size w ?c5 (Nat.le_refl _) ?_; rotate_right; intro w2 hg2 hb2)
  case c1 => rw [u8s_len]; exact (Nat.min_self _).symm
  case c2 => exact fun h0 => (hrow.alloc _).cells h0
  case c3 => rw [u8s_len, HL.out]; omega
  case c4 => exact u8s_one l
  case c5 => exact (Below.refl _ _).alloc (Nat.le_refl _) _
  go_ret
  refine ⟨w.heap.size, rfl, Nat.le_refl _, ?_, hb2⟩
  have := hg2.out
  rwa [splice_all (by rw [u8s_len, HL.out])] at this

end Go.Proofs.Ytlambcmikfihgaa
