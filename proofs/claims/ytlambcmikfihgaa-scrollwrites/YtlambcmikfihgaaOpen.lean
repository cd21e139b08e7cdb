/-
  The contract of NewReader.
-/
import Derived.Test.YtlambcmikfihgaaBytes
namespace Go.Proofs.Ytlambcmikfihgaa
open Go.RowKit

set_option maxRecDepth 100000 in
set_option maxHeartbeats 400000 in
theorem newReader_any (S : Nat → Prop) (A : Option Addr) (c : Nat) (l : List Int) (w : World) (hrow : Row S w A (u8s l)) (hl : l.length ≤ 70368744177664) :
    Calls Try.prog 15 #[.slice A l.length c] w fun e w' => Opened w l e w' := by
  obtain ⟨L, hL, hmk⟩ := run_make_u8 l.length hl
  have HL := Lib.hid hL
  clear hL
  go_enter Try.func15, Try.ntmps15
  go_wp2_with (with_reducible refine wpList_copy_splice rfl (.tmp 7) (.tmp 8) 25 25 rfl 5 Try.underlying25 Try.size5 (some ⟨w.heap.size, 0, none⟩) A l.length l.length l.length c rfl rfl w.heap.size 0 L 5 (heap_alloc_new w _) (u8s l) ?c1 ?c2 ?c3 ?c4 w.heap.size w ?c5 (Nat.le_refl _) ?_; rotate_right; intro w2 hg2 hb2)
  case c1 => rw [u8s_len]; exact (Nat.min_self _).symm
  case c2 => exact fun h0 => by simpa using (hrow.alloc _).cells h0
  case c3 => rw [u8s_len, HL.out]; omega
  case c4 => exact u8s_one l
  case c5 => exact (Below.refl _ _).alloc (Nat.le_refl _) _
  go_ret
  have hg3 := hg2.out
  rw [splice_all (by rw [u8s_len, HL.out])] at hg3
  have hlt := lt_of_block hg3
  exact ⟨w2.heap.size, rfl, hb2.size, ⟨_, l.length, heap_alloc_new w2 _, Nat.le_refl _, (Row.of_block hg3 (by omega)).alloc _⟩, hb2.alloc hb2.size _⟩

end Go.Proofs.Ytlambcmikfihgaa
