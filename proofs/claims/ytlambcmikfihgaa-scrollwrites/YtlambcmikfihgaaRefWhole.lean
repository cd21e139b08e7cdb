/-
  The contract of ref02's Whole.
-/
import Derived.Test.YtlambcmikfihgaaRefNum
namespace Go.Proofs.Ytlambcmikfihgaa
open Go.RowKit

set_option maxRecDepth 100000 in
set_option maxHeartbeats 200000 in
theorem refWhole_any (n : Int) (w : World) (h : I32 n) : Calls Try.prog 27 #[.int .i32 n] w fun e w' => GaveO w (vi (foldI n)) e w' := by
  have hU := foldI_lt h
  have HI := refNum_any (foldI n) w hU
  unfold I32 at h
  obtain ⟨h1, h2⟩ := h
  by_cases hn : n < 0
  · have e1 : (foldI n : Int) = -2 * n - 1 := by unfold foldI; rw [if_pos hn]; omega
    rw [e1] at HI
    have e2 : (-2 * n - 1) % 18446744073709551616 = -2 * n - 1 := by omega
    have HI' := Lib.hid HI
    generalize vi (foldI n) = l at *
    clear e1 hU HI
    go_enter Try.func27, Try.ntmps27
    go_wp2_with fail
    refine (HI'.out).mono ?_
    rintro e w2 ⟨A2, c2, rfl, ho2, hb2⟩
    go_wp2_with fail
    go_ret
    exact ⟨A2, c2, rfl, ho2, hb2⟩
  · have e1 : (foldI n : Int) = 2 * n := by unfold foldI; rw [if_neg hn]; omega
    rw [e1] at HI
    have e2 : (2 * n) % 18446744073709551616 = 2 * n := by omega
    have HI' := Lib.hid HI
    generalize vi (foldI n) = l at *
    clear e1 hU HI
    go_enter Try.func27, Try.ntmps27
    go_wp2_with fail
    refine (HI'.out).mono ?_
    rintro e w2 ⟨A2, c2, rfl, ho2, hb2⟩
    go_wp2_with fail
    go_ret
    exact ⟨A2, c2, rfl, ho2, hb2⟩

end Go.Proofs.Ytlambcmikfihgaa
