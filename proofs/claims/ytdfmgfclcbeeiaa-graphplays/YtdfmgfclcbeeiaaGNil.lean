/-
  The calls on no graph.
-/
import Derived.Test.YtdfmgfclcbeeiaaGNew
namespace Go.Proofs.Ytdfmgfclcbeeiaa
open Go.RowKit Go.Maps
set_option linter.unusedSimpArgs false
set_option linter.unusedVariables false
set_option maxRecDepth 100000
set_option maxHeartbeats 1000000

theorem add_nil (w : World) (x : Int) : Calls Try.prog 26 #[.pointer none, .int .u64 x] w fun e w' => e = .returned (.int .i64 6) ∧ w' = w := by
  go_enter Try.func26, Try.ntmps26
  go_wp2_with fail
  go_ret
  exact ⟨rfl, rfl⟩

theorem soft_nil (w : World) (x : Int) : Calls Try.prog 16 #[.pointer none, .int .u64 x] w fun e w' => e = .returned (.slice none 0 0) ∧ w' = w := by
  go_enter Try.func16, Try.ntmps16
  go_wp2_with fail
  go_ret
  exact ⟨rfl, rfl⟩

theorem ends_nil (w : World) (x y : Int) : Calls Try.prog 38 #[.pointer none, .int .u64 x, .int .u64 y] w fun e w' => e = .returned (.int .i64 6) ∧ w' = w := by
  go_enter Try.func38, Try.ntmps38
  go_wp2_with fail
  go_ret
  exact ⟨rfl, rfl⟩

theorem reach_nil (w : World) (x : Int) : Calls Try.prog 17 #[.pointer none, .int .u64 x] w fun e w' => e = .returned (.slice none 0 0) ∧ w' = w := by
  have HH := Lib.hid (has_nil w x)
  go_enter Try.func17, Try.ntmps17
  go_wp2_with fail
  refine (HH.out).mono ?_
  rintro e w' ⟨rfl, rfl⟩
  go_wp2_with fail
  go_ret
  exact ⟨rfl, rfl⟩

theorem bind_nil (w : World) (x y : Int) : Calls Try.prog 25 #[.pointer none, .int .u64 x, .int .u64 y] w fun e w' => e = .returned (.int .i64 6) ∧ w' = w := by
  have HE := Lib.hid (ends_nil w x y)
  go_enter Try.func25, Try.ntmps25
  go_wp2_with fail
  refine (HE.out).mono ?_
  rintro e w' ⟨rfl, rfl⟩
  go_wp2_with fail
  go_ret
  exact ⟨rfl, rfl⟩

theorem link_nil (w : World) (x y : Int) : Calls Try.prog 27 #[.pointer none, .int .u64 x, .int .u64 y] w fun e w' => e = .returned (.int .i64 6) ∧ w' = w := by
  have HE := Lib.hid (ends_nil w x y)
  go_enter Try.func27, Try.ntmps27
  go_wp2_with fail
  refine (HE.out).mono ?_
  rintro e w' ⟨rfl, rfl⟩
  go_wp2_with fail
  go_ret
  exact ⟨rfl, rfl⟩

theorem cut_nil (w : World) (x y : Int) : Calls Try.prog 24 #[.pointer none, .int .u64 x, .int .u64 y] w fun e w' => e = .returned (.int .i64 6) ∧ w' = w := by
  have HE := Lib.hid (ends_nil w x y)
  go_enter Try.func24, Try.ntmps24
  go_wp2_with fail
  refine (HE.out).mono ?_
  rintro e w' ⟨rfl, rfl⟩
  go_wp2_with fail
  go_ret
  exact ⟨rfl, rfl⟩

end Go.Proofs.Ytdfmgfclcbeeiaa
