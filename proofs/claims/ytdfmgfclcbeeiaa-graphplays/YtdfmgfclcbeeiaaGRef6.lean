/-
  The document's calls on no graph.
-/
import Derived.Test.YtdfmgfclcbeeiaaGRef2
namespace Go.Proofs.Ytdfmgfclcbeeiaa
open Go.RowKit Go.Maps Go.Sort
set_option linter.unusedSimpArgs false
set_option linter.unusedVariables false
set_option maxRecDepth 100000
set_option maxHeartbeats 1000000

theorem rhas_nil (w : World) (y : Int) : Calls Try.prog 20 #[.pointer none, .int .u64 y] w fun e w' => e = .returned (.bool false) ∧ w' = w := by
  go_enter Try.func20, Try.ntmps20
  go_wp2_with fail
  go_ret
  exact ⟨rfl, rfl⟩
theorem rfind_nil (w : World) (a b : Int) : Calls Try.prog 40 #[.pointer none, .int .u64 a, .int .u64 b] w fun e w' => e = .returned (.tuple #[.int .i64 (-1), .int .i64 6]) ∧ w' = w := by
  go_enter Try.func40, Try.ntmps40
  go_wp2_with fail
  go_ret2
  exact ⟨rfl, rfl⟩
theorem rbind_nil (w : World) (a b : Int) : Calls Try.prog 29 #[.pointer none, .int .u64 a, .int .u64 b] w fun e w' => e = .returned (.int .i64 6) ∧ w' = w := by
  have HF := Lib.hid (rfind_nil w a b)
  go_enter Try.func29, Try.ntmps29
  go_wp2_with fail
  refine (HF.out).mono ?_
  rintro e w' ⟨rfl, rfl⟩
  go_wp2_with fail
  go_ret
  exact ⟨rfl, rfl⟩
theorem rlink_nil (w : World) (a b : Int) : Calls Try.prog 30 #[.pointer none, .int .u64 a, .int .u64 b] w fun e w' => e = .returned (.int .i64 6) ∧ w' = w := by
  have HF := Lib.hid (rfind_nil w a b)
  go_enter Try.func30, Try.ntmps30
  go_wp2_with fail
  refine (HF.out).mono ?_
  rintro e w' ⟨rfl, rfl⟩
  go_wp2_with fail
  go_ret
  exact ⟨rfl, rfl⟩
theorem rcut_nil (w : World) (a b : Int) : Calls Try.prog 31 #[.pointer none, .int .u64 a, .int .u64 b] w fun e w' => e = .returned (.int .i64 6) ∧ w' = w := by
  have HF := Lib.hid (rfind_nil w a b)
  go_enter Try.func31, Try.ntmps31
  go_wp2_with fail
  refine (HF.out).mono ?_
  rintro e w' ⟨rfl, rfl⟩
  go_wp2_with fail
  go_ret
  exact ⟨rfl, rfl⟩
theorem rnear_nil (w : World) (y : Int) (s : Bool) : Calls Try.prog 15 #[.pointer none, .int .u64 y, .bool s] w fun e w' => e = .returned (.slice none 0 0) ∧ w' = w := by
  go_enter Try.func15, Try.ntmps15
  go_wp2_with fail
  go_ret
  exact ⟨rfl, rfl⟩
theorem rreach_nil (w : World) (y : Int) (s : Bool) : Calls Try.prog 18 #[.pointer none, .int .u64 y, .bool s] w fun e w' => e = .returned (.slice none 0 0) ∧ w' = w := by
  have HF := Lib.hid (rhas_nil w y)
  go_enter Try.func18, Try.ntmps18
  go_wp2_with fail
  refine (HF.out).mono ?_
  rintro e w' ⟨rfl, rfl⟩
  go_wp2_with fail
  go_ret
  exact ⟨rfl, rfl⟩

end Go.Proofs.Ytdfmgfclcbeeiaa
