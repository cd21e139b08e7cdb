/-
  What VecChecks does: it returns true, and turns nothing that was there.
-/
import Derived.Test.YtnpbfacmjmgfaaaRCheck
namespace Go.Proofs.Ytnpbfacmjmgfaaa
open Go.RowKit

set_option maxRecDepth 100000 in
set_option maxHeartbeats 1000000 in
theorem law_checks (S : Nat → Prop) (dim : Int) (A : Option Addr) (c : Nat) (ops : List (Int × List Int)) (w : World) (h : OpsAt S w A ops)
    (hl : ops.length ≤ 9223372036854775807) (hv : ∀ o ∈ ops, o.2.length ≤ 9223372036854775807) (hid : ∀ o ∈ ops, U64 o.1) :
    Calls Try.prog 6 #[.int .i64 dim, .slice A ops.length c] w fun e w' => e = .returned (.bool true) ∧ Below w.heap.size w w' := by
  go_enter Try.func6, Try.ntmps6
  go_wp2_with fail
  refine (awake_any _).mono ?_
  rintro e w1 ⟨rfl, hb1⟩
  have o1 := h.below hb1
  go_wp2_with fail
  refine (few_any S A c 20 ops _ o1 hl hv (by decide)).mono ?_
  rintro e w2 ⟨va, rfl, hoa, hb2⟩
  have o2 := o1.below hb2
  go_wp2_with fail
  refine (few_any S A c 20 ops _ o2 hl hv (by decide)).mono ?_
  rintro e w3 ⟨vb, rfl, hob, hb3⟩
  have hoa3 := hoa.below hb3
  have hb12 : Below w.heap.size w w2 := hb1.trans (hb2.mono hb1.size)
  have hb13 : Below w.heap.size w w3 := hb12.trans (hb3.mono hb12.size)
  have hpl : ((ops.take 20).map cutOp).length ≤ 20 := by rw [List.length_map, List.length_take]; omega
  have hpv : ∀ o ∈ (ops.take 20).map cutOp, o.2.length ≤ 1000 := fun o ho => by
    obtain ⟨x, _, rfl⟩ := List.mem_map.1 ho
    show (x.2.take 10).length ≤ 1000
    rw [List.length_take]; omega
  have hpi : ∀ o ∈ (ops.take 20).map cutOp, U64 o.1 := fun o ho => by
    obtain ⟨x, hx, rfl⟩ := List.mem_map.1 ho
    exact hid x (List.mem_of_mem_take hx)
  generalize (ops.take 20).map cutOp = os at *
  obtain ⟨Aa, ca, hva, hca, oa⟩ := hoa3.ops
  obtain ⟨Ab, cb, hvb, hcb, ob⟩ := hob.ops
  rw [hva, hvb]
  have HC := Lib.hid (check_any _ dim Ab cb os w3 ob (by omega) hpv hpi)
  have HR : Hid (∀ W, Below w3.heap.size w3 W → Calls Try.prog 24 #[.int .i64 dim, .slice Aa os.length ca] W fun e w' => e = .returned (.int .i64 (chk dim os)) ∧ Below W.heap.size W w') := fun W hW => refCheck_any _ dim Aa ca os W (oa.below hW) hca (by omega) hpv
  have HS : Hid (∀ W, Below w3.heap.size w3 W → Calls Try.prog 25 #[.slice Aa os.length ca, .slice Ab os.length cb] W fun e w' => e = .returned (.bool true) ∧ Below W.heap.size W w') := fun W hW => sameOps_any _ _ Aa Ab ca cb os W (oa.below hW) (ob.below hW) (by omega) hpv
  clear h o1 o2 hv hid hl hb1 hb2 hb3 hoa hoa3 hob hb12 hva hvb oa ob hpv hpi
  generalize chk dim os = ch at *
  go_wp2_with fail
  refine (HC.out).mono ?_
  rintro e w4 ⟨rfl, hb4⟩
  go_wp2_with fail
  refine (HR.out _ hb4).mono ?_
  rintro e w5 ⟨rfl, hb5⟩
  have hb45 := hb4.trans (hb5.mono hb4.size)
  go_wp2_with (go_at_call 25; refine (HS.out _ hb45).mono ?_; rintro e w6 ⟨rfl, hb6⟩)
  go_ret
  have hbF := hb13.trans (hb45.mono hb13.size)
  exact ⟨by first | rfl | simp, hbF.trans (hb6.mono hbF.size)⟩

end Go.Proofs.Ytnpbfacmjmgfaaa
