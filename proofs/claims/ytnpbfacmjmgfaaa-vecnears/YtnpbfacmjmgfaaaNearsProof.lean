/-
  PROVED: whatever three hits come in, of any two one at most is nearer, as the document says, and the order of three is one (VecNears returns true), and they read as before. No condition.
-/
import Derived.Test.YtnpbfacmjmgfaaaRows
import Derived.Test.YtnpbfacmjmgfaaaNears
import Derived.WalkKit
import Derived.ProofKit
import Derived.OpenShut
import Derived.ShutString
import Derived.ChangeOld
import Derived.Below
import Derived.Lib.SmallJoins
namespace Go.Proofs.Ytnpbfacmjmgfaaa.vecNears
open Go.ChangeShapes Go.WideShapes Go.ChangeAt Go.RowKit Go.Joins Go.Deep
set_option linter.unusedVariables false

theorem own : ownKnob Try.prog.godebug = none := by kernel_rfl
theorem laidOut : laidOutB Try.prog = true := by kernel_rfl

theorem walk (H : Type) (enc : TypeId × Value → H) (v0 : Value) (d0 : DataW H) (p0 : List MemPlace) (v1 : Value) (d1 : DataW H) (p1 : List MemPlace) (v2 : Value) (d2 : DataW H) (p2 : List MemPlace) (w : World) (base : Nat) (o0 : Value.okWide Try.prog w .any base 34 v0) (h0 : DataW.Trod enc Try.prog w 0 (fun _ => true) true 34 v0 d0 p0) (o1 : Value.okWide Try.prog w .any base 34 v1) (h1 : DataW.Trod enc Try.prog w 0 (fun _ => true) true 34 v1 d1 p1) (o2 : Value.okWide Try.prog w .any base 34 v2) (h2 : DataW.Trod enc Try.prog w 0 (fun _ => true) true 34 v2 d2 p2) :
    Calls Try.prog 4 #[v0, v1, v2] w fun e w' => e = .returned (.bool true) ∧ Below w.heap.size w w' := by
  obtain ⟨x0, x1, x2, y0, y1, y2, n0, rfl, rfl, rfl, a0, a1, a2⟩ := open_agg3 Try.underlying34 (by kernel_rfl) (by kernel_rfl) o0 h0
  obtain ⟨i, hi, _, _⟩ := DataW.trod_int Try.underlying25 a0
  obtain ⟨d, hd, _, _⟩ := DataW.trod_int Try.underlying25 a1
  obtain ⟨A, n1, c1, hA⟩ := slice_of a2
  obtain ⟨u0, u1, u2, z0, z1, z2, n2, rfl, rfl, rfl, b0, b1, b2⟩ := open_agg3 Try.underlying34 (by kernel_rfl) (by kernel_rfl) o1 h1
  obtain ⟨j, hj, _, _⟩ := DataW.trod_int Try.underlying25 b0
  obtain ⟨f, hf, _, _⟩ := DataW.trod_int Try.underlying25 b1
  obtain ⟨B, n3, c3, hB⟩ := slice_of b2
  obtain ⟨s0, s1, s2, t0, t1, t2, n4, rfl, rfl, rfl, c0, k1, k2⟩ := open_agg3 Try.underlying34 (by kernel_rfl) (by kernel_rfl) o2 h2
  obtain ⟨k, hk, _, _⟩ := DataW.trod_int Try.underlying25 c0
  obtain ⟨g, hg, _, _⟩ := DataW.trod_int Try.underlying25 k1
  obtain ⟨C, n5, c5, hC⟩ := slice_of k2
  injection hi with hi; injection hd with hd; injection hA with hA
  injection hj with hj; injection hf with hf; injection hB with hB
  injection hk with hk; injection hg with hg; injection hC with hC
  subst hi hd hA hj hf hB hk hg hC
  exact law_nears i d j f k g A B C n1 c1 n3 c3 n5 c5 w

set_option maxRecDepth 100000 in
theorem lifted (os : Os) (started : os.Started) (H : Type) (enc : TypeId × Value → H) :
    ReturnsInHanded {} Try.checked os 4 .any (Rows.vecNearsSpec.pre6 enc Try.prog Try.f4 Rows.vecNearsRow.domain false) (Rows.vecNearsSpec.post enc Try.prog Try.f4 false true false false) := by
  refine returnsInHanded_of_change (C := Try.checked) own started (by kernel_rfl) Try.func4
    (ChangeSpec.witness6 (enc := enc) (C := Try.checked) false ⟨#[], #[.agg #[.int .u64 0, .int .u64 0, .slice none 0 0], .agg #[.int .u64 0, .int .u64 0, .slice none 0 0], .agg #[.int .u64 0, .int .u64 0, .slice none 0 0]], []⟩ 8 (by kernel_rfl) (by kernel_rfl) (by kernel_rfl) (by kernel_rfl)) ?_
  intro W base args ds gs before hval0 hW hcnd _
  have hval : ∀ (j : Nat) t v, Try.f4.params[j]? = some t → args[j]? = some v → Value.okWide Try.prog W .any base t v := hval0
  have hW' := hW
  obtain ⟨p, q, hA0, hV, rfl, hfz, hnd⟩ := hW
  have hA : DataW.TrodAll enc Try.prog W 0 (fun _ => true) true Try.f4.params.toList args.toList ds p := hA0
  rw [Try.params4] at hA hval
  obtain ⟨v0, vs0, d0, ds0, p0, q0, hargs, rfl, rfl, h0, r0⟩ := trodAll_cons hA
  obtain ⟨v1, vs1, d1, ds1, p1, q1, rfl, rfl, rfl, h1, r1⟩ := trodAll_cons r0
  obtain ⟨v2, vs2, d2, ds2, p2, q2, rfl, rfl, rfl, h2, r2⟩ := trodAll_cons r1
  obtain ⟨rfl, rfl, rfl⟩ := trodAll_nil r2
  obtain rfl : args = #[v0, v1, v2] := by cases args; simp_all
  obtain ⟨rfl, rfl⟩ := trodVars_none hV
  have lt0 : ∀ x ∈ p0, x.block < W.heap.size := by obtain ⟨m, hm⟩ := h0; exact DataW.trod_lt m _ _ _ hm
  have lt1 : ∀ x ∈ p1, x.block < W.heap.size := by obtain ⟨m, hm⟩ := h1; exact DataW.trod_lt m _ _ _ hm
  have lt2 : ∀ x ∈ p2, x.block < W.heap.size := by obtain ⟨m, hm⟩ := h2; exact DataW.trod_lt m _ _ _ hm
  clear hA0 hval0
  refine (walk H enc v0 d0 p0 v1 d1 p1 v2 d2 p2 W base (hval 0 34 v0 rfl rfl) h0 (hval 1 34 v1 rfl rfl) h1 (hval 2 34 v2 rfl rfl) h2).mono fun e W' ⟨he, bel⟩ => ?_
  subst he
  exact ⟨_, rfl, _, _, _, [], _, [], hW', trodAll_mk1 (shut_bool Try.underlying4 _), (trodAll_cons_mk (Below.trod laidOut (by kernel_rfl) (of_decide_eq_true (by kernel_rfl)) h0 bel lt0) (trodAll_cons_mk (Below.trod laidOut (by kernel_rfl) (of_decide_eq_true (by kernel_rfl)) h1 bel lt1) (trodAll_cons_mk (Below.trod laidOut (by kernel_rfl) (of_decide_eq_true (by kernel_rfl)) h2 bel lt2) trodAll_mk0))), rfl, bel.frame _, fun h => by cases h⟩

theorem over : Rows.vecNearsRow.holds Try.pinned (OpenSpec.ofChange Rows.vecNearsSpec) :=
  OpenClaim.holds_of_wide 4 Try.f4 rfl rfl rfl rfl rfl rfl rfl ⟨rfl, rfl, rfl, rfl, rfl⟩ rfl rfl rfl rfl rfl (by kernel_rfl) Try.func4 (by kernel_rfl)
    (of_decide_eq_true (by kernel_rfl)) (by unfold Func.isWrapper; first | (rw [if_pos (by decide +kernel)]; kernel_rfl) | (rw [if_neg (by decide +kernel)]; exact ⟨rfl, rfl⟩))
    (fun os started H enc _ => lifted os started H enc)

/-- The statement. -/
theorem proved : Rows.VecNearsSaid := over
end Go.Proofs.Ytnpbfacmjmgfaaa.vecNears

namespace Go.Proofs.Ytnpbfacmjmgfaaa
theorem vecNears_holds : Rows.VecNearsSaid := vecNears.proved
end Go.Proofs.Ytnpbfacmjmgfaaa
