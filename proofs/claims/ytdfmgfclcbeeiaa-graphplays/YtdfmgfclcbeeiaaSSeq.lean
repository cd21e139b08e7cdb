/-
  slices.AppendSeq, Collect and Sorted at uint64, over any iterator that keeps its contract.
-/
import Derived.RangeFuncNested
import Derived.RangeFuncBound
import Derived.RangeFuncCalls
import Derived.RangeFuncLeaves
import Derived.RangeFuncBox
import Derived.Maps.AppendAt
import Derived.Shelf.Abstract
import Derived.Shelf.RegionOpen
import Derived.WalkKit
import Derived.OwnWalkIn
import Derived.TacticsInMore
import Derived.LoopNIn
import Derived.LoopIn
import Derived.Test.YtdfmgfclcbeeiaaSSort
namespace Go.Proofs.Ytdfmgfclcbeeiaa
open Go.RowKit Go.Sort Go.Shelf
attribute [local go_sem] Oper.semAt_some
set_option linter.unusedSimpArgs false
set_option linter.unusedVariables false

theorem info31 : (Try.prog.info? 31).map (fun i => (i.zero, i.size, i.bytes)) = some (some (.int .u64 0), 1, 8) := by kernel_rfl

/-- what the box of AppendSeq holds when xs have come -/
def Come (N n0 B : Nat) (w : World) (xs : List Int) (W : World) : Prop :=
  (∃ v, Boxed W B 22 v ∧ W.ownsRow n0 31 1 v xs.length (xs.map encU) ∧ ((v = .slice none 0 0 ↔ xs = []) ∧ xs.length ≤ N)) ∧ Below n0 w W

set_option maxRecDepth 100000 in
set_option maxHeartbeats 2000000 in
theorem append_any {g : Nat} {lb : Array Value} (eg : ∀ args w, (callFunc g args).run Try.prog w = .ok (.enter g args) w) {S Sp : List Int → Prop} {N : Nat} (hN : N ≤ 17592186044416) (w : World)
    (hseq : SeqStopsK Fence.wide 2 Try.prog g lb (fun x : Int => #[.int .u64 x]) KeepsWalks S Sp N w) :
    Calls Try.prog 47 #[.slice none 0 0, .func (.func g) #[] lb] w fun e w' => ∃ (v : Value) (xs : List Int), e = .returned v ∧ (S xs ∧ xs.length ≤ N) ∧ w'.ownsRow w.heap.size 31 1 v xs.length (xs.map encU) ∧ (v = .slice none 0 0 ↔ xs = []) ∧ Below w.heap.size w w' := by
  refine (callsIn_wide (n := 3)).1 ?_
  obtain ⟨i0, hi, hz0, hz1, hz2⟩ := info_parts info31
  refine callsIn_of_wp_marks Try.func47 rfl trivial ?_ rfl
  simp only [Try.ntmps47, List.size_toArray, List.length_cons, List.length_nil, Nat.reduceAdd, Nat.reduceSub, Array.replicate_succ, Array.replicate_zero, List.push_toArray, List.append_toArray, List.nil_append, List.cons_append]
  gi_wp2
  refine wpIn_rangeFunc_ownF rfl (by decide) (gf := g) (lb := lb) rfl trivial eg hseq walksK_t walksK_b ((Below.refl _ w).alloc (Nat.le_refl _) _) (fun _ => rfl)
    (Come N w.heap.size w.heap.size w) (fun _ _ _ => False)
    (OwnFrom.and (Own.from (holdsRow_own w.heap.size w.heap.size 22 31 1 (fun xs : List Int => xs.length) (fun xs => xs.map encU) (fun xs v => (v = .slice none 0 0 ↔ xs = []) ∧ xs.length ≤ N)) _) (ownFrom_below (Nat.le_refl _) (by simp)))
    (fun _ _ _ _ _ h => h.elim)
    ⟨⟨_, Boxed.new w 22 _, ⟨rfl, .inl ⟨rfl, rfl⟩⟩, by simp, Nat.zero_le _⟩, (Below.refl _ w).alloc (Nat.le_refl _) _⟩
    (fun x => { tmps := #[.slice none 0 0, .func (.func g) #[] lb, .pointer (some ⟨w.heap.size, 0, none⟩), undef, .slice none 0 0, .int .u64 x, .func (.func g) #[] lb, .int .u64 x, undef, undef, undef, undef, undef], defers := [] })
    ?assign ?body ?done ?stop
  case assign =>
    intro l x W K hK
    gi_wp2
    exact hK
  case body =>
    rintro l pre x W ⟨⟨v, hv, hrow, hnil, hle⟩, hB⟩ hlen
    have hc0 := hv.cell
    have hf0 := hv.frozen
    gi_wp2_with (gi_at_builtin; refine wpListIn_append_own _ rfl _ _ 22 rfl w.heap.size 31 i0 (.int .u64 0) 1 8 Try.underlying22 hi hz0 hz1 hz2 rfl (by decide) _ _ _ rfl (hrow.alloc _) ⟨W.heap.size, 0, none⟩ 1 1 [.int .u64 x] rfl rfl (cell_one_new _ _ _) (by simp [Value.oneCell']) (by unfold maxLen; omega) (by omega) (by have := hB.size; simp; omega) ?_; intro v' w1 hown' hgrow _; obtain ⟨g', cap', rfl⟩ := ownsRow_succ hown'; obtain ⟨hv1, hv2, hr2, hk2, hb2⟩ := hv.appended (by decide) hrow hB.size (Nat.le_refl _) hown' hgrow; have hc1 := hv1.cell; have hf1 := hv1.frozen)
    exact ⟨hk2, hk2.walks, ⟨_, hv2, by simpa [encU] using hr2, by simp, by simp; omega⟩, hB.trans hb2⟩
  case done =>
    rintro D xs W hD hS ⟨⟨v, hv, hrow, hnil, hle⟩, hB⟩ hK
    have hc0 := hv.cell
    have hf0 := hv.frozen
    gi_wp2
    refine ⟨by simp, .inl ⟨_, _, rfl, run_takeDeferred hK, ?_⟩⟩
    exact ⟨_, results_tmp rfl _ _ _, v, xs, rfl, ⟨hS, hle⟩, ownsRow_putObj hrow _ hK rfl, hnil, hB.trans (belowK_b (w := w) (Nat.le_refl _) W D _ _ (by simp at hD; omega) hK rfl rfl)⟩
  case stop =>
    rintro D c pre W hD hS h hK
    exact h.elim

set_option maxHeartbeats 1000000 in
theorem collect_any {g : Nat} {lb : Array Value} (eg : ∀ args w, (callFunc g args).run Try.prog w = .ok (.enter g args) w) {S Sp : List Int → Prop} {N : Nat} (hN : N ≤ 17592186044416) (w : World)
    (hseq : SeqStopsK Fence.wide 2 Try.prog g lb (fun x : Int => #[.int .u64 x]) KeepsWalks S Sp N w) :
    Calls Try.prog 41 #[.func (.func g) #[] lb] w fun e w' => ∃ (v : Value) (xs : List Int), e = .returned v ∧ (S xs ∧ xs.length ≤ N) ∧ w'.ownsRow w.heap.size 31 1 v xs.length (xs.map encU) ∧ (v = .slice none 0 0 ↔ xs = []) ∧ Below w.heap.size w w' := by
  have HC := Lib.hid (append_any eg hN w hseq)
  go_enter Try.func41, Try.ntmps41
  go_wp2_with fail
  refine (HC.out).mono ?_
  rintro e w' ⟨v, xs, rfl, h⟩
  have H := Lib.hid h
  clear h
  go_wp2_with fail
  go_ret
  exact ⟨v, xs, rfl, H.out⟩

/-- the list sorted -/
def upU (xs : List Int) : List Int := xs.mergeSort (fun x y => !ltInt y x)

end Go.Proofs.Ytdfmgfclcbeeiaa
