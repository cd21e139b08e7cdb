/-
  The keys of no map.
-/
import Derived.Test.YtdfmgfclcbeeiaaSKeys
namespace Go.Proofs.Ytdfmgfclcbeeiaa
open Go.RowKit Go.Maps Go.Sort Go.Shelf
attribute [local go_sem] Oper.semAt_some
set_option linter.unusedSimpArgs false
set_option linter.unusedVariables false

set_option maxRecDepth 100000 in
set_option maxHeartbeats 1000000 in
theorem iterN42 (Bm : Nat) (w : World) (hBm : Bm < w.heap.size) (hm : w.cell? ⟨Bm, 0, none⟩ = some (.map none)) :
    SeqStopsK Fence.wide 2 Try.prog 42 #[.pointer (some ⟨Bm, 0, none⟩)] (fun x : Int => #[.int .u64 x]) KeepsWalks (fun xs => xs = []) (fun _ => True) 0 w := by
  intro l J Jx W hW hJ hJx hY h0
  have hm' := (hW.cell (p := ⟨Bm, 0, none⟩) hBm).trans hm
  have hrg := run_range_nilMap (P := Try.prog) W 64 31 65 Try.underlying64
  have hnx : ∀ ty, (Instr.next (.pointer (some ⟨W.heap.size, 0, none⟩)) false ty).run Try.prog (W.alloc (.mapIter none 0 #[] 0)) = _ := fun ty => run_next_nilMap _ ty 0 0 #[]
  refine callsIn_of_wp Try.func42 rfl trivial ?_ rfl
  simp only [Try.ntmps42, List.size_toArray, List.length_cons, List.length_nil, Nat.reduceAdd, Nat.reduceSub, Array.replicate_succ, Array.replicate_zero, List.push_toArray, List.append_toArray, List.nil_append, List.cons_append]
  gi_wp2
  refine wpIn_loop_rounds 1 ?_
  rw [roundsIn_succ]
  gi_wp2
  go_end0
  exact ⟨⟨_, rfl⟩, .inl ⟨[], rfl, hJ [] W _ none h0 (World.grownBy_alloc W _ none) (fun r e => by cases e)⟩⟩

/-- the keys of no map: a nil slice -/
theorem sortedN42 (w : World) :
    Calls Try.prog 32 #[.func (.func 42) #[] #[.pointer (some ⟨w.heap.size, 0, none⟩)]] (w.alloc (.cells #[.map none] 64)) fun e w' => e = .returned (.slice none 0 0) ∧ Below w.heap.size w w' := by
  have hB : Below w.heap.size w (w.alloc (.cells #[.map none] 64)) := (Below.refl _ w).alloc (Nat.le_refl _) _
  have hs := iterN42 w.heap.size (w.alloc (.cells #[.map none] 64)) (by simp) (by simp)
  refine (sorted_any (enters_of Try.func42 (by kernel_rfl) rfl) (Nat.zero_le _) _ hs).mono ?_
  rintro e w' ⟨v, xs, rfl, ⟨rfl, _⟩, hr, hn, hB2⟩
  obtain rfl := hn.2 rfl
  exact ⟨rfl, hB.trans (hB2.mono (by simp))⟩

end Go.Proofs.Ytdfmgfclcbeeiaa
