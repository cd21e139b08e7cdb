/-
  Numbers that came in, with the bound that the reach gives.
-/
import Derived.Test.YtphcakhhjjdpiaaSweepsLaw
import Derived.SizedLaws
namespace Go.Proofs.Ytphcakhhjjdpiaa
open Go.RowKit Go.ChangeShapes Go.WideShapes Go.Deep Go.Joins

theorem bytes29 : Try.prog.bytesOf 29 = 8 := by kernel_rfl

theorem nums_open {H : Type} {enc : TypeId × Value → H} {w : World} {v : Value} {d : DataW H} {p : List MemPlace} {base : Nat} (o : Value.okWide Try.prog w .any base 33 v) (h : DataW.Trod enc Try.prog w 0 (fun _ => true) true 33 v d p) (hw : ∀ n ∈ d.weights Try.prog 33, n ≤ reachBytes) :
    ∃ A l c, v = .slice A l.length c ∧ Row (fun g => g < w.heap.size) w A (u64s l) ∧ l.length * 8 ≤ 140737488351232 := by
  obtain ⟨fuel, hf⟩ := h
  obtain ⟨A, len, cap, rfl⟩ := okWide_slice Try.underlying33 o
  rcases open_ints Try.underlying33 Try.underlying29 (by kernel_rfl) hf with ⟨hcs, _⟩ | ⟨a, l, c, zs, hcs, _, hl, hm, hz, hx, hcell, hwz⟩
  · simp [Value.cells] at hcs
    obtain ⟨rfl, rfl, rfl⟩ := hcs
    exact ⟨none, [], 0, rfl, Row.nil, by simp⟩
  · simp [Value.cells] at hcs
    obtain ⟨rfl, rfl, rfl⟩ := hcs
    obtain ⟨l', h1, h2, _, h4, h5⟩ := row_of (k := .u64) (w := w) (a := some a) (len := len) (cap := cap) (zs := zs) (.inr ⟨a, rfl, hl, hm, by simpa using hz, hcell, hwz⟩)
    subst h1
    refine ⟨some a, l', cap, rfl, h2, ?_⟩
    injection hx with hx _
    subst hx
    have := hw (((lits IntKind.u64 (zs.take l'.length) : List (DataW H)).length + (lits IntKind.u64 (zs.drop l'.length) : List (DataW H)).length) * Try.prog.bytesOf 29) (by simp [DataW.weights, Try.underlying33])
    rw [bytes29] at this
    have hz' : zs.length = cap := by simpa using hz
    simp only [lits, List.length_map, List.length_take, List.length_drop, reachBytes] at this
    omega

theorem weight_at {H : Type} {ts : List TypeId} {ds : List (DataW H)} (h : (DataW.weightsEach Try.prog ts ds).all (· ≤ reachBytes) = true) {j : Nat} {t : TypeId} {d : DataW H} (ht : ts[j]? = some t) (hd : ds[j]? = some d) : ∀ n ∈ d.weights Try.prog t, n ≤ reachBytes := fun n hn => by
  have := List.all_eq_true.1 h _ (DataW.weights_mem_each ht hd n hn)
  simpa using this

end Go.Proofs.Ytphcakhhjjdpiaa
