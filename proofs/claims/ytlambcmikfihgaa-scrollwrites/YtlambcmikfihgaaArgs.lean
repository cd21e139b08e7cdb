/-
  What came in, as the contracts take it.
-/
import Derived.Test.YtlambcmikfihgaaMem
import Derived.Test.YtlambcmikfihgaaSize
import Derived.Test.YtlambcmikfihgaaVecs
import Derived.OpenShut
namespace Go.Proofs.Ytlambcmikfihgaa
open Go.RowKit

theorem lt_of_cell {w : World} {a : Addr} {v : Value} (h : w.cell? a = some v) : a.block < w.heap.size := by
  unfold World.cell? at h
  rcases Nat.lt_or_ge a.block w.heap.size with h1 | h1
  · exact h1
  · rw [Array.getElem?_eq_none h1] at h; simp at h

theorem row_of {k : IntKind} {w : World} {a : Option Addr} {len cap : Nat} {zs : List Int}
    (h : (a = none ∧ len = 0 ∧ cap = 0 ∧ zs = []) ∨ ∃ x, a = some x ∧ len ≤ cap ∧ cap ≤ maxLen ∧ zs.length = cap ∧ (∀ i, i < zs.length → w.cell? (x.add i) = some (.int k (zs.getD i 0))) ∧ ∀ n ∈ zs, (Lit.int k n).wf = true) :
    ∃ l : List Int, l.length = len ∧ Row (fun g => g < w.heap.size) w a (l.map fun (n : Int) => Value.int k n) ∧ (∀ n ∈ l, (Lit.int k n).wf = true) ∧ len ≤ cap ∧ len ≤ 9223372036854775807 := by
  rcases h with ⟨rfl, rfl, rfl, rfl⟩ | ⟨x, rfl, h1, h2, h3, h4, h5⟩
  · exact ⟨[], rfl, Row.nil, by simp, Nat.le_refl _, by omega⟩
  · refine ⟨zs.take len, by rw [List.length_take]; omega, fun j hj => ?_, fun n hn => h5 n (List.mem_of_mem_take hn), h1, by unfold maxLen at h2; omega⟩
    rw [List.length_map, List.length_take] at hj
    have hc := h4 j (by omega)
    have hb := lt_of_cell hc
    rw [block_add] at hb
    refine ⟨x, rfl, hb, hb, ?_⟩
    rw [hc]
    have hjz : j < zs.length := by omega
    simp [hjz, show j < len by omega]

theorem u8_of {n : Int} (h : (Lit.int .u8 n).wf = true) : 0 ≤ n ∧ n < 256 := by
  have hx : 0 ≤ n ∧ n ≤ 255 := by simpa [Lit.wf, IntKind.min, IntKind.max, IntKind.signed, IntKind.bits] using h
  omega
theorem i32_of {n : Int} (h : (Lit.int .i32 n).wf = true) : I32 n := by
  simpa [I32, Lit.wf, IntKind.min, IntKind.max, IntKind.signed, IntKind.bits] using h
theorem i64_of {n : Int} (h : (Lit.int .i64 n).wf = true) : -9223372036854775808 ≤ n ∧ n ≤ 9223372036854775807 := by
  simpa [Lit.wf, IntKind.min, IntKind.max, IntKind.signed, IntKind.bits] using h

end Go.Proofs.Ytlambcmikfihgaa
