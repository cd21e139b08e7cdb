/-
  The map from names to files: how its elements read; looking a name up, laying one in, taking one out, how many there are, all of them in order.
-/
import Derived.Test.YtchedflfinkppaaFile
import Derived.Maps.OwnOps
import Derived.Maps.OwnSet
import Derived.StringKeys
namespace Go.Proofs.Ytchedflfinkppaa
open Go.RowKit Go.Maps Go.WideMaps

/-- A pointer to a block, or nil, as a number. -/
def rdP (v : Value) : Option (DataW Unit × List MemPlace) :=
  match v with
  | .pointer none => some (.lit (.int .i64 (-1)), [])
  | .pointer (some ⟨f, 0, none⟩) => some (.lit (.int .i64 (f : Int)), [])
  | _ => none
theorem rdP_at (f : Nat) : rdP (.pointer (some ⟨f, 0, none⟩)) = some (.lit (.int .i64 (f : Int)), []) := rfl
theorem rdP_inv {v : Value} {n : Int} {ps : List MemPlace} (h : rdP v = some (.lit (.int .i64 n), ps)) : (v = .pointer none ∧ n = -1) ∨ ∃ f : Nat, v = .pointer (some ⟨f, 0, none⟩) ∧ n = (f : Int) := by
  unfold rdP at h
  split at h
  · injection h with h
    injection h with h _
    injection h with h
    injection h with _ h
    exact .inl ⟨rfl, h.symm⟩
  · rename_i f
    injection h with h
    injection h with h _
    injection h with h
    injection h with _ h
    exact .inr ⟨f, rfl, h.symm⟩
  · cases h
def none9 : DataW Unit := .lit (.int .i64 (-1))
theorem law9 : Keyed Try.prog 9 := string_keyed Try.underlying9
theorem zero87 (w : World) : (zeroValue 87).run Try.prog w = .ok (.pointer none) w := by
  have h : (Try.prog.info? 87).map (fun i => (i.zero, i.size, i.bytes)) = some (some (.pointer none), 1, 8) := by kernel_rfl
  obtain ⟨i0, hi, hz0, _, _⟩ := info_parts h
  simp [zeroValue, typeInfo, hi, hz0]

theorem look_hit {w : World} {mb n f : Nat} {D : DataW Unit} {s : ByteArray} (hm : w.ownsMap Try.prog 9 rdP mb n D) (hs : s.size ≤ maxLen) (hd : D.atKey (.string s.data.toList) none9 = .lit (.int .i64 (f : Int))) :
    (Instr.lookup 65 (.map (some mb)) (.string s) false).run Try.prog w = .ok (.pointer (some ⟨f, 0, none⟩)) w := by
  obtain ⟨v, ps, hrun, hv⟩ := hm.lookup law9 Try.underlying65 (zero87 w) (show rdP (.pointer none) = some (none9, []) from rfl) (keyOf_string_mk Try.underlying9 hs)
  rw [hd] at hv
  rcases rdP_inv hv with ⟨_, h⟩ | ⟨g, rfl, h⟩
  · omega
  · obtain rfl : g = f := by omega
    exact hrun
theorem look_miss {w : World} {mb n : Nat} {D : DataW Unit} {s : ByteArray} (hm : w.ownsMap Try.prog 9 rdP mb n D) (hs : s.size ≤ maxLen) (hd : has D (.string s.data.toList) = false) :
    (Instr.lookup 65 (.map (some mb)) (.string s) false).run Try.prog w = .ok (.pointer none) w := by
  obtain ⟨v, ps, hrun, hv⟩ := hm.lookup law9 Try.underlying65 (zero87 w) (show rdP (.pointer none) = some (none9, []) from rfl) (keyOf_string_mk Try.underlying9 hs)
  rw [atKey_of_not_has hd] at hv
  rcases rdP_inv hv with ⟨rfl, _⟩ | ⟨g, rfl, h⟩
  · exact hrun
  · omega

end Go.Proofs.Ytchedflfinkppaa
