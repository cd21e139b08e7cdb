/-
  The maps of a graph: the outer one leads to maps, the inner ones to kinds.
-/
import Derived.Test.YtdfmgfclcbeeiaaSKeysN
import Derived.Maps.OwnOps
import Derived.Maps.OwnSet
namespace Go.Proofs.Ytdfmgfclcbeeiaa
open Go.RowKit Go.Maps
set_option linter.unusedSimpArgs false
set_option linter.unusedVariables false

/-- A map, or nil, as a number. -/
def rdM (v : Value) : Option (DataW Unit × List MemPlace) :=
  match v with
  | .map none => some (.lit (.int .i64 (-1)), [])
  | .map (some f) => some (.lit (.int .i64 (f : Int)), [])
  | _ => none
theorem rdM_at (f : Nat) : rdM (.map (some f)) = some (.lit (.int .i64 (f : Int)), []) := rfl
theorem rdM_inv {v : Value} {n : Int} {ps : List MemPlace} (h : rdM v = some (.lit (.int .i64 n), ps)) : (v = .map none ∧ n = -1) ∨ ∃ f : Nat, v = .map (some f) ∧ n = (f : Int) := by
  unfold rdM at h
  split at h
  · injection h with h
    injection h with h _
    injection h with h
    injection h with _ h
    exact .inl ⟨rfl, h.symm⟩
  · rename_i f
    injection h with h
    injection h with h _
    injection h with h
    injection h with _ h
    exact .inr ⟨f, rfl, h.symm⟩
  · cases h
def noneM : DataW Unit := .lit (.int .i64 (-1))
def litU (x : Int) : Lit := .int .u64 x
def kindD (k : Int) : DataW Unit := .lit (.int .u8 k)
theorem law31 : Keyed Try.prog 31 := int_keyed Try.underlying31
theorem zero64 (w : World) : (zeroValue 64).run Try.prog w = .ok (.map none) w := by
  have h : (Try.prog.info? 64).map (fun i => (i.zero, i.size, i.bytes)) = some (some (.map none), 1, 8) := by kernel_rfl
  obtain ⟨i0, hi, hz0, _, _⟩ := info_parts h
  simp [zeroValue, typeInfo, hi, hz0]
theorem zero65 (w : World) : (zeroValue 65).run Try.prog w = .ok (.int .u8 0) w := by
  have h : (Try.prog.info? 65).map (fun i => (i.zero, i.size, i.bytes)) = some (some (.int .u8 0), 1, 1) := by kernel_rfl
  obtain ⟨i0, hi, hz0, _, _⟩ := info_parts h
  simp [zeroValue, typeInfo, hi, hz0]
/-- a key -/
def U64 (x : Int) : Prop := 0 ≤ x ∧ x < 18446744073709551616
theorem U64.wf {x : Int} (h : U64 x) : (Lit.int .u64 x).wf = true := by
  obtain ⟨h1, h2⟩ := h
  have h3 : IntKind.u64.min = 0 := by decide
  have h4 : IntKind.u64.max = 18446744073709551615 := by decide
  simp [Lit.wf, h3, h4]
  omega
theorem key31 {x : Int} (h : U64 x) : keyOf Try.prog 31 (.int .u64 x) = some (litU x) := keyOf_int_mk Try.underlying31 h.wf

section
variable {w : World} {mb n : Nat} {D : DataW Unit} {x : Int}

theorem outer_hit {f : Nat} (hm : w.ownsMap Try.prog 31 rdM mb n D) (hx : U64 x) (hd : D.atKey (litU x) noneM = .lit (.int .i64 (f : Int))) :
    (Instr.lookup 55 (.map (some mb)) (.int .u64 x) false).run Try.prog w = .ok (.map (some f)) w := by
  obtain ⟨v, ps, hrun, hv⟩ := hm.lookup law31 Try.underlying55 (zero64 w) (show rdM (.map none) = some (noneM, []) from rfl) (key31 hx)
  rw [hd] at hv
  rcases rdM_inv hv with ⟨_, h⟩ | ⟨g, rfl, h⟩
  · omega
  · obtain rfl : g = f := by omega
    exact hrun
theorem outer_miss (hm : w.ownsMap Try.prog 31 rdM mb n D) (hx : U64 x) (hd : has D (litU x) = false) :
    (Instr.lookup 55 (.map (some mb)) (.int .u64 x) false).run Try.prog w = .ok (.map none) w := by
  obtain ⟨v, ps, hrun, hv⟩ := hm.lookup law31 Try.underlying55 (zero64 w) (show rdM (.map none) = some (noneM, []) from rfl) (key31 hx)
  rw [atKey_of_not_has hd] at hv
  rcases rdM_inv hv with ⟨rfl, _⟩ | ⟨g, rfl, h⟩
  · exact hrun
  · omega
theorem inner_at {k : Int} (hm : w.ownsMap Try.prog 31 (plainElem Try.prog 65) mb n D) (hx : U64 x) (hd : D.atKey (litU x) (kindD 0) = kindD k) :
    (Instr.lookup 64 (.map (some mb)) (.int .u64 x) false).run Try.prog w = .ok (.int .u8 k) w := by
  obtain ⟨v, ps, hrun, hv⟩ := hm.lookup law31 Try.underlying64 (zero65 w) (show plainElem Try.prog 65 (.int .u8 0) = some (kindD 0, []) by simp [plainElem, Try.underlying65, kindD, Lit.wf]; decide) (key31 hx)
  rw [hd] at hv
  obtain ⟨c, rfl, hc⟩ := plainElem_int_inv Try.underlying65 hv
  have : c = k := by
    have h1 := hc.1
    unfold kindD at h1
    injection h1 with h1 _
    injection h1 with h1
    injection h1 with _ h1
    exact h1.symm
  subst this
  exact hrun
end

end Go.Proofs.Ytdfmgfclcbeeiaa
