/-
  Which nodes are split: a map whose keys are pairs of nodes.
-/
import Derived.WalkKit
import Derived.Maps.OwnOps
import Derived.Maps.OwnSet
import Derived.DeepKeys4
import Derived.MapViews
import Derived.Lib.Hide
import Derived.Test.YtalifbajihkenaaProg
import Derived.Test.YtalifbajihkenaaChecked
namespace Go.Proofs.Ytalifbajihkenaa
open Go.RowKit Go.Maps
set_option linter.unusedSimpArgs false
set_option linter.unusedVariables false

theorem laidOutN : laidOutB Try.prog = true := by kernel_rfl
theorem row73 : (73 : TypeId) < Try.prog.types.size := of_decide_eq_true (by kernel_rfl)
theorem wide73 : (match Try.prog.underlying 73 with | some (.array _ _) | some (.struct _) => true | _ => false) = true := by rw [Try.underlying73]
theorem law73 : Keyed Try.prog 73 := Keyed.of_law (deep_law_laid laidOutN (m := 2) (by omega) row73 (by kernel_rfl) wide73)
theorem cells73 : Try.prog.cellsOf 73 = 2 := by kernel_rfl
theorem cells3 : Try.prog.cellsOf 3 = 1 := by kernel_rfl
theorem keyType73 : Try.prog.keyType 73 = true := by kernel_rfl
theorem size2 : ∃ m, Try.prog.types.size = m + 1 := ⟨_, (Nat.succ_pred_eq_of_pos (Nat.lt_of_le_of_lt (Nat.zero_le _) row73)).symm⟩

/-- a number that an int holds -/
def I64 (x : Int) : Prop := -9223372036854775808 ≤ x ∧ x ≤ 9223372036854775807
theorem I64.wf {x : Int} (h : I64 x) : (Lit.int .i64 x).wf = true := by
  unfold I64 at h
  simpa [Lit.wf, IntKind.min, IntKind.max, IntKind.signed, IntKind.bits] using h

/-- a pair of nodes -/
def pairV (a b : Int) : Value := .agg #[.int .i64 a, .int .i64 b]
theorem key73 {a b : Int} (ha : I64 a) (hb : I64 b) : ∃ l, keyOf Try.prog 73 (pairV a b) = some l := by
  obtain ⟨m, hm⟩ := size2
  unfold keyOf
  rw [Try.underlying73]
  simp only [keyType73]
  have hf : (pairV a b).formed Try.prog 73 = true := by simp [pairV, Value.formed, Try.underlying73, cells73]
  rw [hf, hm]
  simp [Program.keyLits, Try.underlying73, Try.underlying3, pairV, Value.cells, cells73, cells3, ha.wf, hb.wf]
noncomputable def pk (a b : Int) : Lit := (keyOf Try.prog 73 (pairV a b)).getD .nil
theorem pk_key {a b : Int} (ha : I64 a) (hb : I64 b) : keyOf Try.prog 73 (pairV a b) = some (pk a b) := by
  obtain ⟨l, hl⟩ := key73 ha hb
  unfold pk
  rw [hl]
  rfl
theorem pk_inj {a b c d : Int} (ha : I64 a) (hb : I64 b) (hc : I64 c) (hd : I64 d) (h : pk a b = pk c d) : a = c ∧ b = d := by
  have := law73.inj (pk_key ha hb) (by rw [h]; exact pk_key hc hd)
  unfold pairV at this
  injection this with this
  simpa using this

theorem pk_lit {a b : Int} (ha : I64 a) (hb : I64 b) : WideAt.IsKeyLit (pk a b) := law73.key (pk_key ha hb)

theorem zero71 (w : World) : (zeroValue 71).run Try.prog w = .ok (.agg #[]) w := by
  have h : (Try.prog.info? 71).map (fun i => (i.zero, i.size, i.bytes)) = some (some (.agg #[]), 0, 0) := by kernel_rfl
  obtain ⟨i0, hi, hz0, _, _⟩ := info_parts h
  simp [zeroValue, typeInfo, hi, hz0]

/-- the map of the pairs that are split -/
def SpM (w : World) (mb n : Nat) (sp : Int → Int → Bool) : Prop :=
  ∃ D : DataW Unit, w.ownsMap Try.prog 73 unitElem mb n D ∧ ∀ a c, I64 a → I64 c → has D (pk a c) = sp a c
theorem ownsMap_block {H : Type} {w W : World} {k : TypeId} {R : Value → Option (DataW H × List MemPlace)} {b nn : Nat} {D0 : DataW H} (h : w.ownsMap Try.prog k R b nn D0) (hB : W.heap[b]? = w.heap[b]?) : W.ownsMap Try.prog k R b nn D0 := by
  obtain ⟨es, clock, hb, Ft, hs, hD⟩ := h
  exact ⟨es, clock, hB.trans hb, Ft, hs, hD⟩
def setP (sp : Int → Int → Bool) (lo hi : Int) (v : Bool) : Int → Int → Bool := fun a c => if a = lo ∧ c = hi then v else sp a c
section
variable {w w' : World} {mb n : Nat} {sp : Int → Int → Bool} {lo hi : Int}
theorem SpM.kept (h : SpM w mb n sp) (hb : w'.heap[mb]? = w.heap[mb]?) : SpM w' mb n sp := let ⟨D, h1, h2⟩ := h; ⟨D, ownsMap_block h1 hb, h2⟩
theorem SpM.lt (h : SpM w mb n sp) : mb < w.heap.size := let ⟨_, h1, _⟩ := h; h1.lt
theorem SpM.isMap (h : SpM w mb n sp) : ∃ es cl, w.heap[mb]? = some (.map es cl) := let ⟨_, ⟨es, cl, h1, _⟩, _⟩ := h; ⟨es, cl, h1⟩
theorem SpM.look (h : SpM w mb n sp) (h1 : I64 lo) (h2 : I64 hi) : (Instr.lookup 65 (.map (some mb)) (pairV lo hi) true).run Try.prog w = .ok (.tuple #[.agg #[], .bool (sp lo hi)]) w := by
  obtain ⟨D, k1, k2⟩ := h
  obtain ⟨v, ps, hrun, hv⟩ := k1.look_ok law73 Try.underlying65 (zero71 w) (unitElem_mk (H := Unit)) (pk_key h1 h2)
  obtain ⟨rfl, _⟩ := unitElem_inv hv
  rw [k2 _ _ h1 h2] at hrun
  exact hrun
theorem SpM.put (h : SpM w mb n sp) (hn : n < maxLen) (h1 : I64 lo) (h2 : I64 hi) :
    ∃ w', (Instr.mapUpdate 65 (.map (some mb)) (pairV lo hi) (.agg #[])).run Try.prog w = .ok () w' ∧ SpM w' mb (n + 1) (setP sp lo hi true) ∧ w.grownBy w' (some mb) := by
  obtain ⟨D, k1, k2⟩ := h
  obtain ⟨w', hrun, hm, hg⟩ := k1.store law73 Try.underlying65 hn (pk_key h1 h2) (unitElem_mk (H := Unit))
  refine ⟨w', hrun, ⟨_, hm, fun a c ha hc => ?_⟩, hg.grown⟩
  unfold setP
  by_cases hac : a = lo ∧ c = hi
  · obtain ⟨rfl, rfl⟩ := hac
    rw [has_put_same k1.isMap (pk_lit ha hc)]
    simp
  · rw [has_put_other (fun e => hac (pk_inj ha hc h1 h2 e)), k2 a c ha hc, if_neg hac]
theorem SpM.cut (h : SpM w mb n sp) (h1 : I64 lo) (h2 : I64 hi) (ty : TypeId) :
    ∃ w', (Builtin.delete_ #[65, 73] ty #[.map (some mb), pairV lo hi]).run Try.prog w = .ok (.tuple #[]) w' ∧ SpM w' mb n (setP sp lo hi false) ∧ w.grownBy w' (some mb) := by
  obtain ⟨D, k1, k2⟩ := h
  obtain ⟨w', hrun, hm, hg⟩ := k1.drop law73 Try.underlying65 (pk_key h1 h2) ty
  refine ⟨w', hrun, ⟨_, hm, fun a c ha hc => ?_⟩, hg.grown⟩
  unfold setP
  by_cases hac : a = lo ∧ c = hi
  · obtain ⟨rfl, rfl⟩ := hac
    rw [has_del_same]
    simp
  · rw [has_del_other (fun e => hac (pk_inj ha hc h1 h2 e)), k2 a c ha hc, if_neg hac]
theorem SpM.clear (h : SpM w mb n sp) (ty : TypeId) :
    ∃ w', (Builtin.clear_ #[65] ty #[.map (some mb)]).run Try.prog w = .ok (.tuple #[]) w' ∧ SpM w' mb n (fun _ _ => false) ∧ w.grownBy w' (some mb) := by
  obtain ⟨D, ⟨es, cl, hb, F, hs, hD⟩, k2⟩ := h
  refine ⟨ChangeMaps.setBlock w mb (.map #[] cl), ?_, ⟨.map [], ⟨#[], cl, ChangeMaps.heap_setBlock_same hb _, ⟨by simp, MapKept.stamped_empty _, by simp⟩, Nat.zero_le _, rfl⟩, fun a c _ _ => by simp [has]⟩, ?_⟩
  · simp [Builtin.clear_, run_underlying Try.underlying65, MapKept.run_getObj_map hb, MapKept.run_setObj_map _ hb, Result.andThen]
    rfl
  · exact World.mapTurned.grown (w := w) (b := mb) ⟨es, cl, #[], cl, hb, rfl⟩
theorem SpM.new (w : World) : SpM (w.alloc (.map #[] 0)) w.heap.size 0 (fun _ _ => false) := ⟨_, World.ownsMap_made w Try.prog 73 _, fun a c _ _ => by simp [has]⟩
end

end Go.Proofs.Ytalifbajihkenaa
