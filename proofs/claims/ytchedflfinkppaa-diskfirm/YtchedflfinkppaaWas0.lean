/-
  The map from names to bytes that DiskFirm fills: how its elements read; a store, a range's step.
-/
import Derived.Test.YtchedflfinkppaaLv
import Derived.Maps.RangeWalk
namespace Go.Proofs.Ytchedflfinkppaa
open Go.RowKit Go.Maps Go.WideMaps
set_option linter.unusedSimpArgs false
set_option linter.unusedVariables false

/-- A slice as numbers. -/
def num (n : Nat) : DataW Unit := .lit (.int .i64 (n : Int))
def encA : Option Addr → DataW Unit
  | none => .nil
  | some ⟨g, o, none⟩ => .agg [num g, num o]
  | some ⟨g, o, some s⟩ => .agg [num g, num o, num s]
def encS (A : Option Addr) (n c : Nat) : DataW Unit := .agg [encA A, num n, num c]
theorem num_inj {a b : Nat} (h : num a = num b) : a = b := by
  unfold num at h
  injection h with h
  injection h with _ h
  omega
theorem encA_inj {A B : Option Addr} (h : encA A = encA B) : A = B := by
  rcases A with _ | ⟨g, o, _ | s⟩ <;> rcases B with _ | ⟨g', o', _ | s'⟩ <;> simp only [encA] at h <;> first
    | rfl
    | (cases h; rfl)
    | cases h
theorem encS_inj {A B : Option Addr} {n m c d : Nat} (h : encS A n c = encS B m d) : A = B ∧ n = m ∧ c = d := by
  unfold encS at h
  injection h with h
  injection h with h1 h
  injection h with h2 h
  injection h with h3 _
  exact ⟨encA_inj h1, num_inj h2, num_inj h3⟩
def rdS (v : Value) : Option (DataW Unit × List MemPlace) :=
  match v with
  | .slice A n c => some (encS A n c, [])
  | _ => none
theorem rdS_at (A : Option Addr) (n c : Nat) : rdS (.slice A n c) = some (encS A n c, []) := rfl
theorem rdS_form (v : Value) (y : DataW Unit × List MemPlace) (h : rdS v = some y) : ∃ t : Option Addr × Nat × Nat, v = .slice t.1 t.2.1 t.2.2 := by
  unfold rdS at h
  split at h
  · exact ⟨(_, _, _), rfl⟩
  · cases h

theorem next_was (w : World) {ops : Array Oper} {rest : List Oper} {o : Oper} {a : Act} {Q : Exit → Act → World → Prop} (hg : o.guard = none) (it : Operand) (hop : o.op = Op.next it false) (b r n : Nat) (D : DataW Unit) (left : Lit → Bool) (cnt : Nat)
    (hit : a.eval it = .pointer (some ⟨r, 0, none⟩)) (h : w.ranges Try.prog 9 rdS b r n D left cnt)
    (hDone : cnt = 0 → (∀ kl, left kl = false) → wpList Try.prog ops Q rest (a.put o.dst (.tuple #[.bool false])) w)
    (hMore : ∀ (x : ByteArray) (A : Option Addr) (m c : Nat) (w' : World) (cnt' : Nat), x.size ≤ maxLen → left (.string x.data.toList) = true → (∀ zd, D.atKey (.string x.data.toList) zd = encS A m c) → w'.ranges Try.prog 9 rdS b r n D (fun z => left z && !z.sameKey (.string x.data.toList)) cnt' → cnt' < cnt →
      w.grownBy w' (some r) → w'.heap.size = w.heap.size → (Instr.entry (.pointer (some ⟨r, 0, none⟩))).run Try.prog w' = .ok (.tuple #[.string x, .slice A m c]) w' → wpList Try.prog ops Q rest (a.put o.dst (.tuple #[.bool true, .string x, .slice A m c])) w') :
    wpList Try.prog ops Q (o :: rest) a w :=
  wpList_next_ranges w hg it hop 9 law9 rdS Value.string (fun t : Option Addr × Nat × Nat => Value.slice t.1 t.2.1 t.2.2) (fun key kl h => by obtain ⟨s, rfl, _⟩ := string_of_keyOf Try.underlying9 h; exact ⟨s, rfl⟩) rdS_form b r n D left cnt hit h hDone
    (fun x t kl y w' cnt' hkey hlk hv hat hrg hlt hgr hsz hen => by
      have hk := hkey
      obtain ⟨x', ex, rfl, hx⟩ := string_of_keyOf Try.underlying9 hkey
      cases ex
      have hy : y = (encS t.1 t.2.1 t.2.2, []) := by
        rw [rdS_at] at hv
        exact (Option.some.inj hv).symm
      subst hy
      exact hMore x t.1 t.2.1 t.2.2 w' cnt' hx hlk hat hrg hlt hgr hsz hen)

/-- The map's entries: for each name bytes that M knows, in a row whose block is S's. -/
structure Was (S : Nat → Prop) (w : World) (wb n : Nat) (D : DataW Unit) (M : List UInt8 → List Int → Prop) : Prop where
  map : w.ownsMap Try.prog 9 rdS wb n D
  all : ∀ x, has D (.string x) = true → ∃ (bs : List Int) (A : Option Addr) (c : Nat), M x bs ∧ (∀ zd, D.atKey (.string x) zd = encS A bs.length c) ∧ bs.length ≤ c ∧ Row S w A (u8s bs)

section
variable {S S' : Nat → Prop} {w w' : World} {wb n : Nat} {D : DataW Unit} {M M' : List UInt8 → List Int → Prop}

theorem Was.mono (h : Was S w wb n D M) (hS : ∀ g, g < w.heap.size → S g → S' g) (hM : ∀ x bs, M x bs → M' x bs) : Was S' w wb n D M' :=
  ⟨h.map, fun x hx => by
    obtain ⟨bs, A, c, h1, h2, h3, h4⟩ := h.all x hx
    exact ⟨bs, A, c, hM _ _ h1, h2, h3, h4.mono hS⟩⟩
/-- what leaves the map's block and S's blocks alone -/
theorem Was.kept (h : Was S w wb n D M) (hs : w.heap.size ≤ w'.heap.size) (hb : w'.heap[wb]? = w.heap[wb]?) (hk : ∀ g, g < w.heap.size → S g → w'.heap[g]? = w.heap[g]?) : Was S w' wb n D M :=
  ⟨by obtain ⟨es, clock, hm, r⟩ := h.map; exact ⟨es, clock, by rw [hb]; exact hm, r⟩, fun x hx => by
    obtain ⟨bs, A, c, h1, h2, h3, h4⟩ := h.all x hx
    exact ⟨bs, A, c, h1, h2, h3, h4.kept hs hk⟩⟩
theorem Was.below (h : Was S w wb n D M) (hb : Below w.heap.size w w') : Was S w' wb n D M := by
  obtain ⟨_, _, hmb, _⟩ := h.map
  exact h.kept hb.size (hb.block _ (lt_of_block hmb)) fun g hg _ => hb.block g hg
/-- a store: bytes that M knows, in a row of S's -/
theorem Was.put (h : Was S w wb n D M) (hn : n < maxLen) {s : ByteArray} (hs : s.size ≤ maxLen) {bs : List Int} {A : Option Addr} {c : Nat} (hM : M s.data.toList bs) (hc : bs.length ≤ c) (hr : Row S w A (u8s bs)) (hS : ¬ S wb) :
    ∃ w', (Instr.mapUpdate 40 (.map (some wb)) (.string s) (.slice A bs.length c)).run Try.prog w = .ok () w' ∧ Was S w' wb (n + 1) (D.put (.string s.data.toList) (encS A bs.length c)) M ∧ w.mapTurned w' wb := by
  obtain ⟨w', hrun, h1, h2⟩ := h.map.store law9 Try.underlying40 hn (keyOf_string_mk Try.underlying9 hs) (rdS_at A bs.length c)
  have hg := h2.grown
  refine ⟨w', hrun, ⟨h1, fun x hx => ?_⟩, h2⟩
  have hkeep : ∀ {A : Option Addr} {xs : List Value}, Row S w A xs → Row S w' A xs := fun hr => hr.kept hg.size fun g hl hg' => hg.block g hl (by intro e; injection e with e; exact hS (e ▸ hg'))
  by_cases hyx : x = s.data.toList
  · subst hyx
    exact ⟨bs, A, c, hM, fun zd => atKey_put_same (k := .string s.data.toList) h.map.isMap (by trivial) _ _, hc, hkeep hr⟩
  · rw [has_put_other (by simpa using hyx)] at hx
    obtain ⟨bs', A', c', i1, i2, i3, i4⟩ := h.all x hx
    exact ⟨bs', A', c', i1, fun zd => by rw [atKey_put_other (by simpa using hyx)]; exact i2 zd, i3, hkeep i4⟩
end

end Go.Proofs.Ytchedflfinkppaa
