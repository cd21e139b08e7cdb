/-
  The map from names to bytes that DiskFirm fills: how its elements read; a store, a range's step.
-/
import Derived.Test.YtchedflfinkppaaLv
import Derived.Maps.RangeWalk
import Derived.Test.YtchedflfinkppaaMany0
namespace Go.Proofs.Ytchedflfinkppaa
open Go.RowKit Go.Maps Go.WideMaps
set_option linter.unusedSimpArgs false
set_option linter.unusedVariables false

/-- A slice as numbers. -/
def num (n : Nat) : DataW Unit := .lit (.int .i64 (n : Int))
def encA : Option Addr → DataW Unit
  | none => .nil
  | some ⟨g, o, none⟩ => .agg [num g, num o]
  | some ⟨g, o, some s⟩ => .agg [num g, num o, num s]
def encS (A : Option Addr) (n c : Nat) : DataW Unit := .agg [encA A, num n, num c]
theorem num_inj {a b : Nat} (h : num a = num b) : a = b := by
  unfold num at h
  injection h with h
  injection h with _ h
  omega
theorem encA_inj {A B : Option Addr} (h : encA A = encA B) : A = B := by
  rcases A with _ | ⟨g, o, _ | s⟩ <;> rcases B with _ | ⟨g', o', _ | s'⟩ <;> simp only [encA] at h <;> first
    | rfl
    | (cases h; rfl)
    | cases h
theorem encS_inj {A B : Option Addr} {n m c d : Nat} (h : encS A n c = encS B m d) : A = B ∧ n = m ∧ c = d := by
  unfold encS at h
  injection h with h
  injection h with h1 h
  injection h with h2 h
  injection h with h3 _
  exact ⟨encA_inj h1, num_inj h2, num_inj h3⟩
def rdS (v : Value) : Option (DataW Unit × List MemPlace) :=
  match v with
  | .slice A n c => some (encS A n c, [])
  | _ => none
theorem rdS_at (A : Option Addr) (n c : Nat) : rdS (.slice A n c) = some (encS A n c, []) := rfl
theorem rdS_form (v : Value) (y : DataW Unit × List MemPlace) (h : rdS v = some y) : ∃ t : Option Addr × Nat × Nat, v = .slice t.1 t.2.1 t.2.2 := by
  unfold rdS at h
  split at h
  · exact ⟨(_, _, _), rfl⟩
  · cases h

theorem next_was (w : World) {ops : Array Oper} {rest : List Oper} {o : Oper} {a : Act} {Q : Exit → Act → World → Prop} (hg : o.guard = none) (it : Operand) (hop : o.op = Op.next it false) (b r n : Nat) (D : DataW Unit) (left : Lit → Bool) (cnt : Nat)
    (hit : a.eval it = .pointer (some ⟨r, 0, none⟩)) (h : w.ranges Try.prog 9 rdS b r n D left cnt)
    (hDone : cnt = 0 → (∀ kl, left kl = false) → wpList Try.prog ops Q rest (a.put o.dst (.tuple #[.bool false])) w)
    (hMore : ∀ (x : ByteArray) (A : Option Addr) (m c : Nat) (w' : World) (cnt' : Nat), x.size ≤ maxLen → left (.string x.data.toList) = true → (∀ zd, D.atKey (.string x.data.toList) zd = encS A m c) → w'.ranges Try.prog 9 rdS b r n D (fun z => left z && !z.sameKey (.string x.data.toList)) cnt' → cnt' < cnt →
      w.grownBy w' (some r) → w'.heap.size = w.heap.size → (Instr.entry (.pointer (some ⟨r, 0, none⟩))).run Try.prog w' = .ok (.tuple #[.string x, .slice A m c]) w' → wpList Try.prog ops Q rest (a.put o.dst (.tuple #[.bool true, .string x, .slice A m c])) w') :
    wpList Try.prog ops Q (o :: rest) a w :=
  wpList_next_ranges w hg it hop 9 law9 rdS Value.string (fun t : Option Addr × Nat × Nat => Value.slice t.1 t.2.1 t.2.2) (fun key kl h => by obtain ⟨s, rfl, _⟩ := string_of_keyOf Try.underlying9 h; exact ⟨s, rfl⟩) rdS_form b r n D left cnt hit h hDone
    (fun x t kl y w' cnt' hkey hlk hv hat hrg hlt hgr hsz hen => by
      have hk := hkey
      obtain ⟨x', ex, rfl, hx⟩ := string_of_keyOf Try.underlying9 hkey
      cases ex
      have hy : y = (encS t.1 t.2.1 t.2.2, []) := by
        rw [rdS_at] at hv
        exact (Option.some.inj hv).symm
      subst hy
      exact hMore x t.1 t.2.1 t.2.2 w' cnt' hx hlk hat hrg hlt hgr hsz hen)

/-- The map's entries: for each name bytes that M knows, in a row whose block is S's. -/
structure Was (S : Nat → Prop) (w : World) (wb n : Nat) (D : DataW Unit) (M : List UInt8 → List Int → Prop) : Prop where
  map : w.ownsMap Try.prog 9 rdS wb n D
  all : ∀ x, has D (.string x) = true → ∃ (bs : List Int) (A : Option Addr) (c : Nat), M x bs ∧ (∀ zd, D.atKey (.string x) zd = encS A bs.length c) ∧ bs.length ≤ c ∧ Row S w A (u8s bs)

section
variable {S S' : Nat → Prop} {w w' : World} {wb n : Nat} {D : DataW Unit} {M M' : List UInt8 → List Int → Prop}

theorem Was.mono (h : Was S w wb n D M) (hS : ∀ g, g < w.heap.size → S g → S' g) (hM : ∀ x bs, M x bs → M' x bs) : Was S' w wb n D M' :=
  ⟨h.map, fun x hx => by
    obtain ⟨bs, A, c, h1, h2, h3, h4⟩ := h.all x hx
    exact ⟨bs, A, c, hM _ _ h1, h2, h3, h4.mono hS⟩⟩
/-- what leaves the map's block and S's blocks alone -/
theorem Was.kept (h : Was S w wb n D M) (hs : w.heap.size ≤ w'.heap.size) (hb : w'.heap[wb]? = w.heap[wb]?) (hk : ∀ g, g < w.heap.size → S g → w'.heap[g]? = w.heap[g]?) : Was S w' wb n D M :=
  ⟨by obtain ⟨es, clock, hm, r⟩ := h.map; exact ⟨es, clock, by rw [hb]; exact hm, r⟩, fun x hx => by
    obtain ⟨bs, A, c, h1, h2, h3, h4⟩ := h.all x hx
    exact ⟨bs, A, c, h1, h2, h3, h4.kept hs hk⟩⟩
theorem Was.below (h : Was S w wb n D M) (hb : Below w.heap.size w w') : Was S w' wb n D M := by
  obtain ⟨_, _, hmb, _⟩ := h.map
  exact h.kept hb.size (hb.block _ (lt_of_block hmb)) fun g hg _ => hb.block g hg
/-- a store: bytes that M knows, in a row of S's -/
theorem Was.put (h : Was S w wb n D M) (hn : n < maxLen) {s : ByteArray} (hs : s.size ≤ maxLen) {bs : List Int} {A : Option Addr} {c : Nat} (hM : M s.data.toList bs) (hc : bs.length ≤ c) (hr : Row S w A (u8s bs)) (hS : ¬ S wb) :
    ∃ w', (Instr.mapUpdate 40 (.map (some wb)) (.string s) (.slice A bs.length c)).run Try.prog w = .ok () w' ∧ Was S w' wb (n + 1) (D.put (.string s.data.toList) (encS A bs.length c)) M ∧ w.mapTurned w' wb := by
  obtain ⟨w', hrun, h1, h2⟩ := h.map.store law9 Try.underlying40 hn (keyOf_string_mk Try.underlying9 hs) (rdS_at A bs.length c)
  have hg := h2.grown
  refine ⟨w', hrun, ⟨h1, fun x hx => ?_⟩, h2⟩
  have hkeep : ∀ {A : Option Addr} {xs : List Value}, Row S w A xs → Row S w' A xs := fun hr => hr.kept hg.size fun g hl hg' => hg.block g hl (by intro e; injection e with e; exact hS (e ▸ hg'))
  by_cases hyx : x = s.data.toList
  · subst hyx
    exact ⟨bs, A, c, hM, fun zd => atKey_put_same (k := .string s.data.toList) h.map.isMap (by trivial) _ _, hc, hkeep hr⟩
  · rw [has_put_other (by simpa using hyx)] at hx
    obtain ⟨bs', A', c', i1, i2, i3, i4⟩ := h.all x hx
    exact ⟨bs', A', c', i1, fun zd => by rw [atKey_put_other (by simpa using hyx)]; exact i2 zd, i3, hkeep i4⟩
end

end Go.Proofs.Ytchedflfinkppaa

/-
  What was firm before stays in front of each file, whatever is written behind and whatever a crash keeps.
-/
namespace Go.Proofs.Ytchedflfinkppaa
open Go.RowKit Go.Maps Go.WideMaps
set_option linter.unusedSimpArgs false
set_option linter.unusedVariables false

/-- Each file that M knows is there, M's bytes in front and firm. -/
def Front (M : List UInt8 → List Int → Prop) (A : List AFile) : Prop := ∀ x bs, M x bs → ∃ a ∈ A, a.1 = x ∧ (∃ r, a.2.1 = bs ++ r) ∧ bs.length ≤ a.2.2

theorem nodup_eq {A : List AFile} (hN : (A.map Prod.fst).Nodup) {a b : AFile} (ha : a ∈ A) (hb : b ∈ A) (h : a.1 = b.1) : a = b := by
  induction A with
  | nil => cases ha
  | cons c A ih =>
    rw [List.map_cons, List.nodup_cons] at hN
    rcases List.mem_cons.1 ha with e1 | i1 <;> rcases List.mem_cons.1 hb with e2 | i2
    · rw [e1, e2]
    · subst e1
      exact absurd (List.mem_map.2 ⟨b, i2, h.symm⟩) hN.1
    · subst e2
      exact absurd (List.mem_map.2 ⟨a, i1, h⟩) hN.1
    · exact ih hN.2 i1 i2
theorem find_mem {A : List AFile} {x : List UInt8} {a : AFile} (h : findA A x = some a) : a ∈ A ∧ a.1 = x := by
  unfold findA at h
  exact ⟨List.mem_of_find?_eq_some h, by simpa using List.find?_some h⟩

theorem Front.write {M : List UInt8 → List Int → Prop} {A : List AFile} (h : Front M A) (hN : (A.map Prod.fst).Nodup) (p : Pw) (room : Nat) (s : ByteArray) (ts : List Int) : Front M (writeA p room A s ts).2 := by
  unfold writeA
  split
  · exact h
  split
  · exact h
  split
  · split
    · exact h
    · intro x bs hM
      obtain ⟨a, ha, h1, h2, h3⟩ := h x bs hM
      exact ⟨a, List.mem_cons_of_mem _ ha, h1, h2, h3⟩
  · rename_i a hf
    split
    · exact h
    · intro x bs hM
      obtain ⟨a', ha, h1, ⟨r, h2⟩, h3⟩ := h x bs hM
      obtain ⟨hm, _⟩ := find_mem hf
      by_cases he : a'.1 = a.1
      · have := nodup_eq hN ha hm he
        subst this
        exact ⟨(a'.1, a'.2.1 ++ ts, a'.2.2), List.mem_map.2 ⟨a', ha, by rw [if_pos rfl]⟩, h1, ⟨r ++ ts, by rw [h2, List.append_assoc]⟩, h3⟩
      · exact ⟨a', List.mem_map.2 ⟨a', ha, by rw [if_neg he]⟩, h1, ⟨r, h2⟩, h3⟩

theorem Front.crash1 {M : List UInt8 → List Int → Prop} {A : List AFile} (h : Front M A) (x : List UInt8) (i : Nat) (keep : List Int) : Front M (cr1 A x i keep) := by
  intro y bs hM
  obtain ⟨a, ha, h1, ⟨r, h2⟩, h3⟩ := h y bs hM
  by_cases he : a.1 = x
  · have hk : bs.length ≤ keepN i keep a := by unfold keepN; omega
    have ht : a.2.1.take (keepN i keep a) = bs ++ r.take (keepN i keep a - bs.length) := by
      rw [h2, List.take_append, List.take_of_length_le hk]
    refine ⟨cr0 i keep a, List.mem_map.2 ⟨a, ha, by rw [if_pos he]⟩, h1, ⟨_, ht⟩, ?_⟩
    simp only [cr0]
    rw [ht, List.length_append]
    omega
  · exact ⟨a, List.mem_map.2 ⟨a, ha, by rw [if_neg he]⟩, h1, ⟨r, h2⟩, h3⟩
theorem Front.crash {M : List UInt8 → List Int → Prop} {A : List AFile} (h : Front M A) (keep : List Int) : Front M (crashA A keep) := by
  unfold crashA
  generalize A.length = k
  generalize srtA A = ns
  induction k with
  | zero => exact h
  | succ k ih => rw [crT_succ]; exact ih.crash1 _ _ _

/-- behind a crash every file is firm -/
theorem crT_whole (A : List AFile) (ns : List (List UInt8)) (keep : List Int) : ∀ k, ∀ a ∈ crT A ns keep k, (∃ i, i < k ∧ ns.getD i [] = a.1) → a.2.2 = a.2.1.length
  | 0, _, _, ⟨_, h, _⟩ => by omega
  | k + 1, a, ha, ⟨i, hi, hx⟩ => by
    rw [crT_succ] at ha
    obtain ⟨a', ha', rfl⟩ := List.mem_map.1 ha
    by_cases he : a'.1 = ns.getD k []
    · rw [if_pos he]
      rfl
    · rw [if_neg he] at hx ⊢
      refine crT_whole A ns keep k a' ha' ⟨i, ?_, hx⟩
      rcases Nat.lt_or_ge i k with h | h
      · exact h
      · obtain rfl : i = k := by omega
        exact absurd hx.symm he
theorem crash_whole (A : List AFile) (keep : List Int) : ∀ a ∈ crashA A keep, a.2.2 = a.2.1.length := by
  intro a ha
  refine crT_whole A (srtA A) keep A.length a ha ?_
  have hm : a.1 ∈ srtA A := by
    have : a.1 ∈ (crT A (srtA A) keep A.length).map Prod.fst := List.mem_map.2 ⟨a, ha, rfl⟩
    rw [crT_names] at this
    exact List.mem_mergeSort.2 this
  obtain ⟨i, hi, e⟩ := List.getElem_of_mem hm
  have hl : (srtA A).length = A.length := by simp [srtA]
  exact ⟨i, by omega, by rw [List.getD_eq_getElem?_getD, List.getElem?_eq_getElem hi]; exact e⟩
theorem loose_crash (A : List AFile) (keep : List Int) (x : List UInt8) : looseA (crashA A keep) x = 0 := by
  unfold looseA
  split
  · rfl
  · rename_i a hf
    rw [crash_whole A keep a (find_mem hf).1]
    omega

theorem names_in {A : List AFile} {s : ByteArray} (h : s ∈ namesA A) : ∃ a ∈ A, a.1 = s.data.toList := by
  obtain ⟨x, hx, rfl⟩ := List.mem_map.1 h
  obtain ⟨a, ha, rfl⟩ := List.mem_map.1 (List.mem_mergeSort.1 hx)
  exact ⟨a, ha, (keyB_data _).symm⟩
theorem in_names {A : List AFile} {a : AFile} (h : a ∈ A) : keyB a.1 ∈ namesA A :=
  List.mem_map.2 ⟨a.1, List.mem_mergeSort.2 (List.mem_map.2 ⟨a, h, rfl⟩), rfl⟩
theorem all_own (A : List AFile) : allA A (namesA A) = true := by
  unfold allA
  rw [List.all_eq_true]
  intro s hs
  obtain ⟨a, ha, hx⟩ := names_in hs
  unfold findA
  rw [List.find?_isSome]
  exact ⟨a, ha, by simpa using hx⟩
theorem firm_own (A : List AFile) : ∀ a ∈ firmA A (namesA A), a.2.1.length ≤ a.2.2 := by
  intro a ha
  have hn : a.1 ∈ A.map Prod.fst := by
    rw [← firmA_names (namesA A) A]
    exact List.mem_map.2 ⟨a, ha, rfl⟩
  obtain ⟨c, hc, hx⟩ := List.mem_map.1 hn
  exact firmA_firm _ A (keyB a.1) (hx ▸ in_names hc) a ha (keyB_data _).symm
/-- M: the bytes that the files have now. -/
def NowM (A : List AFile) (x : List UInt8) (bs : List Int) : Prop := ∃ a ∈ A, a.1 = x ∧ a.2.1 = bs
theorem Front.now {A : List AFile} (h : ∀ a ∈ A, a.2.1.length ≤ a.2.2) : Front (NowM A) A := by
  rintro x bs ⟨a, ha, h1, h2⟩
  exact ⟨a, ha, h1, ⟨[], by rw [h2, List.append_nil]⟩, by rw [← h2]; exact h a ha⟩
/-- what leaves all blocks but the disk's alone -/
theorem Was.off {w w' : World} {b mb wb n : Nat} {D : DataW Unit} {E E' : List Ent} {M : List UInt8 → List Int → Prop} (h : Was (fun g => ¬ Of b mb E g ∧ g ≠ wb) w wb n D M) (hc : DskC w w' b mb E E') (hw : ¬ Of b mb E wb) : Was (fun g => ¬ Of b mb E' g ∧ g ≠ wb) w' wb n D M ∧ ¬ Of b mb E' wb := by
  have hlt := h.map.lt
  have hold : ∀ g, g < w.heap.size → ¬ Of b mb E g → ¬ Of b mb E' g := fun g hg hn ho => by
    rcases hc.new g ho with h1 | h1
    · exact hn h1
    · omega
  refine ⟨?_, hold _ hlt hw⟩
  have hk := (h.mono (S' := fun g => (¬ Of b mb E g ∧ g ≠ wb) ∧ g < w.heap.size) (fun g h1 h2 => ⟨h2, h1⟩) (fun _ _ h => h)).kept hc.size (hc.block _ hlt hw) (fun g hg s => hc.block g hg s.1.1)
  exact hk.mono (fun g _ s => ⟨hold g s.2 s.1.1, s.1.2⟩) (fun _ _ h => h)

theorem names_small {w0 w : World} {b mb : Nat} {p : Pw} {room : Nat} {E : List Ent} (h : Lv w0 w b mb p room E) : ∀ s ∈ namesA (abs E), s.size ≤ 8 := fun s hs => by
  obtain ⟨a, ha, hx⟩ := names_in hs
  obtain ⟨e, he, rfl⟩ := mem_abs ha
  have h1 := h.names _ (List.mem_map.2 ⟨e, he, rfl⟩)
  have h2 : s.data.toList.length ≤ 8 := by rw [← hx]; exact h1
  simpa using h2

end Go.Proofs.Ytchedflfinkppaa
