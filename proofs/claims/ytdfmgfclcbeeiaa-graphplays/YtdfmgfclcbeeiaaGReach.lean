/-
  The contract of Reach.
-/
import Derived.Test.YtdfmgfclcbeeiaaGWay
namespace Go.Proofs.Ytdfmgfclcbeeiaa
open Go.RowKit Go.Maps Go.Sort
set_option linter.unusedSimpArgs false
set_option linter.unusedVariables false

/-- how many entries a map has -/
def entries (w : World) (b : Nat) : Nat := match w.heap[b]? with
  | some (.map es _) => es.size
  | _ => 0
theorem entries_own {H : Type} {k : TypeId} {R : Value → Option (DataW H × List MemPlace)} {w : World} {b n : Nat} {D : DataW H} (h : w.ownsMap Try.prog k R b n D) : entries w b = Maps.size D := by
  obtain ⟨es, clock, hb, F, _, rfl⟩ := h
  unfold entries
  rw [hb]
  have := length_read (H := H) (P := Try.prog) (k := k) (R0 := R) es
  simpa [Maps.size] using this.symm
def lenOf : Value → Nat
  | .slice _ n _ => n
  | _ => 0

/-- what Reach keeps within one node's edges: those that are left may lead anywhere -/
structure Mid (R : Int → Int → Prop) (k : Int) (S : Int → Prop) (next : List Int) (here : Int) (left : Int → Prop) : Prop where
  key : S k
  way : ∀ x, S x → Way R k x
  sub : ∀ x ∈ next, S x
  at_ : S here
  done : ∀ x, S x → x ∉ next → x ≠ here → ∀ y, R x y → S y
  part : ∀ y, R here y → left y ∨ S y

section
variable {R : Int → Int → Prop} {k here z : Int} {S S' : Int → Prop} {next : List Int} {left left' : Int → Prop}
theorem Seen.pop (h : Seen R k S (next ++ [here])) : Mid R k S next here (R here) where
  key := h.key
  way := h.way
  sub x hx := h.sub x (by simp [hx])
  at_ := h.sub here (by simp)
  done x hx hn hh y hr := h.done x hx (by simp [hn, hh]) y hr
  part y hr := .inl hr
theorem Mid.stop (h : Mid R k S next here left) (hl : ∀ y, ¬ left y) : Seen R k S next where
  key := h.key
  way := h.way
  sub := h.sub
  done x hx hn y hr := by
    by_cases e : x = here
    · subst e
      rcases h.part y hr with h1 | h1
      · exact absurd h1 (hl y)
      · exact h1
    · exact h.done x hx hn e y hr
theorem Mid.old (h : Mid R k S next here left) (hz : S z) (hl : ∀ y, left y → y = z ∨ left' y) : Mid R k S next here left' where
  key := h.key
  way := h.way
  sub := h.sub
  at_ := h.at_
  done := h.done
  part y hr := by
    rcases h.part y hr with h1 | h1
    · rcases hl y h1 with rfl | h2
      · exact .inr hz
      · exact .inl h2
    · exact .inr h1
theorem Mid.new (h : Mid R k S next here left) (hr : R here z) (hS : ∀ y, S' y ↔ S y ∨ y = z) (hl : ∀ y, left y → y = z ∨ left' y) : Mid R k S' (next ++ [z]) here left' where
  key := (hS k).2 (.inl h.key)
  way x hx := by
    rcases (hS x).1 hx with h1 | rfl
    · exact h.way x h1
    · exact .step (h.way _ h.at_) hr
  sub x hx := by
    rcases List.mem_append.1 hx with h1 | h1
    · exact (hS x).2 (.inl (h.sub x h1))
    · simp at h1; subst h1; exact (hS x).2 (.inr rfl)
  at_ := (hS here).2 (.inl h.at_)
  done x hx hn hh y hxy := by
    rcases (hS x).1 hx with h1 | rfl
    · exact (hS y).2 (.inl (h.done x h1 (fun hm => hn (by simp [hm])) hh y hxy))
    · exact absurd (by simp) hn
  part y hxy := by
    rcases h.part y hxy with h1 | h1
    · rcases hl y h1 with rfl | h2
      · exact .inr ((hS y).2 (.inr rfl))
      · exact .inl h2
    · exact .inr ((hS y).2 (.inl h1))
end

/-- the set's keys, each once -/
def KeysOf (D : DataW Unit) (ss : List Int) : Prop := ss.Nodup ∧ (∀ y, y ∈ ss ↔ has D (litU y) = true) ∧ Maps.size D = ss.length

theorem KeysOf.put {D : DataW Unit} {ss : List Int} (h : KeysOf D ss) (hT : Tidy D) {z : Int} (hz : has D (litU z) = false) (u : DataW Unit) : KeysOf (D.put (litU z) u) (ss ++ [z]) ∧ ∀ y, has (D.put (litU z) u) (litU y) = true ↔ has D (litU y) = true ∨ y = z := by
  have hp : ∀ y, has (D.put (litU z) u) (litU y) = true ↔ has D (litU y) = true ∨ y = z := fun y => by
    by_cases hy : y = z
    · subst hy
      rw [has_put_same hT.isMap (by trivial)]
      simp
    · rw [has_put_other (litU_ne hy)]
      simp [hy]
  refine ⟨⟨?_, fun y => ?_, ?_⟩, hp⟩
  · refine List.nodup_append.2 ⟨h.1, by simp, fun a ha c hc e => ?_⟩
    simp at hc
    subst hc
    subst e
    have := (h.2.1 a).1 ha
    rw [hz] at this
    cases this
  · rw [hp y, List.mem_append, h.2.1 y]
    simp
  · rw [Maps.size_put hT, hz, h.2.2]
    simp

theorem Gr.below {w w' : World} {B b mb n : Nat} {D : DataW Unit} {nb : Int → Option Nat} {f : Int → Int → Int} (h : Gr w B b mb n D nb f) (hB : Below w.heap.size w w') : Gr w' B b mb n D nb f where
  blk := (hB.block b h.blk.lt).trans h.blk
  map := ownsMap_below h.map hB
  mem := h.mem
  look := h.look
  inn x m hm := let ⟨D', hI⟩ := h.inn x m hm; ⟨D', ownsMap_below hI.map hB, hI.mem, hI.look⟩
  non := h.non
  apart := h.apart
  new := h.new

theorem law68 : Keyed Try.prog 31 := law31
theorem zero67 (w : World) : (zeroValue 67).run Try.prog w = .ok (.agg #[]) w := by
  have h : (Try.prog.info? 67).map (fun i => (i.zero, i.size, i.bytes)) = some (some (.agg #[]), 0, 0) := by kernel_rfl
  obtain ⟨i0, hi, hz0, _, _⟩ := info_parts h
  simp [zeroValue, typeInfo, hi, hz0]
theorem set_look {w : World} {sb n : Nat} {D : DataW Unit} {z : Int} (h : w.ownsMap Try.prog 31 unitElem sb n D) (hz : U64 z) :
    (Instr.lookup 68 (.map (some sb)) (.int .u64 z) true).run Try.prog w = .ok (.tuple #[.agg #[], .bool (has D (litU z))]) w := by
  obtain ⟨v, ps, hrun, hv⟩ := h.look_ok law31 Try.underlying68 (zero67 w) (unitElem_mk (H := Unit)) (key31 hz)
  obtain ⟨rfl, _⟩ := unitElem_inv hv
  exact hrun
theorem set_put {w : World} {sb n : Nat} {D : DataW Unit} {z : Int} (h : w.ownsMap Try.prog 31 unitElem sb n D) (hn : n < maxLen) (hz : U64 z) :
    ∃ w', (Instr.mapUpdate 68 (.map (some sb)) (.int .u64 z) (.agg #[])).run Try.prog w = .ok () w' ∧ w'.ownsMap Try.prog 31 unitElem sb (n + 1) (D.put (litU z) (.agg [])) ∧ w.grownBy w' (some sb) := by
  obtain ⟨w', hrun, hm, hg⟩ := h.store law31 Try.underlying68 hn (key31 hz) (unitElem_mk (H := Unit))
  exact ⟨w', hrun, hm, hg.grown⟩

theorem own_take {w : World} {B n : Nat} {A : Option Addr} {c : Nat} {xs : List Int} {z : Int} (h : w.ownsRow B 31 1 (.slice A (n + 1) c) (n + 1) ((xs ++ [z]).map encU)) : w.ownsRow B 31 1 (.slice A n c) n (xs.map encU) ∧ xs.length = n ∧ n + 1 ≤ c ∧ c ≤ maxLen ∧ ∃ g, A = some ⟨g, 0, none⟩ ∧ w.cell? ⟨g, n, none⟩ = some (.int .u64 z) := by
  have hl : xs.length = n := by have := h.1; simp at this; omega
  rcases h.2 with ⟨h1, _⟩ | ⟨g, cap, cur, e, hB, hh, h1, h2, h3, h4⟩
  · injection h1 with _ h1; omega
  · injection e with e1 e2 e3
    subst e1 e3
    refine ⟨⟨by simp [hl], .inr ⟨g, c, cur, rfl, hB, hh, by omega, h2, h3, ?_⟩⟩, hl, h1, h2, g, rfl, ?_⟩
    · have := congrArg (List.take n) h4
      rw [List.take_take, show min n ((n + 1) * 1) = n * 1 by omega, List.map_append, List.take_left' (by simpa using hl)] at this
      exact this
    · have hn : n < cur.size := by omega
      have := congrArg (·[n]?) h4
      simp only [Nat.mul_one, List.getElem?_take_of_lt (Nat.lt_succ_self n)] at this
      rw [List.map_append, List.getElem?_append_right (by simp [hl])] at this
      simp [hl] at this
      simp [World.cell?, hh, this, encU]

end Go.Proofs.Ytdfmgfclcbeeiaa
