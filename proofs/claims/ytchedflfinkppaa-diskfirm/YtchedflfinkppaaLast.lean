/-
  A region that draws its order and ends in one operation for which all others are wanted (a store behind everything): the others first, that one behind them.
-/
import Derived.Deep.RegionHeld3
namespace Go.Proofs.Ytchedflfinkppaa
set_option linter.unusedSimpArgs false
set_option linter.unusedVariables false

/-- what is asked of the others: that the last one goes well behind them -/
def LastQ (P : Program) (o : Oper) (Q : Exit → Act → World → Prop) : Exit → Act → World → Prop
  | .normal, a, w => Oper.wp P o a w (Q .normal) Q
  | e, a, w => Q e a w
def hasEdge (o : Oper) (j : Nat) : Bool := o.after.toList.any fun e => e.on == j && Region.binds .any e
/-- no guards; each waits for ones ahead of it alone; each but the last is waited for -/
def lastOk (ops : Array Oper) (o : Oper) : Bool :=
  (ops.toList.all fun p => p.guard.isNone) && o.guard.isNone &&
  ((List.range ops.size).all fun j => ((ops[j]?).map fun p => p.after.toList.all fun e => decide (e.on < j)).getD false) &&
  (o.after.toList.all fun e => decide (e.on < ops.size)) &&
  ((List.range ops.size).all fun j => hasEdge o j || (List.range ops.size).any fun k => decide (j < k) && ((ops[k]?).map fun p => hasEdge p j).getD false)

section
variable {P : Program} {ops : Array Oper} {o : Oper} {Q : Exit → Act → World → Prop}
theorem hasEdge_iff {p : Oper} {j : Nat} (h : hasEdge p j = true) : ∃ e ∈ p.after, e.on = j ∧ Region.binds .any e = true := by
  obtain ⟨e, he, h2⟩ := List.any_eq_true.1 h
  simp only [Bool.and_eq_true, beq_iff_eq] at h2
  exact ⟨e, by simpa using he, h2⟩
structure LastOk (ops : Array Oper) (o : Oper) : Prop where
  free : ∀ p ∈ ops, p.guard = none
  self : o.guard = none
  down : ∀ (j : Nat) (p : Oper), ops[j]? = some p → ∀ e ∈ p.after, e.on < j
  near : ∀ e ∈ o.after, e.on < ops.size
  all : ∀ j, j < ops.size → hasEdge o j = true ∨ ∃ (k : Nat) (p : Oper), j < k ∧ ops[k]? = some p ∧ hasEdge p j = true
theorem LastOk.of (h : lastOk ops o = true) : LastOk ops o := by
  unfold lastOk at h
  simp only [Bool.and_eq_true] at h
  obtain ⟨⟨⟨⟨h1, h2⟩, h3⟩, h4⟩, h5⟩ := h
  refine ⟨fun p hp => ?_, by simpa using h2, fun j p hj e he => ?_, fun e he => ?_, fun j hj => ?_⟩
  · have := List.all_eq_true.1 h1 p (by simpa using hp)
    simpa using this
  · have hlt := (Array.getElem?_eq_some_iff.1 hj).1
    have := List.all_eq_true.1 h3 j (List.mem_range.2 hlt)
    rw [hj] at this
    have := List.all_eq_true.1 this e (by simpa using he)
    simpa using this
  · have := List.all_eq_true.1 h4 e (by simpa using he)
    simpa using this
  · have := List.all_eq_true.1 h5 j (List.mem_range.2 hj)
    rcases Bool.or_eq_true_iff.1 this with h | h
    · exact .inl h
    · obtain ⟨k, hk, h⟩ := List.any_eq_true.1 h
      simp only [Bool.and_eq_true, decide_eq_true_eq] at h
      have hk' := List.mem_range.1 hk
      rw [Array.getElem?_eq_getElem hk'] at h
      exact .inr ⟨k, _, h.1, Array.getElem?_eq_getElem hk', h.2⟩

/-- whoever has come up, what he waited for has too -/
def Down (ops : Array Oper) (l : Array Bool) : Prop := ∀ k p, l.getD k false = true → ops[k]? = some p → ∀ e ∈ p.after, Region.binds .any e = true → l.getD e.on false = true
theorem getD_flip {l : Array Bool} {j : Nat} (h : j < l.size) : l.getD j true = l.getD j false := by simp [Array.getD, h]
theorem all_listed {l : Array Bool} (hok : LastOk ops o) (hd : Down ops l) (ha : ∀ e ∈ o.after, Region.binds .any e = true → l.getD e.on false = true) : ∀ d j, j < ops.size → ops.size - j ≤ d → l.getD j false = true := by
  intro d
  induction d with
  | zero => intro j hj h; omega
  | succ d ih =>
    intro j hj h
    rcases hok.all j hj with he | ⟨k, p, hjk, hp, he⟩
    · obtain ⟨e, he1, rfl, he2⟩ := hasEdge_iff he
      exact ha e he1 he2
    · obtain ⟨e, he1, rfl, he2⟩ := hasEdge_iff he
      have hk := (Array.getElem?_eq_some_iff.1 hp).1
      exact hd k p (ih k hk (by omega)) hp e he1 he2
theorem none_ready {l : Array Bool} (hok : LastOk ops o) (hs : l.size = ops.size) (hr : Region.ready .any ops l = []) : ∀ j, j < ops.size → l.getD j false = true := by
  intro j
  induction j using Nat.strongRecOn with
  | ind j ih =>
    intro hj
    cases hl : l.getD j false with
    | true => rfl
    | false =>
      have : j ∈ Region.ready .any ops l := mem_ready.2 ⟨by rw [getD_flip (by omega)]; exact hl, _, Array.getElem?_eq_getElem hj, fun e he _ => by
        have := hok.down j _ (Array.getElem?_eq_getElem hj) e he
        exact ih e.on this (by omega)⟩
      rw [hr] at this
      cases this
theorem ready_none {l : Array Bool} (hs : l.size = ops.size) (h : ∀ j, j < ops.size → l.getD j false = true) : Region.ready .any ops l = [] := by
  refine List.eq_nil_iff_forall_not_mem.2 fun j hj => ?_
  obtain ⟨h0, p, hp, _⟩ := mem_ready.1 hj
  have hlt := (Array.getElem?_eq_some_iff.1 hp).1
  rw [getD_flip (by omega), h j hlt] at h0
  cases h0
theorem push_getD {l : Array Bool} {j : Nat} (d : Bool) (h : j < l.size) : (l.push false).getD j d = l.getD j d := by
  simp [Array.getD, h, Nat.lt_succ_of_lt h, Array.getElem_push_lt]
theorem push_getD_last (l : Array Bool) (d : Bool) : (l.push false).getD l.size d = false := by simp [Array.getD]
theorem push_at {j : Nat} (h : j < ops.size) : (ops.push o)[j]? = ops[j]? := by rw [Array.getElem?_push, if_neg (by omega)]
theorem push_last : (ops.push o)[ops.size]? = some o := by simp
theorem edge_getD {l : Array Bool} {n : Nat} (hs : l.size = n) {k : Nat} (h : (l.push false).getD k false = true) : l.getD k false = true := by
  rcases Nat.lt_trichotomy k l.size with h1 | h1 | h1
  · rwa [push_getD false h1] at h
  · rw [h1, push_getD_last] at h; cases h
  · have : ¬ k < l.size + 1 := by omega
    simp [Array.getD, this] at h

theorem wp_lastQ {p : Oper} {a : Act} {w : World} {K K' : Act → World → Prop} (h : ∀ a w, K a w → K' a w) (hh : Oper.wp P p a w K (LastQ P o Q)) : Oper.wp P p a w K' Q := by
  unfold Oper.wp at *
  generalize (execOp a.eval p).run P w = r at *
  cases r with
  | ok n w' =>
    cases n <;> simp only [Oper.upon] at hh ⊢ <;>
      first
        | exact h _ _ hh
        | exact Calls.mono hh (fun e w'' he => by cases e <;> first | exact h _ _ he | exact he)
        | exact Rows.mono hh (fun _ _ he => h _ _ he)
  | halt x w' => cases x <;> simp only [Oper.upon] at hh ⊢ <;> exact hh
theorem wpOp_lastQ {i : Nat} {a : Act} {w : World} {K K' : Act → World → Prop} (hok : LastOk ops o) (hi : i < ops.size) (h : ∀ a w, K a w → K' a w) (hh : wpOp P ops (LastQ P o Q) i K a w) : wpOp P (ops.push o) Q i K' a w := by
  unfold wpOp at *
  rw [push_at hi]
  rw [Array.getElem?_eq_getElem hi] at hh ⊢
  have hg : ops[i].guard = none := hok.free _ (Array.getElem_mem hi)
  have hw : ∀ f, Region.wanted ops[i] f = true := fun f => by simp [Region.wanted, hg]
  simp only [hw, if_true] at hh ⊢
  rcases hh with hh | ⟨h1, b, v, h2⟩
  · exact .inl (wp_lastQ h hh)
  · exact .inr ⟨h1, b, v, h2⟩

theorem last_wp {l : Array Bool} {a : Act} {w : World} (hok : LastOk ops o) (hs : l.size = ops.size) (hall : ∀ j, j < ops.size → l.getD j false = true) (fuel : Nat) (h : Oper.wp P o a w (Q .normal) Q) :
    wpOp P (ops.push o) Q ops.size (wpAny P .any (ops.push o) Q fuel ((l.push false).setIfInBounds ops.size true)) a w := by
  unfold wpOp
  rw [push_last]
  have hw : ∀ f, Region.wanted o f = true := fun f => by simp [Region.wanted, hok.self]
  simp only [hw, if_true]
  refine .inl (Oper.wp_mono (fun a' w' hq => wpAny_done ?_ hq fuel) h)
  refine ready_none (ops := ops.push o) (by simp [hs]) fun j hj => ?_
  rw [Array.size_push] at hj
  rcases Nat.lt_or_ge j ops.size with h1 | h1
  · exact getD_set_true (by rw [push_getD false (by omega)]; exact hall j h1)
  · obtain rfl : j = ops.size := by omega
    simp [Array.getD, hs]
theorem set_push {l : Array Bool} {i : Nat} (h : i < l.size) : (l.push false).setIfInBounds i true = (l.setIfInBounds i true).push false := by
  refine Array.ext_getElem? fun k => ?_
  by_cases h1 : i = k
  · subst h1
    rw [Array.getElem?_push, if_neg (by simp; omega)]
    simp [h, Nat.lt_succ_of_lt h]
  · rw [Array.getElem?_setIfInBounds_ne h1, Array.getElem?_push, Array.getElem?_push, Array.getElem?_setIfInBounds_ne h1]
    simp
theorem Down.set {l : Array Bool} {i : Nat} (hd : Down ops l) (hi : i ∈ Region.ready .any ops l) : Down ops (l.setIfInBounds i true) := by
  intro k p hk hp e he hb
  by_cases hik : i = k
  · subst hik
    obtain ⟨_, p', hp', hall⟩ := mem_ready.1 hi
    rw [hp] at hp'
    injection hp' with hp'
    subst hp'
    exact getD_set_true (hall e he hb)
  · rw [getD_set_ne false hik] at hk
    exact getD_set_true (hd k p hk hp e he hb)
theorem last_any (hok : LastOk ops o) : ∀ (fuel : Nat) (l : Array Bool) (a : Act) (w : World), l.size = ops.size → Down ops l → wpAny P .any ops (LastQ P o Q) fuel l a w → wpAny P .any (ops.push o) Q (fuel + 1) (l.push false) a w := by
  intro fuel
  induction fuel with
  | zero =>
    intro l a w hs hd h
    have hall := none_ready hok hs h.1
    refine ⟨fun h0 => ?_, fun i hi => ?_⟩
    · have : ops.size ∈ Region.ready .any (ops.push o) (l.push false) := mem_ready.2 ⟨by rw [← hs]; exact push_getD_last l true, o, push_last, fun e he _ => by
        have := hok.near e he
        rw [push_getD false (by omega)]
        exact hall _ this⟩
      rw [h0] at this; cases this
    · obtain ⟨h0, p, hp, _⟩ := mem_ready.1 hi
      have hlt := (Array.getElem?_eq_some_iff.1 hp).1
      rw [Array.size_push] at hlt
      rcases Nat.lt_or_ge i ops.size with h1 | h1
      · rw [push_getD true (by omega), getD_flip (by omega), hall i h1] at h0
        cases h0
      · obtain rfl : i = ops.size := by omega
        exact last_wp hok hs hall _ h.2
  | succ fuel ih =>
    intro l a w hs hd h
    refine ⟨fun h0 => ?_, fun i hi => ?_⟩
    · by_cases hn : Region.ready .any ops l = []
      · have hall := none_ready hok hs hn
        have : ops.size ∈ Region.ready .any (ops.push o) (l.push false) := mem_ready.2 ⟨by rw [← hs]; exact push_getD_last l true, o, push_last, fun e he _ => by
          have := hok.near e he
          rw [push_getD false (by omega)]
          exact hall _ this⟩
        rw [h0] at this; cases this
      · obtain ⟨j, hj⟩ := List.exists_mem_of_ne_nil _ hn
        obtain ⟨j0, p, hp, hj1⟩ := mem_ready.1 hj
        have hlt := (Array.getElem?_eq_some_iff.1 hp).1
        have : j ∈ Region.ready .any (ops.push o) (l.push false) := mem_ready.2 ⟨by rw [push_getD true (by omega)]; exact j0, p, by rw [push_at hlt]; exact hp, fun e he hb => by
          have h1 := hok.down j p hp e he
          rw [push_getD false (by omega)]
          exact hj1 e he hb⟩
        rw [h0] at this; cases this
    · obtain ⟨h0, p, hp, hall'⟩ := mem_ready.1 hi
      have hlt := (Array.getElem?_eq_some_iff.1 hp).1
      rw [Array.size_push] at hlt
      rcases Nat.lt_or_ge i ops.size with h1 | h1
      · rw [push_getD true (by omega)] at h0
        rw [push_at h1] at hp
        have hi' : i ∈ Region.ready .any ops l := mem_ready.2 ⟨h0, p, hp, fun e he hb => edge_getD hs (hall' e he hb)⟩
        have := h.2 i hi'
        refine wpOp_lastQ hok h1 (fun a' w' h' => ?_) this
        rw [set_push (by omega)]
        exact ih _ a' w' (by simpa using hs) (hd.set hi') h'
      · obtain rfl : i = ops.size := by omega
        rw [push_last] at hp
        injection hp with hp
        subst hp
        have hall : ∀ j, j < ops.size → l.getD j false = true := fun j hj => all_listed hok hd (fun e he hb => edge_getD hs (hall' e he hb)) _ j hj (Nat.le_refl _)
        exact last_wp hok hs hall _ (h.1 (ready_none hs hall))
/-- the others first, in whatever order; the last one behind them -/
theorem wp_region_last {S : World → Prop} {id : Nat} {a : Act} {w : World} (hm : P.follows .mixedOrders = true) (hok : lastOk ops o = true) (hS : S w.drew)
    (h : S w.drew → wpAnyH P .any ops (LastQ P o Q) S ops.size (Array.replicate ops.size false) a w.drew) : (Code.region id (ops.push o) true).wp P Q a w := by
  refine wp_region_any hm ?_
  have := last_any (.of hok) ops.size (Array.replicate ops.size false) a w.drew (by simp) (fun k p hk => by simp [Array.getD] at hk) (wpAny_of_held _ _ _ _ (h hS))
  rw [Array.size_push]
  have e : Array.replicate (ops.size + 1) false = (Array.replicate ops.size false).push false := Array.replicate_succ
  rw [e]
  exact this
theorem wp_region_pop {ops1 : Array Oper} {S : World → Prop} {id : Nat} {a : Act} {w : World} (hm : P.follows .mixedOrders = true) (hp : ops1.pop = ops) (hb : ops1.back? = some o) (hok : lastOk ops o = true) (hS : S w.drew)
    (h : S w.drew → wpAnyH P .any ops (LastQ P o Q) S ops.size (Array.replicate ops.size false) a w.drew) : (Code.region id ops1 true).wp P Q a w := by
  have e : ops1 = ops.push o := by
    subst hp
    cases ops1 with
    | mk l =>
      rcases List.eq_nil_or_concat l with rfl | ⟨l', x, rfl⟩
      · simp at hb
      · simp at hb
        subst hb
        simp
  rw [e]
  exact wp_region_last hm hok hS h
end
end Go.Proofs.Ytchedflfinkppaa
