/-
  Both graphs beside one another; what a call on either of them leaves.
-/
import Derived.Test.YtdfmgfclcbeeiaaGRef3
import Derived.Test.YtdfmgfclcbeeiaaGRef5
import Derived.Test.YtdfmgfclcbeeiaaGRef6
import Derived.Test.YtdfmgfclcbeeiaaGNil
namespace Go.Proofs.Ytdfmgfclcbeeiaa
open Go.RowKit Go.Maps Go.Sort
set_option linter.unusedSimpArgs false
set_option linter.unusedVariables false

/-- cells of other types than the two graphs' own stay -/
structure TK (B : Nat) (w w' : World) : Prop where
  below : Below B w w'
  cells : ∀ (g : Nat) (cs : Array Value) (t : TypeId) (fr : Nat × Nat), w.heap[g]? = some (Obj.cells cs t fr) → t ≠ 30 → t ≠ 50 → w'.heap[g]? = some (Obj.cells cs t fr)
theorem TK.refl (B : Nat) (w : World) : TK B w w := ⟨Below.refl B w, fun _ _ _ _ h _ _ => h⟩
theorem TK.trans {B : Nat} {w w1 w2 : World} (h : TK B w w1) (k : TK B w1 w2) : TK B w w2 :=
  ⟨h.below.trans k.below, fun g cs t fr hc h1 h2 => k.cells g cs t fr (h.cells g cs t fr hc h1 h2) h1 h2⟩
theorem TK.of_below {B : Nat} {w w' : World} (h : Below w.heap.size w w') (hB : B ≤ w.heap.size) : TK B w w' := ⟨h.mono hB, fun g cs t fr hc _ _ => (h.block g (lt_of_block hc)).trans hc⟩
theorem RKept.tk {B : Nat} {w w' : World} (h : RKept B w w') : TK B w w' :=
  ⟨h.below, fun g cs t fr hc h1 h2 => (h.same g (lt_of_block hc) (fun cs' fr' e => by rw [hc] at e; injection e with e; injection e with _ e _; exact h1 e) (fun cs' fr' e => by rw [hc] at e; injection e with e; injection e with _ e _; exact h2 e)).trans hc⟩

/-- all cells stay -/
structure CK (B : Nat) (w w' : World) : Prop where
  below : Below B w w'
  cells : ∀ (g : Nat) (cs : Array Value) (t : TypeId) (fr : Nat × Nat), w.heap[g]? = some (Obj.cells cs t fr) → w'.heap[g]? = some (Obj.cells cs t fr)
theorem CK.tk {B : Nat} {w w' : World} (h : CK B w w') : TK B w w' := ⟨h.below, fun g cs t fr hc _ _ => h.cells g cs t fr hc⟩
theorem CK.refl (B : Nat) (w : World) : CK B w w := ⟨Below.refl B w, fun _ _ _ _ h => h⟩
theorem CK.own {B B' e s n : Nat} {w w' : World} (h : CK B w w') {v : Value} {xs : List Value} (ho : w.ownsRow B' e s v n xs) : w'.ownsRow B' e s v n xs := by
  obtain ⟨h1, h2⟩ := ho
  refine ⟨h1, ?_⟩
  rcases h2 with h2 | ⟨g, cap, cur, e, hb, hh, r⟩
  · exact .inl h2
  · exact .inr ⟨g, cap, cur, e, hb, h.cells _ _ _ _ hh, r⟩
theorem TK.own {B B' e s n : Nat} {w w' : World} (h : TK B w w') (h1 : e ≠ 30) (h2 : e ≠ 50) {v : Value} {xs : List Value} (ho : w.ownsRow B' e s v n xs) : w'.ownsRow B' e s v n xs := by
  obtain ⟨k1, k2⟩ := ho
  refine ⟨k1, ?_⟩
  rcases k2 with k2 | ⟨g, cap, cur, ev, hb, hh, r⟩
  · exact .inl k2
  · exact .inr ⟨g, cap, cur, ev, hb, h.cells _ _ _ _ hh h1 h2, r⟩

theorem Gr.not_map {w : World} {B b mb n : Nat} {D : DataW Unit} {nb : Int → Option Nat} {f : Int → Int → Int} (h : Gr w B b mb n D nb f) {g : Nat} {cs : Array Value} {t : TypeId} {fr : Nat × Nat} (hc : w.heap[g]? = some (Obj.cells cs t fr)) : g ≠ mb ∧ ∀ z, nb z ≠ some g := by
  constructor
  · intro e
    obtain ⟨es, cl, h2, _⟩ := h.map
    rw [e, h2] at hc
    cases hc
  · intro z e
    obtain ⟨D', hI⟩ := h.inn z g e
    obtain ⟨es, cl, h2, _⟩ := hI.map
    rw [h2] at hc
    cases hc
theorem Kept.ck {w w' : World} {B b mb n : Nat} {D : DataW Unit} {nb : Int → Option Nat} {f : Int → Int → Int} (h : Gr w B b mb n D nb f) (k : Kept B mb nb w w') : CK B w w' :=
  ⟨k.1, fun g cs t fr hc => (k.2 g (lt_of_block hc) (h.not_map hc).1 (h.not_map hc).2).trans hc⟩

theorem ownsMap_block {H : Type} {w W : World} {k : TypeId} {R : Value → Option (DataW H × List MemPlace)} {b nn : Nat} {D0 : DataW H} (h : w.ownsMap Try.prog k R b nn D0) (hB : W.heap[b]? = w.heap[b]?) : W.ownsMap Try.prog k R b nn D0 := by
  obtain ⟨es, clock, hb, Ft, hs, hD⟩ := h
  exact ⟨es, clock, hB.trans hb, Ft, hs, hD⟩
theorem Gr.rkept {w w' : World} {B B' b mb n : Nat} {D : DataW Unit} {nb : Int → Option Nat} {f : Int → Int → Int} (h : Gr w B b mb n D nb f) (k : RKept B' w w') : Gr w' B b mb n D nb f where
  blk := by
    have hb : w.heap[b]? = some (.cells #[.map (some mb)] 57 (0, 0)) := h.blk
    exact k.tk.cells _ _ _ _ hb (by decide) (by decide)
  map := ownsMap_block h.map (by
    obtain ⟨es, cl, h2, _⟩ := h.map
    exact k.same mb h.map.lt (fun cs fr e => by rw [h2] at e; cases e) (fun cs fr e => by rw [h2] at e; cases e))
  mem := h.mem
  look := h.look
  inn x m hm := by
    obtain ⟨D', hI⟩ := h.inn x m hm
    refine ⟨D', ownsMap_block hI.map ?_, hI.mem, hI.look⟩
    obtain ⟨es, cl, h2, _⟩ := hI.map
    exact k.same m hI.map.lt (fun cs fr e => by rw [h2] at e; cases e) (fun cs fr e => by rw [h2] at e; cases e)
  non := h.non
  apart := h.apart
  new := h.new
theorem RG.ck {w w' : World} {B B' x : Nat} {vN vE : Value} {N : List Int} {E : List Edg} (h : RG w B x vN vE N E) (k : CK B' w w') : RG w' B x vN vE N E :=
  ⟨k.cells _ _ _ _ h.blk, k.own h.nodes, k.own h.edges, h.low⟩

/-- the program's graph: its nodes, its edges; L bounds them -/
def GS (w : World) (B b mb : Nat) (N : List Int) (f : Int → Int → Int) (L : Nat) : Prop :=
  ∃ n D nb, Gr w B b mb n D nb f ∧ n ≤ L ∧ ∀ z, (nb z).isSome = true ↔ z ∈ N
/-- the document's -/
def RS (w : World) (B x : Nat) (N : List Int) (E : List Edg) : Prop := ∃ vN vE, RG w B x vN vE N E

section
variable {w w' : World} {B b mb x L : Nat} {N : List Int} {f : Int → Int → Int} {E : List Edg} {y a c : Int}
theorem GS.below (h : GS w B b mb N f L) (hb : Below w.heap.size w w') : GS w' B b mb N f L := let ⟨n, D, nb, h1, h2, h3⟩ := h; ⟨n, D, nb, h1.below hb, h2, h3⟩
theorem GS.rkept {B' : Nat} (h : GS w B b mb N f L) (hb : RKept B' w w') : GS w' B b mb N f L := let ⟨n, D, nb, h1, h2, h3⟩ := h; ⟨n, D, nb, h1.rkept hb, h2, h3⟩
theorem GS.more {L' : Nat} (h : GS w B b mb N f L) (hL : L ≤ L') : GS w B b mb N f L' := let ⟨n, D, nb, h1, h2, h3⟩ := h; ⟨n, D, nb, h1, Nat.le_trans h2 hL, h3⟩
theorem RS.below (h : RS w B x N E) (hb : Below w.heap.size w w') : RS w' B x N E := let ⟨vN, vE, h⟩ := h; ⟨vN, vE, h.below hb⟩
theorem RS.ck {B' : Nat} (h : RS w B x N E) (hb : CK B' w w') : RS w' B x N E := let ⟨vN, vE, h⟩ := h; ⟨vN, vE, h.ck hb⟩

theorem ends_eq {nb : Int → Option Nat} (hn : ∀ z, (nb z).isSome = true ↔ z ∈ N) (a c : Int) : endsE nb a c = endsR N a c := by
  have h : ∀ z, (nb z).isSome = hasN N z := fun z => by
    cases h1 : hasN N z with
    | true => exact (hn z).2 (hasN_iff.1 h1)
    | false =>
      cases h2 : (nb z).isSome with
      | false => rfl
      | true => exact absurd ((hn z).1 h2) (hasN_not.1 h1)
  unfold endsE endsR
  rw [h a, h c]

/-- what a call on the program's graph leaves -/
def GEnd (w : World) (B b mb : Nat) (N : List Int) (f : Int → Int → Int) (L : Nat) (r : Int) (e : Ending) (w' : World) : Prop :=
  e = .returned (.int .i64 r) ∧ GS w' B b mb N f L ∧ CK B w w'

theorem cbind_any (h : GS w B b mb N (fE E) L) (ha : U64 a) (hc : U64 c) (hL : L ≤ 1000000) :
    Calls Try.prog 25 #[.pointer (some ⟨b, 0, none⟩), .int .u64 a, .int .u64 c] w (GEnd w B b mb N (if bindR N E a c = 0 then both (fE E) a c 2 else fE E) (L + 2) (bindR N E a c)) := by
  obtain ⟨n, D, nb, h1, h2, h3⟩ := h
  have e1 : bindE nb (fE E) a c = bindR N E a c := by unfold bindE bindR; rw [ends_eq h3]
  refine (bind_any h1 (fE_kd E) ha hc (by unfold maxLen; omega)).mono ?_
  rw [e1]
  rintro e w' ⟨rfl, ho⟩
  refine ⟨rfl, ?_⟩
  by_cases h0 : bindR N E a c = 0
  · obtain ⟨k1, k2⟩ := ho.1 h0
    rw [if_pos h0]
    exact ⟨⟨_, _, _, k1, by omega, h3⟩, Kept.ck h1 k2⟩
  · rw [if_neg h0, ho.2 h0]
    exact ⟨⟨_, _, _, h1, by omega, h3⟩, CK.refl B w⟩
theorem clink_any (h : GS w B b mb N (fE E) L) (ha : U64 a) (hc : U64 c) (hL : L ≤ 1000000) :
    Calls Try.prog 27 #[.pointer (some ⟨b, 0, none⟩), .int .u64 a, .int .u64 c] w (GEnd w B b mb N (if linkR N E a c = 0 then both (fE E) a c 1 else fE E) (L + 2) (linkR N E a c)) := by
  obtain ⟨n, D, nb, h1, h2, h3⟩ := h
  have e1 : linkE nb (fE E) a c = linkR N E a c := by unfold linkE linkR; rw [ends_eq h3]
  refine (link_any h1 (fE_kd E) ha hc (by unfold maxLen; omega)).mono ?_
  rw [e1]
  rintro e w' ⟨rfl, ho⟩
  refine ⟨rfl, ?_⟩
  by_cases h0 : linkR N E a c = 0
  · obtain ⟨k1, k2⟩ := ho.1 h0
    rw [if_pos h0]
    exact ⟨⟨_, _, _, k1, by omega, h3⟩, Kept.ck h1 k2⟩
  · rw [if_neg h0, ho.2 h0]
    exact ⟨⟨_, _, _, h1, by omega, h3⟩, CK.refl B w⟩
theorem ccut_any (h : GS w B b mb N (fE E) L) (ha : U64 a) (hc : U64 c) :
    Calls Try.prog 24 #[.pointer (some ⟨b, 0, none⟩), .int .u64 a, .int .u64 c] w (GEnd w B b mb N (if cutR N E a c = 0 then both (fE E) a c 0 else fE E) (L + 2) (cutR N E a c)) := by
  obtain ⟨n, D, nb, h1, h2, h3⟩ := h
  have e1 : cutE nb (fE E) a c = cutR N E a c := by unfold cutE cutR; rw [ends_eq h3]
  refine (cut_any h1 (fE_kd E) ha hc).mono ?_
  rw [e1]
  rintro e w' ⟨rfl, ho⟩
  refine ⟨rfl, ?_⟩
  by_cases h0 : cutR N E a c = 0
  · obtain ⟨k1, k2⟩ := ho.1 h0
    rw [if_pos h0]
    exact ⟨⟨_, _, _, k1, by omega, h3⟩, Kept.ck h1 k2⟩
  · rw [if_neg h0, ho.2 h0]
    exact ⟨⟨_, _, _, h1, by omega, h3⟩, CK.refl B w⟩
def addR (N : List Int) (y : Int) : Int := if hasN N y then 7 else 0
def addN (N : List Int) (y : Int) : List Int := if hasN N y then N else putL N y
theorem cadd_any (h : GS w B b mb N f L) (hy : U64 y) (hL : L ≤ 1000000) :
    Calls Try.prog 26 #[.pointer (some ⟨b, 0, none⟩), .int .u64 y] w (GEnd w B b mb (addN N y) f (L + 2) (addR N y)) := by
  obtain ⟨n, D, nb, h1, h2, h3⟩ := h
  refine (add_any h1 hy (by unfold maxLen; omega)).mono ?_
  rintro e w' ⟨rfl, ho⟩
  unfold addN addR addE
  cases hs : (nb y).isSome with
  | true =>
    have : hasN N y = true := hasN_iff.2 ((h3 y).1 hs)
    rw [hs] at ho
    simp at ho
    rw [this, ho]
    exact ⟨rfl, ⟨_, _, _, h1, by omega, h3⟩, CK.refl B w⟩
  | false =>
    have : hasN N y = false := hasN_not.2 fun hm => by rw [(h3 y).2 hm] at hs; cases hs
    rw [hs] at ho
    simp at ho
    obtain ⟨⟨D', m, k1⟩, k2⟩ := ho
    rw [this]
    refine ⟨rfl, ⟨_, _, _, k1, by omega, fun z => ?_⟩, Kept.ck h1 k2⟩
    rw [if_neg (by decide), putL_mem]
    unfold node
    by_cases hz : z = y
    · simp [hz]
    · simp [hz, h3 z]

/-- what a call on the document's graph leaves -/
def REnd (w : World) (B x : Nat) (N' : List Int) (E : List Edg) (f' : Int → Int → Int) (r : Int) (e : Ending) (w' : World) : Prop :=
  e = .returned (.int .i64 r) ∧ (∃ E', RS w' B x N' E' ∧ GoodE N' E' ∧ E'.length ≤ E.length + 1 ∧ fE E' = f') ∧ RKept B w w'

theorem LayG.rend {vN : Value} {r : Int} {f : Int → Int → Int} {e : Ending} (h : LayG w B x vN N E f r e w') : REnd w B x N E (if r = 0 then f else fE E) r e w' := by
  obtain ⟨E', ⟨rfl, hk, v, hr⟩, h1, h2, h3, h4⟩ := h
  refine ⟨rfl, ⟨E', ⟨_, _, hr⟩, h1, h2, ?_⟩, hk⟩
  by_cases h0 : r = 0
  · rw [if_pos h0, h3 h0]
  · rw [if_neg h0, h4 h0]

theorem dbind_any (h : RS w B x N E) (hG : GoodE N E) (hB : B ≤ w.heap.size) (hl : N.length ≤ 1000) (hE : E.length ≤ 1000) :
    Calls Try.prog 29 #[.pointer (some ⟨x, 0, none⟩), .int .u64 a, .int .u64 c] w (REnd w B x N E (if bindR N E a c = 0 then both (fE E) a c 2 else fE E) (bindR N E a c)) := by
  obtain ⟨vN, vE, h⟩ := h
  exact (rbind_any h hG hB (by omega) (by omega)).mono fun _ _ hh => hh.rend
theorem dlink_any (h : RS w B x N E) (hG : GoodE N E) (hB : B ≤ w.heap.size) (hl : N.length ≤ 1000) (hE : E.length ≤ 1000) :
    Calls Try.prog 30 #[.pointer (some ⟨x, 0, none⟩), .int .u64 a, .int .u64 c] w (REnd w B x N E (if linkR N E a c = 0 then both (fE E) a c 1 else fE E) (linkR N E a c)) := by
  obtain ⟨vN, vE, h⟩ := h
  exact (rlink_any h hG hB (by omega) (by omega)).mono fun _ _ hh => hh.rend
theorem dcut_any (h : RS w B x N E) (hG : GoodE N E) (hB : B ≤ w.heap.size) (hl : N.length ≤ 1000) (hE : E.length ≤ 1000) :
    Calls Try.prog 31 #[.pointer (some ⟨x, 0, none⟩), .int .u64 a, .int .u64 c] w (REnd w B x N E (if cutR N E a c = 0 then both (fE E) a c 0 else fE E) (cutR N E a c)) := by
  obtain ⟨vN, vE, h⟩ := h
  exact (rcut_any h hG hB (by omega) (by omega)).mono fun _ _ hh => hh.rend
theorem dadd_any (h : RS w B x N E) (hG : GoodE N E) (hB : B ≤ w.heap.size) (hl : N.length ≤ 1000) :
    Calls Try.prog 11 #[.pointer (some ⟨x, 0, none⟩), .int .u64 y] w (REnd w B x (addN N y) E (fE E) (addR N y)) := by
  obtain ⟨vN, vE, h⟩ := h
  refine (radd_any h hB (by omega)).mono ?_
  rintro e w' ⟨rfl, hk, v, hr⟩
  refine ⟨rfl, ⟨E, ⟨_, _, hr⟩, ⟨hG.lt, fun e he => ?_, hG.one⟩, Nat.le_succ _, rfl⟩, hk⟩
  have hm : ∀ z ∈ N, z ∈ addN N y := fun z hz => by
    unfold addN
    split
    · exact hz
    · exact (putL_mem N y z).2 (.inr hz)
  exact ⟨hm _ (hG.mem e he).1, hm _ (hG.mem e he).2⟩
end

end Go.Proofs.Ytdfmgfclcbeeiaa
