/-
  The document's graph: Add, Bind, Link, Cut.
-/
import Derived.Test.YtdfmgfclcbeeiaaGRef1
namespace Go.Proofs.Ytdfmgfclcbeeiaa
open Go.RowKit Go.Maps Go.Sort
set_option linter.unusedSimpArgs false
set_option linter.unusedVariables false

theorem own_type {w : World} {B e s n g : Nat} {v : Value} {xs : List Value} (h : w.ownsRow B e s v n xs) (hv : v.ownBlock = some g) : ∃ cur, w.heap[g]? = some (.cells cur e (0, 0)) := by
  rcases h.2 with ⟨rfl, _⟩ | ⟨g', cap, cur, rfl, hb, hh, r⟩
  · simp [Value.ownBlock] at hv
  · obtain rfl : g' = g := by simpa [Value.ownBlock] using hv
    exact ⟨cur, hh⟩
theorem own_set {w : World} {B e s n g i : Nat} {v u : Value} {xs : List Value} (h : w.ownsRow B e s v n xs) (hv : v.ownBlock = some g) (hi : i < xs.length) : (w.setCell ⟨g, i, none⟩ u).ownsRow B e s v n (xs.set i u) := by
  obtain ⟨h1, h2⟩ := h
  refine ⟨by rw [List.length_set]; exact h1, ?_⟩
  rcases h2 with ⟨rfl, _⟩ | ⟨g', cap, cur, rfl, hb, hh, k1, k2, k3, k4⟩
  · simp [Value.ownBlock] at hv
  · obtain rfl : g' = g := by simpa [Value.ownBlock] using hv
    refine .inr ⟨g', cap, cur.setIfInBounds i u, rfl, hb, ?_, k1, k2, by simpa using k3, ?_⟩
    · simp [World.setCell, Array.getElem?_modify, hh]
    · rw [Array.toList_setIfInBounds, ← k4, List.take_set]
theorem own_lower {w : World} {B B' e s n : Nat} {v : Value} {xs : List Value} (h : w.ownsRow B e s v n xs) (hB : B' ≤ B) : w.ownsRow B' e s v n xs := by
  obtain ⟨hl, h1⟩ := h
  refine ⟨hl, ?_⟩
  rcases h1 with h1 | ⟨g, cap, cur, e, hg, r⟩
  · exact .inl h1
  · exact .inr ⟨g, cap, cur, e, Nat.le_trans hB hg, r⟩

/-- nothing but the document's graph has turned: cells of its type, and of an edge's -/
structure RKept (B : Nat) (w w' : World) : Prop where
  below : Below B w w'
  same : ∀ g, g < w.heap.size → (∀ cs fr, w.heap[g]? ≠ some (.cells cs 30 fr)) → (∀ cs fr, w.heap[g]? ≠ some (.cells cs 50 fr)) → w'.heap[g]? = w.heap[g]?
theorem RKept.refl (B : Nat) (w : World) : RKept B w w := ⟨Below.refl B w, fun _ _ _ _ => rfl⟩
theorem RKept.of_below {B : Nat} {w w' : World} (h : Below w.heap.size w w') (hB : B ≤ w.heap.size) : RKept B w w' := ⟨h.mono hB, fun g hg _ _ => h.block g hg⟩
theorem RKept.set {B : Nat} {w w' : World} (h : RKept B w w') {a : Addr} (ha : B ≤ a.block) (hn : a.block < w.heap.size → (∃ cs fr, w.heap[a.block]? = some (.cells cs 30 fr)) ∨ ∃ cs fr, w.heap[a.block]? = some (.cells cs 50 fr)) (u : Value) : RKept B w (w'.setCell a u) :=
  ⟨h.below.setCell ha u, fun g hg h1 h2 => by
    have hga : g ≠ a.block := fun e => by
      rcases hn (by omega) with ⟨cs, fr, hc⟩ | ⟨cs, fr, hc⟩
      · exact h1 cs fr (by rw [e]; exact hc)
      · exact h2 cs fr (by rw [e]; exact hc)
    rw [Below.heap_setCell _ _ _ _ hga]
    exact h.same g hg h1 h2⟩
theorem RKept.trans {B : Nat} {w w1 w2 : World} (h : RKept B w w1) (k : RKept B w1 w2) : RKept B w w2 :=
  ⟨h.below.trans k.below, fun g hg h1 h2 => by
    have e := h.same g hg h1 h2
    exact (k.same g (Nat.lt_of_lt_of_le hg h.below.size) (fun cs fr => by rw [e]; exact h1 cs fr) (fun cs fr => by rw [e]; exact h2 cs fr)).trans e⟩
section
variable {w w' : World} {B x : Nat} {vN vE : Value} {N : List Int} {E : List Edg} {y a b : Int}

theorem RG.n_apart (h : RG w B x vN vE N E) : vN.ownBlock ≠ some x := fun e => by
  obtain ⟨cur, hc⟩ := own_type h.nodes e
  rw [h.blk] at hc
  injection hc with hc
  injection hc with _ hc _
  cases hc
theorem RG.e_apart (h : RG w B x vN vE N E) : vE.ownBlock ≠ some x := fun e => by
  obtain ⟨cur, hc⟩ := own_type h.edges e
  rw [h.blk] at hc
  injection hc with hc
  injection hc with _ hc _
  cases hc

theorem RG.setN (h : RG w B x vN vE N E) {v : Value} {N' : List Int} (hv : w.ownsRow B 31 1 v N'.length (us N')) : RG (w.setCell ⟨x, 0, none⟩ v) B x v vE N' E := by
  have hx : v.ownBlock ≠ some x := fun e => by
    obtain ⟨cur, hc⟩ := own_type hv e
    rw [h.blk] at hc
    injection hc with hc
    injection hc with _ hc _
    cases hc
  exact ⟨by simp [World.setCell, Array.getElem?_modify, h.blk], ownsRow_setCell_other hv hx _, ownsRow_setCell_other h.edges h.e_apart _, h.low⟩
theorem RG.setE (h : RG w B x vN vE N E) {v : Value} {E' : List Edg} (hv : w.ownsRow B 50 3 v E'.length (flatE E')) : RG (w.setCell ⟨x, 1, none⟩ v) B x vN v N E' := by
  have hx : v.ownBlock ≠ some x := fun e => by
    obtain ⟨cur, hc⟩ := own_type hv e
    rw [h.blk] at hc
    injection hc with hc
    injection hc with _ hc _
    cases hc
  exact ⟨by simp [World.setCell, Array.getElem?_modify, h.blk], ownsRow_setCell_other h.nodes h.n_apart _, ownsRow_setCell_other hv hx _, h.low⟩
theorem RG.kept1 (h : RG w B x vN vE N E) (v : Value) (k : Nat) : RKept B w (w.setCell ⟨x, k, none⟩ v) :=
  (RKept.refl B w).set h.low (fun _ => .inl ⟨_, _, h.blk⟩) v

/-- what Add leaves -/
def RAddG (w : World) (B x : Nat) (vN vE : Value) (N : List Int) (E : List Edg) (y : Int) (e : Ending) (w' : World) : Prop :=
  e = .returned (.int .i64 (if hasN N y then 7 else 0)) ∧ RKept B w w' ∧ ∃ v, RG w' B x v vE (if hasN N y then N else putL N y) E

set_option maxRecDepth 100000 in
set_option maxHeartbeats 1000000 in
theorem radd_any (h : RG w B x vN vE N E) (hB : B ≤ w.heap.size) (hl : N.length ≤ 1000000) : Calls Try.prog 11 #[.pointer (some ⟨x, 0, none⟩), .int .u64 y] w (RAddG w B x vN vE N E y) := by
  have HH := Lib.hid (rhas_any h (by omega) y)
  cases hh : hasN N y with
  | true =>
    rw [hh] at HH
    have HF : Hid (RAddG w B x vN vE N E y (.returned (.int .i64 7)) w) := ⟨by rw [hh]; rfl, RKept.refl B w, vN, by rw [hh]; exact h⟩
    clear h hh
    go_enter Try.func11, Try.ntmps11
    go_wp2_with fail
    refine (HH.out).mono ?_
    rintro e w' ⟨rfl, hw⟩
    have hw := hw.symm
    subst hw
    go_wp2_with fail
    go_ret
    exact HF.out
  | false =>
    rw [hh] at HH
    have c0 := h.cell0
    obtain ⟨A, c, rfl, hnc, hrow⟩ := Row.of_own h.nodes
    have HP := Lib.hid (put_any A c N.length N y w rfl hrow hnc (by omega))
    have HF : Hid (∀ A' c' w', w'.ownsRow w.heap.size 31 1 (.slice A' (N.length + 1) c') (N.length + 1) (us (putL N y)) → Below w.heap.size w w' → w'.frozen? ⟨x, 0, none⟩ = false ∧ (∃ u, w'.cell? ⟨x, 0, none⟩ = some u) ∧ RAddG w B x (.slice A N.length c) vE N E y (.returned (.int .i64 0)) (w'.setCell ⟨x, 0, none⟩ (.slice A' (N.length + 1) c'))) := fun A' c' w' ho hb => by
      have h2 := h.below hb
      have ho' := own_lower ho hB
      rw [← putL_len N y] at ho' ⊢
      refine ⟨h2.free 0, ⟨_, h2.cell0⟩, by rw [hh]; rfl, ?_, _, by rw [hh]; exact h2.setN ho'⟩
      exact (RKept.of_below hb hB).trans (h2.kept1 _ 0)
    clear h hh hrow hnc
    go_enter Try.func11, Try.ntmps11
    go_wp2_with fail
    refine (HH.out).mono ?_
    rintro e w' ⟨rfl, hw⟩
    have hw := hw.symm
    subst hw
    go_wp2_with fail
    refine (HP.out).mono ?_
    rintro e w2 ⟨A', c', rfl, ho, hb⟩
    obtain ⟨hf, ⟨u, hu⟩, hG⟩ := HF.out A' c' w2 ho hb
    have HG := Lib.hid hG
    clear ho hb hG HF
    go_wp2_with fail
    go_ret
    exact HG.out

theorem radd_nil (w : World) (y : Int) : Calls Try.prog 11 #[.pointer none, .int .u64 y] w fun e w' => e = .returned (.int .i64 6) ∧ w' = w := by
  go_enter Try.func11, Try.ntmps11
  go_wp2_with fail
  go_ret
  exact ⟨rfl, rfl⟩

/-- what Bind, Link, Cut leave -/
def REG (w : World) (B x : Nat) (vN : Value) (N : List Int) (E' : List Edg) (r : Int) (e : Ending) (w' : World) : Prop :=
  e = .returned (.int .i64 r) ∧ RKept B w w' ∧ ∃ v, RG w' B x vN v N E'

def bindR (N : List Int) (E : List Edg) (a b : Int) : Int := if endsR N a b = 0 then (if fE E a b = 2 then 7 else 0) else endsR N a b
def linkR (N : List Int) (E : List Edg) (a b : Int) : Int := if endsR N a b = 0 then (if fE E a b ≠ 0 then 7 else 0) else endsR N a b
def cutR (N : List Int) (E : List Edg) (a b : Int) : Int := if endsR N a b = 0 then (if fE E a b = 1 then 0 else if fE E a b = 2 then 10 else 6) else endsR N a b

theorem endsR_ne {N : List Int} {a b : Int} (h : endsR N a b = 0) : a ≠ b ∧ a ∈ N ∧ b ∈ N := by
  unfold endsR at h
  by_cases hab : a = b
  · simp [hab] at h
  · rw [if_neg hab] at h
    cases ha : hasN N a <;> cases hb : hasN N b <;> rw [ha, hb] at h <;> simp at h
    exact ⟨hab, hasN_iff.1 ha, hasN_iff.1 hb⟩

/-- the contract of an edge's append -/
theorem e_row (a b : Int) (q : Bool) : flatE [(min a b, max a b, q)] = [.int .u64 (min a b), .int .u64 (max a b), .bool q] := rfl

theorem RG.grow (h : RG w B x vN vE N E) (hB : B ≤ w.heap.size) {w2 : World} {v : Value} {E' : List Edg} (hg : w.grownBy w2 vE.ownBlock) (ho : w2.ownsRow B 50 3 v E'.length (flatE E')) :
    w2.frozen? ⟨x, 1, none⟩ = false ∧ w2.cell? ⟨x, 1, none⟩ = some vE ∧ RG (w2.setCell ⟨x, 1, none⟩ v) B x vN v N E' ∧ RKept B w (w2.setCell ⟨x, 1, none⟩ v) := by
  have hxl := lt_of_block h.blk
  have hb2 : w2.heap[x]? = some (.cells #[vN, vE] 30 (0, 0)) := (hg.block x hxl (fun e => h.e_apart e.symm)).trans h.blk
  have hn2 : w2.ownsRow B 31 1 vN N.length (us N) := own_kept h.nodes hg (fun g e e' => by
    obtain ⟨cur, hc⟩ := own_type h.nodes e
    obtain ⟨cur', hc'⟩ := own_type h.edges e'
    rw [hc] at hc'
    injection hc' with hc'
    injection hc' with _ hc' _
    cases hc')
  have hvx : v.ownBlock ≠ some x := fun e => by
    obtain ⟨cur, hc⟩ := own_type ho e
    rw [hb2] at hc
    injection hc with hc
    injection hc with _ hc _
    cases hc
  refine ⟨by simp [World.frozen?, hb2], by simp [World.cell?, hb2], ⟨by simp [World.setCell, Array.getElem?_modify, hb2], ownsRow_setCell_other hn2 h.n_apart _, ownsRow_setCell_other ho hvx _, h.low⟩, ?_⟩
  refine RKept.set ⟨(Below.refl B w).grown hg hB (fun j e => (own_lt h.edges e).1), fun g hgl h1 h2 => hg.block g hgl (fun e' => ?_)⟩ h.low (fun _ => .inl ⟨_, _, h.blk⟩) v
  obtain ⟨cur, hc⟩ := own_type h.edges e'.symm
  exact h2 cur (0, 0) hc

theorem At.zero {i : Int} (h : At E a b i) (hz : fE E a b = 0) : i = -1 := by
  rcases h with ⟨_, h⟩ | ⟨k, hk, _, hl⟩
  · exact h
  · have := fE_zero.1 hz _ (List.getElem_mem hk)
    rw [hl] at this
    cases this
theorem At.more {i : Int} (h : At E a b i) (hz : fE E a b ≠ 0) : ∃ k : Nat, ∃ hk : k < E.length, i = k ∧ lnk (E[k]'hk) a b = true := by
  rcases h with ⟨h, _⟩ | h
  · exact absurd h hz
  · exact h

theorem flatE_set : ∀ (E : List Edg) (k : Nat) (hk : k < E.length), flatE (E.set k ((E[k]'hk).1, (E[k]'hk).2.1, true)) = (flatE E).set (k * 3 + 2) (.bool true)
  | [], k, hk => by simp at hk
  | e :: E, 0, hk => by simp [flatE]
  | e :: E, k + 1, hk => by
    have h := flatE_set E k (by simpa using hk)
    have e1 : flatE (e :: E) = [Value.int .u64 e.1, .int .u64 e.2.1, .bool e.2.2] ++ flatE E := rfl
    rw [e1, List.set_append_right _ _ (by show 3 ≤ (k + 1) * 3 + 2; omega)]
    rw [show (k + 1) * 3 + 2 - [Value.int .u64 e.1, .int .u64 e.2.1, .bool e.2.2].length = k * 3 + 2 by show (k + 1) * 3 + 2 - 3 = _; omega, ← h]
    rfl

/-- an edge becomes needed -/
theorem RG.need {ad : Addr} {n c k : Nat} (h : RG w B x vN (.slice (some ad) n c) N E) (hk : k < E.length) :
    w.frozen? ⟨(ad.add (k * 3)).block, (ad.add (k * 3)).off + 2, none⟩ = false ∧ RG (w.setCell ⟨(ad.add (k * 3)).block, (ad.add (k * 3)).off + 2, none⟩ (.bool true)) B x vN (.slice (some ad) n c) N (E.set k ((E[k]'hk).1, (E[k]'hk).2.1, true)) ∧
      RKept B w (w.setCell ⟨(ad.add (k * 3)).block, (ad.add (k * 3)).off + 2, none⟩ (.bool true)) := by
  rcases h.edges.2 with ⟨h1, _⟩ | ⟨g, cap, cur, e, hg, hh, _⟩
  · cases h1
  · injection e with e _ _
    injection e with e
    subst e
    rw [add_g, Addr.add_lit]
    have e0 : (0 + (k * 3 + 2)) = k * 3 + 2 := by omega
    rw [e0]
    have hgx : g ≠ x := fun e => h.e_apart (by rw [e]; rfl)
    have hs := own_set (i := k * 3 + 2) (u := .bool true) h.edges (g := g) rfl (by rw [flatE_len]; omega)
    refine ⟨by simp [World.frozen?, hh], ⟨?_, ownsRow_setCell_other h.nodes ?_ _, ?_, h.low⟩, (RKept.refl B w).set hg (fun _ => .inr ⟨_, _, hh⟩) _⟩
    · rw [Below.heap_setCell _ _ _ _ (by show x ≠ g; exact fun e => hgx e.symm)]
      exact h.blk
    · intro e
      obtain ⟨cur', hc⟩ := own_type h.nodes e
      have hc' : w.heap[g]? = some (.cells cur' 31 (0, 0)) := hc
      rw [hh] at hc'
      injection hc' with hc'
      injection hc' with _ hc' _
      cases hc'
    · rw [List.length_set, flatE_set E k hk]
      exact hs

theorem fE_at (hG : GoodE N E) {k : Nat} (hk : k < E.length) (hl : lnk (E[k]'hk) a b = true) : fE E a b = if (E[k]'hk).2.2 then 2 else 1 := fE_of hG (List.getElem_mem hk) hl

/-- what a call that lays an edge of kind q leaves -/
def LayG (w : World) (B x : Nat) (vN : Value) (N : List Int) (E : List Edg) (f : Int → Int → Int) (r : Int) (e : Ending) (w' : World) : Prop :=
  ∃ E', REG w B x vN N E' r e w' ∧ GoodE N E' ∧ E'.length ≤ E.length + 1 ∧ (r = 0 → fE E' = f) ∧ (r ≠ 0 → E' = E)
theorem LayG.no (h : RG w B x vN vE N E) (hG : GoodE N E) (hB : B ≤ w.heap.size) (f : Int → Int → Int) {r : Int} (hr : r ≠ 0) {w1 : World} (hb : Below w.heap.size w w1) : LayG w B x vN N E f r (.returned (.int .i64 r)) w1 :=
  ⟨E, ⟨rfl, RKept.of_below hb hB, _, h.below hb⟩, hG, Nat.le_succ _, fun h => absurd h hr, fun _ => rfl⟩

/-- an edge has been appended -/
theorem LayG.app (h : RG w B x vN vE N E) (hG : GoodE N E) (hB : B ≤ w.heap.size) (h0 : endsR N a b = 0) (hz : fE E a b = 0) (q : Bool) {w1 w2 : World} {A : Option Addr} {c : Nat} (hb1 : Below w.heap.size w w1)
    (ho : w2.ownsRow B 50 3 (.slice A (E.length + 1) c) (E.length + 1) (flatE E ++ [.int .u64 (min a b), .int .u64 (max a b), .bool q]))
    (hg : (w1.alloc (.cells #[.int .u64 (min a b), .int .u64 (max a b), .bool q] 50)).grownBy w2 vE.ownBlock) :
    w2.frozen? ⟨x, 1, none⟩ = false ∧ w2.cell? ⟨x, 1, none⟩ = some vE ∧ LayG w B x vN N E (both (fE E) a b (if q then 2 else 1)) 0 (.returned (.int .i64 0)) (w2.setCell ⟨x, 1, none⟩ (.slice A (E.length + 1) c)) := by
  obtain ⟨hab, ha, hb⟩ := endsR_ne h0
  have hbA : Below w.heap.size w (w1.alloc (.cells #[.int .u64 (min a b), .int .u64 (max a b), .bool q] 50)) := hb1.alloc hb1.size _
  have hlen : (E ++ [(min a b, max a b, q)]).length = E.length + 1 := by simp
  have ho' : w2.ownsRow B 50 3 (.slice A (E.length + 1) c) (E ++ [(min a b, max a b, q)]).length (flatE (E ++ [(min a b, max a b, q)])) := by
    rw [hlen, flatE_append]; exact ho
  obtain ⟨k1, k2, k3, k4⟩ := (h.below hbA).grow (Nat.le_trans hB hbA.size) hg ho'
  exact ⟨k1, k2, _, ⟨rfl, (RKept.of_below hbA hB).trans k4, _, k3⟩, hG.more ha hb hab hz q, by rw [hlen]; exact Nat.le_refl _, fun _ => fE_more hG ha hb hab hz q, fun h => absurd rfl h⟩

set_option maxRecDepth 100000 in
set_option maxHeartbeats 2000000 in
theorem rlink_any (h : RG w B x vN vE N E) (hG : GoodE N E) (hB : B ≤ w.heap.size) (hl : N.length ≤ 1000000) (hE : E.length ≤ 1000000) :
    Calls Try.prog 30 #[.pointer (some ⟨x, 0, none⟩), .int .u64 a, .int .u64 b] w (LayG w B x vN N E (both (fE E) a b 1) (linkR N E a b)) := by
  have HF := Lib.hid (rfind_any h (by omega) (by omega) a b)
  have HNO : Hid (∀ r w1, r ≠ 0 → Below w.heap.size w w1 → LayG w B x vN N E (both (fE E) a b 1) r (.returned (.int .i64 r)) w1) := fun r w1 hr hb => LayG.no h hG hB _ hr hb
  by_cases h0 : endsR N a b = 0
  · by_cases hz : fE E a b = 0
    · have HV : Hid (linkR N E a b = 0) := by show _ = _; unfold linkR; rw [if_pos h0, if_neg (by simpa using hz)]
      rw [HV.out]
      have HH0 := Lib.hid h0
      have HZ := Lib.hid hz
      have HR : Hid (∀ w1, Below w.heap.size w w1 → RG w1 B x vN vE N E) := fun w1 hb1 => h.below hb1
      have HAP : Hid (∀ w1 w2 A c, Below w.heap.size w w1 → _ → _ → _) := fun (w1 w2 : World) (A : Option Addr) (c : Nat) hb1 ho hg => LayG.app h hG hB h0 hz false (w1 := w1) (w2 := w2) (A := A) (c := c) hb1 ho hg
      obtain ⟨A0, c0, rfl, hnc0⟩ := own_form h.edges
      have hEL := flatE_len E
      have HBB := Lib.hid hB
      clear h h0 hz hG hB hEL
      go_enter Try.func30, Try.ntmps30
      go_wp2_with fail
      refine (HF.out).mono ?_
      rintro e w1 ⟨i, rfl, hat, hb1⟩
      rw [HH0.out] at hat ⊢
      obtain rfl := (hat rfl).zero HZ.out
      have hR1 := HR.out w1 hb1
      have c1 := hR1.cell1
      have hbA : Below w.heap.size w (w1.alloc (.cells #[.int .u64 (min a b), .int .u64 (max a b), .bool false] 50)) := hb1.alloc hb1.size _
      have ho1 := (hR1.edges).alloc (.cells #[.int .u64 (min a b), .int .u64 (max a b), .bool false] 50)
      have HS : Hid (B ≤ (w1.alloc (.cells #[.int .u64 (min a b), .int .u64 (max a b), .bool false] 50)).heap.size) := Nat.le_trans HBB.out hbA.size
      have HB1 := Lib.hid hb1
      clear hat hb1 hbA hR1
      go_wp2_with (first
        | (at_builtin; refine wpList_append_el elem28 rfl (.tmp 25) (.tmp 33) rfl B (.slice A0 E.length c0) E.length (flatE E) rfl ho1 _ 1 1 [.int .u64 (min a b), .int .u64 (max a b), .bool false] rfl rfl (fun j u hj => ⟨_, rfl, World.news_of_block (cs := #[.int .u64 (min a b), .int .u64 (max a b), .bool false]) (heap_alloc_new w1 _) j u hj⟩) (by simp [Value.oneCell']) (by unfold maxLen; omega) (by omega) HS.out ?_; intro A' c' w2 ho2 hg2 ha2; obtain ⟨k1, k2, k3⟩ := HAP.out w1 w2 A' c' HB1.out ho2 hg2; have HK := Lib.hid k3; clear k3 ho2 hg2 ha2 ho1 HAP HNO)
        | fail)
      go_ret
      exact HK.out
    · have HV : Hid (linkR N E a b = 7) := by show _ = _; unfold linkR; rw [if_pos h0, if_pos hz]
      rw [HV.out]
      have HZ := Lib.hid hz
      have HH0 := Lib.hid h0
      clear h h0 hz hG hB
      go_enter Try.func30, Try.ntmps30
      go_wp2_with fail
      refine (HF.out).mono ?_
      rintro e w1 ⟨i, rfl, hat, hb1⟩
      rw [HH0.out] at hat ⊢
      obtain ⟨k, hk, rfl, hlk⟩ := (hat rfl).more HZ.out
      have HK := Lib.hid (HNO.out 7 w1 (by decide) hb1)
      clear hat hlk hb1 hk
      go_wp2_with fail
      go_ret
      exact HK.out
  · have HV : Hid (linkR N E a b = endsR N a b) := by show _ = _; unfold linkR; rw [if_neg h0]
    rw [HV.out]
    obtain ⟨r, hr⟩ : ∃ r, r = endsR N a b := ⟨_, rfl⟩
    rw [← hr] at h0 ⊢
    have HR := Lib.hid hr
    have h1 : (r == 0) = false := by simpa using h0
    have HRR := Lib.hid h0
    clear h hG hB hr h0
    go_enter Try.func30, Try.ntmps30
    go_wp2_with fail
    refine (HF.out).mono ?_
    rintro e w1 ⟨i, rfl, _, hb1⟩
    rw [← HR.out]
    have HK := Lib.hid (HNO.out r w1 HRR.out hb1)
    clear hb1
    go_wp2_with fail
    go_ret
    exact HK.out

set_option maxRecDepth 100000 in
set_option maxHeartbeats 2000000 in
theorem rbind_any (h : RG w B x vN vE N E) (hG : GoodE N E) (hB : B ≤ w.heap.size) (hl : N.length ≤ 1000000) (hE : E.length ≤ 1000000) :
    Calls Try.prog 29 #[.pointer (some ⟨x, 0, none⟩), .int .u64 a, .int .u64 b] w (LayG w B x vN N E (both (fE E) a b 2) (bindR N E a b)) := by
  have HF := Lib.hid (rfind_any h (by omega) (by omega) a b)
  have HNO : Hid (∀ r w1, r ≠ 0 → Below w.heap.size w w1 → LayG w B x vN N E (both (fE E) a b 2) r (.returned (.int .i64 r)) w1) := fun r w1 hr hb => LayG.no h hG hB _ hr hb
  by_cases h0 : endsR N a b = 0
  · by_cases hz : fE E a b = 0
    · have HV : Hid (bindR N E a b = 0) := by show _ = _; unfold bindR; rw [if_pos h0, if_neg (by rw [hz]; decide)]
      rw [HV.out]
      have HH0 := Lib.hid h0
      have HZ := Lib.hid hz
      have HR : Hid (∀ w1, Below w.heap.size w w1 → RG w1 B x vN vE N E) := fun w1 hb1 => h.below hb1
      have HAP : Hid (∀ w1 w2 A c, Below w.heap.size w w1 → _ → _ → _) := fun (w1 w2 : World) (A : Option Addr) (c : Nat) hb1 ho hg => LayG.app h hG hB h0 hz true (w1 := w1) (w2 := w2) (A := A) (c := c) hb1 ho hg
      obtain ⟨A0, c0, rfl, hnc0⟩ := own_form h.edges
      have hEL := flatE_len E
      have HBB := Lib.hid hB
      clear h h0 hz hG hB hEL
      go_enter Try.func29, Try.ntmps29
      go_wp2_with fail
      refine (HF.out).mono ?_
      rintro e w1 ⟨i, rfl, hat, hb1⟩
      rw [HH0.out] at hat ⊢
      obtain rfl := (hat rfl).zero HZ.out
      have hR1 := HR.out w1 hb1
      have c1 := hR1.cell1
      have hbA : Below w.heap.size w (w1.alloc (.cells #[.int .u64 (min a b), .int .u64 (max a b), .bool true] 50)) := hb1.alloc hb1.size _
      have ho1 := (hR1.edges).alloc (.cells #[.int .u64 (min a b), .int .u64 (max a b), .bool true] 50)
      have HS : Hid (B ≤ (w1.alloc (.cells #[.int .u64 (min a b), .int .u64 (max a b), .bool true] 50)).heap.size) := Nat.le_trans HBB.out hbA.size
      have HB1 := Lib.hid hb1
      clear hat hb1 hbA hR1
      go_wp2_with (first
        | (at_builtin; refine wpList_append_el elem28 rfl (.tmp 25) (.tmp 33) rfl B (.slice A0 E.length c0) E.length (flatE E) rfl ho1 _ 1 1 [.int .u64 (min a b), .int .u64 (max a b), .bool true] rfl rfl (fun j u hj => ⟨_, rfl, World.news_of_block (cs := #[.int .u64 (min a b), .int .u64 (max a b), .bool true]) (heap_alloc_new w1 _) j u hj⟩) (by simp [Value.oneCell']) (by unfold maxLen; omega) (by omega) HS.out ?_; intro A' c' w2 ho2 hg2 ha2; obtain ⟨k1, k2, k3⟩ := HAP.out w1 w2 A' c' HB1.out ho2 hg2; have HK := Lib.hid k3; clear k3 ho2 hg2 ha2 ho1 HAP HNO)
        | fail)
      go_ret
      exact HK.out
    · have HZ := Lib.hid hz
      have HH0 := Lib.hid h0
      have HV : Hid (bindR N E a b = if fE E a b = 2 then 7 else 0) := by show _ = _; unfold bindR; rw [if_pos h0]
      have HGG := Lib.hid hG
      have HR : Hid (∀ w1, Below w.heap.size w w1 → RG w1 B x vN vE N E) := fun w1 hb1 => h.below hb1
      have HBB := Lib.hid hB
      obtain ⟨vE', hve⟩ : ∃ v, v = vE := ⟨_, rfl⟩
      obtain ⟨A0, c0, hA0, hnc0, _, hrow⟩ := Edges.of_own h.edges
      have HEL : Hid (∀ w1, Below w.heap.size w w1 → Edges w1 A0 E) := fun w1 hb1 => hrow.below hb1
      have HAB := Lib.hid (endsR_ne h0).1
      subst hA0
      clear h h0 hz hG hB hve hrow
      go_enter Try.func29, Try.ntmps29
      go_wp2_with fail
      refine (HF.out).mono ?_
      rintro e w1 ⟨i, rfl, hat, hb1⟩
      rw [HH0.out] at hat ⊢
      obtain ⟨k, hk, rfl, hlk⟩ := (hat rfl).more HZ.out
      obtain ⟨ad, rfl, _, q0, q1, q2⟩ := HEL.out w1 hb1 k hk
      have hR1 := HR.out w1 hb1
      have c1 := hR1.cell1
      obtain ⟨hfz, hR2, hK2⟩ := hR1.need hk
      have hfE := fE_at HGG.out hk hlk
      have HG2 := Lib.hid (HGG.out.need hk)
      have HF2 := Lib.hid (fE_need HGG.out HAB.out hk hlk)
      have HR2 := Lib.hid hR2
      have HK2 := Lib.hid hK2
      have HB1 := Lib.hid hb1
      have i1 : (k : Int) < (E.length : Int) := by omega
      have i0 : ¬ (k : Int) < 0 := by omega
      cases hq : (E[k]'hk).2.2 with
      | true =>
        rw [hq] at q2 hfE
        have HV2 : Hid (bindR N E a b = 7) := by show _ = _; rw [HV.out, hfE]; rfl
        have HKK : Hid (LayG w B x vN N E (both (fE E) a b 2) (bindR N E a b) (.returned (.int .i64 7)) w1) := by show LayG _ _ _ _ _ _ _ _ _ _; rw [HV2.out]; exact HNO.out 7 w1 (by decide) hb1
        clear hat hlk hb1 hR1 hR2 hK2 hfE hq q0 q1
        go_wp2_with fail
        go_ret
        exact HKK.out
      | false =>
        rw [hq] at q2 hfE
        have HV2 : Hid (bindR N E a b = 0) := by show _ = _; rw [HV.out, hfE]; rfl
        have HKK : Hid (LayG w B x vN N E (both (fE E) a b 2) (bindR N E a b) (.returned (.int .i64 0)) (w1.setCell ⟨(ad.add (k * 3)).block, (ad.add (k * 3)).off + 2, none⟩ (.bool true))) := by
          show LayG _ _ _ _ _ _ _ _ _ _
          rw [HV2.out]
          exact ⟨_, ⟨rfl, (RKept.of_below hb1 HBB.out).trans hK2, _, hR2⟩, HG2.out, by rw [List.length_set]; omega, fun _ => HF2.out, fun h => absurd rfl h⟩
        clear hat hlk hb1 hR1 hR2 hK2 hfE hq q0 q1
        go_wp2_with fail
        go_ret
        exact HKK.out
  · have HV : Hid (bindR N E a b = endsR N a b) := by show _ = _; unfold bindR; rw [if_neg h0]
    rw [HV.out]
    obtain ⟨r, hr⟩ : ∃ r, r = endsR N a b := ⟨_, rfl⟩
    rw [← hr] at h0 ⊢
    have HR := Lib.hid hr
    have h1 : (r == 0) = false := by simpa using h0
    have HRR := Lib.hid h0
    clear h hG hB hr h0
    go_enter Try.func29, Try.ntmps29
    go_wp2_with fail
    refine (HF.out).mono ?_
    rintro e w1 ⟨i, rfl, _, hb1⟩
    rw [← HR.out]
    have HK := Lib.hid (HNO.out r w1 HRR.out hb1)
    clear hb1
    go_wp2_with fail
    go_ret
    exact HK.out

end

end Go.Proofs.Ytdfmgfclcbeeiaa
