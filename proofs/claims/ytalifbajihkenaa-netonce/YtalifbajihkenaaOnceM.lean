/-
  The law NetOnce: where it stands.
-/
import Derived.Test.YtalifbajihkenaaOrdM
import Derived.Test.YtalifbajihkenaaSplits
namespace Go.Proofs.Ytalifbajihkenaa
open Go.RowKit Go.Maps
set_option linter.unusedSimpArgs false
set_option linter.unusedVariables false

def litB (y : Int) : Lit := .int .u8 y
theorem law5 : Keyed Try.prog 5 := int_keyed Try.underlying5
theorem wf8 {y : Int} (h : 0 ≤ y ∧ y < 256) : (Lit.int .u8 y).wf = true := by
  have : 0 ≤ y ∧ y ≤ 255 := by omega
  simpa [Lit.wf, IntKind.min, IntKind.max, IntKind.signed, IntKind.bits] using this
theorem key5 {y : Int} (h : 0 ≤ y ∧ y < 256) : keyOf Try.prog 5 (.int .u8 y) = some (litB y) := keyOf_int_mk Try.underlying5 (wf8 h)
theorem zero3 (w : World) : (zeroValue 3).run Try.prog w = .ok (.int .i64 0) w := by
  have h : (Try.prog.info? 3).map (fun i => (i.zero, i.size, i.bytes)) = some (some (.int .i64 0), 1, 8) := by kernel_rfl
  obtain ⟨i0, hi, hz0, _, _⟩ := info_parts h
  simp [zeroValue, typeInfo, hi, hz0]
theorem litB_ne {y z : Int} (h : z ≠ y) : litB z ≠ litB y := fun e => h (by injection e)

/-- the map of what was seen: each once -/
structure SeenC (w : World) (sb n : Nat) (ks : List Int) : Prop where
  map : ∃ D : DataW Unit, w.ownsMap Try.prog 5 (plainElem Try.prog 3) sb n D ∧ Maps.size D = ks.length ∧ (∀ y, has D (litB y) = true ↔ y ∈ ks) ∧ ∀ y, y ∈ ks → D.atKey (litB y) (.lit (.int .i64 0)) = .lit (.int .i64 1)
theorem SeenC.new (w : World) : SeenC (w.alloc (.map #[] 0)) w.heap.size 0 [] :=
  ⟨_, World.ownsMap_made w Try.prog 5 _, rfl, fun y => by simp [has], fun y h => by cases h⟩
section
variable {w w' : World} {sb n : Nat} {ks : List Int} {y : Int}
theorem SeenC.kept (h : SeenC w sb n ks) (hb : w'.heap[sb]? = w.heap[sb]?) : SeenC w' sb n ks := let ⟨D, h1, r⟩ := h.map; ⟨D, ownsMap_block h1 hb, r⟩
theorem SeenC.lt (h : SeenC w sb n ks) : sb < w.heap.size := let ⟨D, h1, _⟩ := h.map; h1.lt
theorem SeenC.isMap (h : SeenC w sb n ks) : ∃ es cl, w.heap[sb]? = some (.map es cl) := let ⟨_, ⟨es, cl, h1, _⟩, _⟩ := h.map; ⟨es, cl, h1⟩
theorem SeenC.len (h : SeenC w sb n ks) (ty : TypeId) : (Builtin.len_ #[60] ty #[.map (some sb)]).run Try.prog w = .ok (.int .i64 ks.length) w := by
  obtain ⟨D, h1, h2, _⟩ := h.map
  rw [← h2]
  exact h1.len Try.underlying60 ty
theorem SeenC.look0 (h : SeenC w sb n ks) (hy : 0 ≤ y ∧ y < 256) (hn : y ∉ ks) : (Instr.lookup 60 (.map (some sb)) (.int .u8 y) false).run Try.prog w = .ok (.int .i64 0) w := by
  obtain ⟨D, h1, _, h3, _⟩ := h.map
  obtain ⟨c, hrun, hc, _⟩ := h1.lookup_int law5 Try.underlying60 Try.underlying3 (zero3 w) (key5 hy)
  rw [atKey_of_not_has (by cases hh : has D (litB y) with
    | false => rfl
    | true => exact absurd ((h3 y).1 hh) hn)] at hc
  injection hc with hc
  injection hc with _ hc
  rw [hc]
  exact hrun
theorem SeenC.look1 (h : SeenC w sb n ks) (hy : 0 ≤ y ∧ y < 256) (hn : y ∈ ks) : (Instr.lookup 60 (.map (some sb)) (.int .u8 y) false).run Try.prog w = .ok (.int .i64 1) w := by
  obtain ⟨D, h1, _, h3, h4⟩ := h.map
  obtain ⟨c, hrun, hc, _⟩ := h1.lookup_int law5 Try.underlying60 Try.underlying3 (zero3 w) (key5 hy)
  rw [h4 y hn] at hc
  injection hc with hc
  injection hc with _ hc
  rw [hc]
  exact hrun
theorem SeenC.put (h : SeenC w sb n ks) (hy : 0 ≤ y ∧ y < 256) (hn : y ∉ ks) (hm : n < maxLen) : ∃ w', (Instr.mapUpdate 60 (.map (some sb)) (.int .u8 y) (.int .i64 1)).run Try.prog w = .ok () w' ∧ SeenC w' sb (n + 1) (ks ++ [y]) ∧ w.grownBy w' (some sb) := by
  obtain ⟨D, h1, h2, h3, h4⟩ := h.map
  obtain ⟨w', hrun, hm, hg⟩ := h1.store law5 Try.underlying60 hm (key5 hy) (plainElem_int Try.underlying3 (a := 1) (by decide))
  have hh : has D (litB y) = false := by
    cases hh : has D (litB y) with
    | false => rfl
    | true => exact absurd ((h3 y).1 hh) hn
  refine ⟨w', hrun, ⟨_, hm, ?_, fun z => ?_, fun z hz => ?_⟩, hg.grown⟩
  · rw [size_put (h1.tidy law5), hh]
    simp [h2]
  · by_cases hz : z = y
    · subst hz
      rw [has_put_same h1.isMap (by trivial)]
      simp
    · rw [has_put_other (litB_ne hz), h3 z]
      simp [hz]
  · by_cases hzy : z = y
    · subst hzy
      rw [atKey_put_same h1.isMap (by trivial)]
    · rw [atKey_put_other (litB_ne hzy)]
      exact h4 z (by simpa [hzy] using hz)
end

theorem Off.of_at {w : World} {B b mb n : Nat} {nodes : Int} {v : Value} {ls : List L3} {sp : Int → Int → Bool} (h : Nt w B b mb n nodes v ls sp) {cs : List Value} (ho : OwnAt w B v ls.length cs) {X : Nat → Prop} (hx : NoB X cs) : Off X w v ls := fun A c e => by
  obtain ⟨A', c', e', _, _, h3⟩ := h.form
  rw [e] at e'
  injection e' with e1 _ _
  subst e1
  intro j hj
  obtain ⟨ad, ea, lt, c0, c1, Y, cy, c2, k1, k2, k3⟩ := h3 j hj
  refine ⟨ad, ea, lt, c0, c1, Y, cy, c2, k1, k2, fun a eY => ⟨?_, (k3 a eY).2⟩⟩
  subst eY
  refine hx a (ls[j]'hj).2.2.length cy ?_
  subst e ea
  rcases ho.2 with ⟨e0, _⟩ | ⟨g, o, cap, cur, e0, _⟩
  · cases e0
  · injection e0 with e0 _ e3
    injection e0 with e0
    subst e0 e3
    rw [lit_add, show o + j * 3 + 2 = o + (j * 3 + 2) from by omega] at c2
    rw [ho.cell (by omega)] at c2
    exact List.mem_of_getElem? c2

/-- what is split in this law -/
def spOf (a b : Int) : Int → Int → Bool := if apartB 4 a b then setS noSp a b true else noSp
theorem free_pair {a b f t : Int} {p : List Int} (hft : apartB 4 f t = true) (hs : splitB (spOf a b) (f, t, p) = false) (h1 : min f t = min a b) (h2 : max f t = max a b) : a = b := by
  have hp := pair_same.1 ⟨h1, h2⟩
  unfold spOf at hs
  cases hab : apartB 4 a b with
  | true =>
    rw [hab, if_pos rfl] at hs
    have := (split_pair a b f t p).symm.trans hs
    rw [decide_eq_false_iff_not] at this
    exact absurd hp this
  | false =>
    have hn : ¬ (0 ≤ a ∧ a ≤ 3 ∧ 0 ≤ b ∧ b ≤ 3 ∧ a ≠ b) := fun k => by rw [(apart4 a b).2 k] at hab; cases hab
    have := (apart4 f t).1 hft
    omega

section
variable {w0 wr w w' : World} {B b mb sb n : Nat} {P : List PL} {ks : List Int} {sp : Int → Int → Bool}
/-- a net with such letters -/
structure T1 (w0 : World) (B b mb : Nat) (sp : Int → Int → Bool) (P : List PL) (wr : World) : Prop where
  net : ∃ v cs, Nt wr B b mb 1 4 v (P.map one) sp ∧ wr.ownsRow B 37 3 v (P.map one).length cs ∧ NoB (fun g => wr.heap.size ≤ g) cs
  below : Below w0.heap.size w0 wr
  base : w0.heap.size ≤ B ∧ B ≤ wr.heap.size
theorem T1.go (h : T1 w0 B b mb sp P wr) {W : World} (hW : Below wr.heap.size wr W) : T1 w0 B b mb sp P W := by
  obtain ⟨v, cs, h1, h2, h4⟩ := h.net
  have hs := hW.size
  exact ⟨⟨v, cs, h1.below hW, own_below h2 hW, h4.mono fun g hg => by omega⟩, h.below.trans (hW.mono h.below.size), h.base.1, Nat.le_trans h.base.2 hs⟩
theorem T1.post (h : T1 w0 B b mb sp P wr) {W : World} (hW : Below wr.heap.size wr W) {f t i : Int} {gb gl : Nat} (hb : W.heap[gb]? = some (.cells #[.int .u8 i] 5 (0, 0))) (hl : W.heap[gl]? = some (.cells #[.int .i64 f, .int .i64 t, .slice (some ⟨gb, 0, none⟩) 1 1] 37 (0, 0)))
    (hgb : wr.heap.size ≤ gb) (hgl : wr.heap.size ≤ gl) (hP : P.length ≤ 1000) :
    Calls Try.prog 21 #[.pointer (some ⟨b, 0, none⟩), .slice (some ⟨gl, 0, none⟩) 1 1] W fun e w' => e = .returned (.int .i64 (if apartB 4 f t then 1 else 0)) ∧ T1 w0 B b mb sp (if apartB 4 f t then P ++ [(f, t, i)] else P) w' := by
  have hg := h.go hW
  obtain ⟨v, cs, h1, h2, h4⟩ := h.net
  have hfr := h1.fresh
  have hin : Lts (NB b mb v) W (some ⟨gl, 0, none⟩) [(f, t, [i])] := lts_of hl fun j hj => by
    have hj2 : j = 0 := by simp at hj; omega
    subst hj2
    exact ⟨rfl, rfl, some ⟨gb, 0, none⟩, 1, rfl, Nat.le_refl _, Row.one hb, fun a ea => by injection ea with ea; subst ea; exact ⟨hfr _ hgb, lt_of_block hb⟩⟩
  have hpb : postB 4 (f, t, [i]) = apartB 4 f t := by simp [postB]
  have hs := hW.size
  refine (post_more (c := 1) (h1.below hW) (own_below h2 hW) hin (fun a ea => by injection ea with ea; subst ea; exact hfr _ hgl) (by simp) (by simp; omega)).mono ?_
  rintro e w' ⟨rfl, v', cs', k1, k2, k3, k4, ns, rfl, k5⟩
  have hsz := k3.below.size
  have hsame : T1 w0 B b mb sp (if apartB 4 f t then P ++ [(f, t, i)] else P) w' := by
    refine ⟨⟨v', cs ++ ns, ?_, ?_, ?_⟩, hg.below.trans (k3.below.mono h.base.1), h.base.1, Nat.le_trans hg.base.2 hsz⟩
    · cases hap : apartB 4 f t with
      | true => rw [hap] at hpb; simpa [hpb, one] using k1
      | false => rw [hap] at hpb; simpa [hpb] using k1
    · cases hap : apartB 4 f t with
      | true => rw [hap] at hpb; simpa [hpb, one] using k2
      | false => rw [hap] at hpb; simpa [hpb] using k2
    · refine (h4.mono fun g hg => by omega).append fun a n c hm hx => ?_
      have := (k5 a n c hm).2
      omega
  refine ⟨?_, hsame⟩
  cases hap : apartB 4 f t with
  | true => rw [hap] at hpb; simp [hpb]
  | false => rw [hap] at hpb; simp [hpb]

/-- a net with such letters, and what was seen -/
structure T2 (w0 : World) (B b mb sb n : Nat) (sp : Int → Int → Bool) (P : List PL) (ks : List Int) (wr : World) : Prop where
  net : ∃ v cs, Nt wr B b mb 1 4 v (P.map one) sp ∧ OwnAt wr B v (P.map one).length cs ∧ NoB (fun g => g = sb) cs
  seen : SeenC wr sb n ks
  sb : B ≤ sb ∧ sb ≠ mb
  below : Below w0.heap.size w0 wr
  base : w0.heap.size ≤ B ∧ B ≤ wr.heap.size
theorem T1.two (h : T1 w0 B b mb sp P w) : T2 w0 B b mb w.heap.size 0 sp P [] (w.alloc (.map #[] 0)) := by
  have hb : Below w.heap.size w (w.alloc (.map #[] 0)) := (Below.refl _ _).alloc (Nat.le_refl _) _
  obtain ⟨v, cs, h1, h2, h4⟩ := h.net
  exact ⟨⟨v, cs, h1.below hb, OwnAt.of_own (own_below h2 hb), h4.mono fun g hg => by omega⟩, SeenC.new w, ⟨h.base.2, by have := h1.map.lt; omega⟩, h.below.trans (hb.mono h.below.size), h.base.1, Nat.le_trans h.base.2 hb.size⟩
theorem T2.go (h : T2 w0 B b mb sb n sp P ks wr) {W : World} (hW : Below wr.heap.size wr W) : T2 w0 B b mb sb n sp P ks W := by
  obtain ⟨v, cs, h1, h2, h4⟩ := h.net
  exact ⟨⟨v, cs, h1.below hW, h2.keep fun g hg => hW.block g (by obtain ⟨cur, hc⟩ := h1.row g hg; exact lt_of_block hc), h4⟩, h.seen.kept (hW.block _ h.seen.lt), h.sb, h.below.trans (hW.mono h.below.size), h.base.1, Nat.le_trans h.base.2 hW.size⟩
theorem T2.len (h : T2 w0 B b mb sb n sp P ks w) : Calls Try.prog 26 #[.pointer (some ⟨b, 0, none⟩)] w fun e w' => e = .returned (.int .i64 P.length) ∧ w' = w := by
  obtain ⟨v, cs, h1, _⟩ := h.net
  have := len_any h1
  rw [List.length_map] at this
  exact this
theorem comes_at (sp : Int → Int → Bool) (P : List PL) {k : Nat} (hk : k < P.length) : comesE sp (P.map one) k = if splitB sp (one (P[k]'hk)) then 10 else 0 := by
  unfold comesE
  rw [dif_pos ⟨by omega, by simpa using hk⟩]
  simp
theorem T2.apart (h : T2 w0 B b mb sb n sp P ks w) {q : PL} (hq : q ∈ P) : apartB 4 q.1 q.2.1 = true := by
  obtain ⟨v, cs, h1, _⟩ := h.net
  exact h1.ok.2 (one q) (List.mem_map.2 ⟨q, hq, rfl⟩)
theorem T2.take0 (h : T2 w0 B b mb sb n sp P ks w) {k : Nat} (hk : k < P.length) (hs : splitB sp (one (P[k]'hk)) = true) : Calls Try.prog 10 #[.pointer (some ⟨b, 0, none⟩), .int .i64 k] w fun e w' => e = .returned (.tuple #[letV 0 0 none 0 0, .int .i64 10]) ∧ T2 w0 B b mb sb n sp P ks w' := by
  obtain ⟨v, cs, h1, _⟩ := h.net
  have hc : comesE sp (P.map one) k = 10 := by rw [comes_at sp P hk, hs]; rfl
  have := take_out h1 k (by rw [hc]; decide)
  rw [hc] at this
  exact this.mono fun e w' ⟨e1, hb⟩ => ⟨e1, h.go hb⟩
theorem mem_cut3 {cs : List Value} {k : Nat} {x : Value} (h : x ∈ cut3 cs k) : x ∈ cs := by
  unfold cut3 at h
  rcases List.mem_append.1 h with h | h
  · exact List.mem_of_mem_take h
  · exact List.mem_of_mem_drop h
theorem T2.take1 (h : T2 w0 B b mb sb n sp P ks w) {k : Nat} (hk : k < P.length) (hs : splitB sp (one (P[k]'hk)) = false) : Calls Try.prog 10 #[.pointer (some ⟨b, 0, none⟩), .int .i64 k] w fun e w' => ∃ ad cy, e = .returned (.tuple #[letV (P[k]'hk).1 (P[k]'hk).2.1 (some ad) 1 cy, .int .i64 0]) ∧ 1 ≤ cy ∧ ad.block < w'.heap.size ∧ ad.block ≠ sb ∧ w'.cell? ad = some (.int .u8 (P[k]'hk).2.2) ∧ T2 w0 B b mb sb n sp (P.eraseIdx k) ks w' := by
  obtain ⟨v, cs, h1, h2, h4⟩ := h.net
  have hc : comesE sp (P.map one) k = 0 := by rw [comes_at sp P hk, hs]; rfl
  have hkl : k < (P.map one).length := by rw [List.length_map]; exact hk
  have := take_in h1 h.base.2 hkl hc (one_small _)
  refine this.mono ?_
  rintro e w' ⟨Y, cy, v', rfl, k1, k2, k3, k4, k5, k6, _, k7⟩
  simp only [List.getElem_map] at k1 k2 k7 ⊢
  obtain ⟨ad, rfl, hlt, hc⟩ := k2 0 (by simp [bs, one])
  obtain ⟨k8, k9⟩ := k7 cs h2
  rw [map_erase] at k5
  have hl : (P.map one).length - 1 = ((P.eraseIdx k).map one).length := by rw [List.length_map, List.length_map, List.length_eraseIdx_of_lt hk]
  rw [hl] at k9
  have hsb : ¬ NB b mb v sb := fun e => by
    obtain ⟨es, cl, hm⟩ := h.seen.isMap
    rcases e with e | e | e
    · rw [e, h1.blk] at hm; cases hm
    · exact h.sb.2 e
    · obtain ⟨cur, hc⟩ := h1.row _ e
      rw [hc] at hm; cases hm
  refine ⟨ad, cy, rfl, k1, hlt, fun e => h4 ad _ _ (List.mem_of_getElem? k8) e, ?_, ⟨⟨v', _, k5, k9, fun a n c hm => h4 a n c (mem_cut3 hm)⟩, h.seen.kept (k6.same _ h.seen.lt hsb), h.sb, h.below.trans (k6.below.mono h.base.1), h.base.1, Nat.le_trans h.base.2 k6.below.size⟩⟩
  rw [show ad.add 0 = ad from by simp [Addr.add]] at hc
  simpa [bs, one] using hc
theorem T2.see (h : T2 w0 B b mb sb n sp P ks w) {y : Int} (hy : 0 ≤ y ∧ y < 256) (hn : y ∉ ks) (hm : n < maxLen) : ∃ w', (Instr.mapUpdate 60 (.map (some sb)) (.int .u8 y) (.int .i64 1)).run Try.prog w = .ok () w' ∧ T2 w0 B b mb sb (n + 1) sp P (ks ++ [y]) w' ∧ w.grownBy w' (some sb) := by
  obtain ⟨w', hrun, hs, hg⟩ := h.seen.put hy hn hm
  obtain ⟨v, cs, h1, h2, h4⟩ := h.net
  have hsb : ¬ NB b mb v sb := fun e => by
    obtain ⟨es, cl, hm⟩ := h.seen.isMap
    rcases e with e | e | e
    · rw [e, h1.blk] at hm; cases hm
    · exact h.sb.2 e
    · obtain ⟨cur, hc⟩ := h1.row _ e
      rw [hc] at hm; cases hm
  have hoff : Off (fun g => g = sb) w v (P.map one) := Off.of_at h1 h2 h4
  have hbk : ∀ g, g < w.heap.size → ¬ g = sb → w'.heap[g]? = w.heap[g]? := fun g hg' hne => hg.block g hg' (fun e => by injection e with e; exact hne e)
  refine ⟨w', hrun, ⟨⟨v, cs, h1.away hoff (fun q e => by rw [e]; exact hsb) hg.size hbk, h2.keep fun g hgv => hbk g (by obtain ⟨cur, hc⟩ := h1.row g hgv; exact lt_of_block hc) (fun e => hsb (.inr (.inr (by rw [← e]; exact hgv)))), h4⟩, hs, h.sb, h.below.grown hg (Nat.le_trans h.base.1 h.base.2) (fun q e => by injection e with e; have := h.sb.1; have := h.base.1; omega), h.base.1, Nat.le_trans h.base.2 hg.size⟩, hg⟩
end

end Go.Proofs.Ytalifbajihkenaa
