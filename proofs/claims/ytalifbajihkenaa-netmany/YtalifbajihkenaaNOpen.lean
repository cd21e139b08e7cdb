/-
  Letters and bytes that came in; a net beside a row of bytes.
-/
import Derived.Test.YtalifbajihkenaaNAwake
import Derived.OpenShut
import Derived.Deep.Slices
import Derived.ChangeSame
import Derived.ChangeSlices
import Derived.Deep.Strs
import Derived.Lib.SmallJoins
namespace Go.Proofs.Ytalifbajihkenaa
open Go.RowKit Go.Maps Go.ChangeShapes Go.WideShapes Go.Deep Go.Joins
set_option linter.unusedSimpArgs false
set_option linter.unusedVariables false

theorem u8_of {n : Int} (h : (Lit.int .u8 n).wf = true) : 0 ≤ n ∧ n < 256 := by
  have hx : 0 ≤ n ∧ n ≤ 255 := by simpa [Lit.wf, IntKind.min, IntKind.max, IntKind.signed, IntKind.bits] using h
  omega
theorem i64_of {n : Int} (h : (Lit.int .i64 n).wf = true) : I64 n := by
  unfold I64
  simpa [Lit.wf, IntKind.min, IntKind.max, IntKind.signed, IntKind.bits] using h
theorem lt_of_cell {w : World} {a : Addr} {v : Value} (h : w.cell? a = some v) : a.block < w.heap.size := by
  unfold World.cell? at h
  rcases Nat.lt_or_ge a.block w.heap.size with h1 | h1
  · exact h1
  · rw [Array.getElem?_eq_none h1] at h; simp at h
def Bytes8 (l : List Int) : Prop := ∀ x ∈ l, 0 ≤ x ∧ x < 256
theorem cells5 : Try.prog.cellsOf 5 = 1 := by kernel_rfl
theorem cells35 : Try.prog.cellsOf 35 = 1 := by kernel_rfl
theorem cells40 : Try.prog.cellsOf 40 = 3 := by kernel_rfl
theorem bs_at {l : List Int} {j : Nat} (h : j < l.length) : (bs l)[j]? = some (.int .u8 (l[j]'h)) := by simp [bs, h]
theorem bytes_of {H : Type} {enc : TypeId × Value → H} {w : World} {fuel : Nat} {v : Value} {x : DataW H × List MemPlace} (h : DataW.trod enc Try.prog w 0 (fun _ => true) true fuel 35 [v] = some x) :
    ∃ X l c, v = .slice X l.length c ∧ l.length ≤ c ∧ l.length ≤ 9223372036854775807 ∧ Row w X (bs l) ∧ Bytes8 l ∧ ∀ a, X = some a → 0 < l.length → a.block < w.heap.size := by
  rcases open_ints Try.underlying35 Try.underlying5 (by kernel_rfl) h with ⟨hcs, _⟩ | ⟨a, l, c, zs, hcs, _, hl, hm, hz, _, hcell, hwz⟩
  · injection hcs with hcs
    subst hcs
    exact ⟨none, [], 0, rfl, Nat.le_refl _, by simp, Row.nil, fun x hx => by simp at hx, fun a e => by cases e⟩
  · injection hcs with hcs
    subst hcs
    have hz' : zs.length = c := by simpa using hz
    have hlen : (zs.take l).length = l := by rw [List.length_take]; omega
    have hrow : Row w (some a) (bs (zs.take l)) := fun j hj => by
      rw [bs_len, hlen] at hj
      have hc := hcell j (by omega)
      have hb := lt_of_cell hc
      rw [block_add] at hb
      refine ⟨a, rfl, hb, ?_⟩
      rw [bs_at (by rw [hlen]; exact hj), hc]
      have hjz : j < zs.length := by omega
      simp [List.getD, hjz]
    refine ⟨some a, zs.take l, c, by rw [hlen], by rw [hlen]; exact hl, by rw [hlen]; unfold maxLen at hm; omega, hrow, fun x hx => u8_of (hwz x (List.mem_of_mem_take hx)), fun a' e h0 => ?_⟩
    injection e with e
    subst e
    obtain ⟨ad, e, hb, _⟩ := hrow 0 (by rw [bs_len]; exact h0)
    injection e with e
    subst e
    exact hb
theorem bytes_open {H : Type} {enc : TypeId × Value → H} {w : World} {v : Value} {d : DataW H} {p : List MemPlace} {base : Nat} (o : Value.okWide Try.prog w .any base 35 v) (h : DataW.Trod enc Try.prog w 0 (fun _ => true) true 35 v d p) :
    ∃ (A : Option Addr) (l : List Int) (c : Nat), v = .slice A l.length c ∧ l.length ≤ c ∧ Row w A (bs l) ∧ l.length ≤ 9223372036854775807 ∧ Bytes8 l := by
  obtain ⟨fuel, hf⟩ := h
  obtain ⟨A, len, cap, rfl⟩ := okWide_slice Try.underlying35 o
  obtain ⟨X, l, c, hv, h1, h2, h3, h4, _⟩ := bytes_of hf
  exact ⟨X, l, c, hv, h1, h3, h2, h4⟩

/-- letters that came in -/
def LetIn (w : World) (A : Option Addr) (ls : List L3) : Prop :=
  ∀ j (hj : j < ls.length), ∃ ad, A = some ad ∧ ad.block < w.heap.size ∧ w.cell? (ad.add (j * 3)) = some (.int .i64 (ls[j]'hj).1) ∧ w.cell? ⟨(ad.add (j * 3)).block, (ad.add (j * 3)).off + 1, none⟩ = some (.int .i64 (ls[j]'hj).2.1) ∧
    ∃ (Y : Option Addr) (cy : Nat), w.cell? ⟨(ad.add (j * 3)).block, (ad.add (j * 3)).off + 2, none⟩ = some (.slice Y (ls[j]'hj).2.2.length cy) ∧ (ls[j]'hj).2.2.length ≤ cy ∧ Row w Y (bs (ls[j]'hj).2.2)
theorem LetIn.below {w w' : World} {A : Option Addr} {ls : List L3} (h : LetIn w A ls) (hb : Below w.heap.size w w') : LetIn w' A ls := fun j hj => by
  obtain ⟨ad, e, lt, c0, c1, Y, cy, c2, h3, h4⟩ := h j hj
  have hbk : w'.heap[(ad.add (j * 3)).block]? = w.heap[(ad.add (j * 3)).block]? := by rw [block_add]; exact hb.block _ lt
  exact ⟨ad, e, Nat.lt_of_lt_of_le lt hb.size, (World.cell?_of_block hbk).trans c0, (World.cell?_of_block (a := ⟨(ad.add (j * 3)).block, (ad.add (j * 3)).off + 1, none⟩) hbk).trans c1, Y, cy,
    (World.cell?_of_block (a := ⟨(ad.add (j * 3)).block, (ad.add (j * 3)).off + 2, none⟩) hbk).trans c2, h3, h4.below hb⟩
/-- what letters that came in are -/
def LetOk (ls : List L3) : Prop := ∀ l ∈ ls, I64 l.1 ∧ I64 l.2.1 ∧ l.2.2.length ≤ 9223372036854775807 ∧ Bytes8 l.2.2

theorem let_of {H : Type} {enc : TypeId × Value → H} {w : World} {fuel : Nat} {cs : List Value} {x : DataW H × List MemPlace} (h : DataW.trod enc Try.prog w 0 (fun _ => true) true fuel 40 cs = some x) :
    ∃ (f t : Int) (p : List Int) (Y : Option Addr) (cy : Nat), cs = [.int .i64 f, .int .i64 t, .slice Y p.length cy] ∧ I64 f ∧ I64 t ∧ p.length ≤ cy ∧ p.length ≤ 9223372036854775807 ∧ Row w Y (bs p) ∧ Bytes8 p := by
  obtain ⟨y0, y1, y2, n, _, hl, h0, h1, h2⟩ := trod_struct3 Try.underlying40 h
  rw [cells40] at hl
  match cs, hl with
  | [c0, c1, c2], _ =>
    simp only [cells3, cells35, List.drop_zero, List.drop_succ_cons, List.take_succ_cons, List.take_zero] at h0 h1 h2
    obtain ⟨f, hf, _, hwf⟩ := DataW.trod_int Try.underlying3 h0
    obtain ⟨t, ht, _, hwt⟩ := DataW.trod_int Try.underlying3 h1
    obtain ⟨Y, p, cy, rfl, a1, a2, a3, a4, _⟩ := bytes_of h2
    injection hf with hf
    injection ht with ht
    subst hf ht
    exact ⟨f, t, p, Y, cy, rfl, i64_of hwf, i64_of hwt, a1, a2, a3, a4⟩

theorem lets_open {H : Type} {enc : TypeId × Value → H} {w : World} {v : Value} {d : DataW H} {p : List MemPlace} {base : Nat} (o : Value.okWide Try.prog w .any base 29 v) (h : DataW.Trod enc Try.prog w 0 (fun _ => true) true 29 v d p) :
    ∃ A ls c, v = .slice A ls.length c ∧ LetIn w A ls ∧ ls.length ≤ 9223372036854775807 ∧ LetOk ls := by
  obtain ⟨fuel, hf⟩ := h
  obtain ⟨A, len, cap, rfl⟩ := okWide_slice Try.underlying29 o
  rcases open_slice Try.underlying29 hf with ⟨hcs, _⟩ | ⟨a, l, c, m, n, D, Pl, hcs, _, hl, hm, hmm, _, hi⟩
  · simp [Value.cells] at hcs
    obtain ⟨rfl, rfl, rfl⟩ := hcs
    exact ⟨none, [], 0, rfl, fun j hj => by simp at hj, by simp, fun o ho => by cases ho⟩
  · simp [Value.cells] at hcs
    obtain ⟨rfl, rfl, rfl⟩ := hcs
    have hex : ∀ i, ∃ q : L3, i < len → w.cell? (a.add (i * 3)) = some (.int .i64 q.1) ∧ w.cell? ⟨(a.add (i * 3)).block, (a.add (i * 3)).off + 1, none⟩ = some (.int .i64 q.2.1) ∧ (∃ (Y : Option Addr) (cy : Nat), w.cell? ⟨(a.add (i * 3)).block, (a.add (i * 3)).off + 2, none⟩ = some (.slice Y q.2.2.length cy) ∧ q.2.2.length ≤ cy ∧ Row w Y (bs q.2.2)) ∧ (I64 q.1 ∧ I64 q.2.1 ∧ q.2.2.length ≤ 9223372036854775807 ∧ Bytes8 q.2.2) := fun i => by
      by_cases hil : i < len
      · obtain ⟨cs', hc, ht⟩ := hi i (by rw [hmm]; simp; omega)
        rw [cells40] at hc
        obtain ⟨f, t, p, Y, cy, rfl, b0, b1, b2, b3, b4, b5⟩ := let_of ht
        obtain ⟨_, _, hat⟩ := World.cells?_some hc
        exact ⟨(f, t, p), fun _ => ⟨hat 0 (by decide), hat 1 (by decide), ⟨Y, cy, hat 2 (by decide), b2, b4⟩, b0, b1, b3, b5⟩⟩
      · exact ⟨(0, 0, []), fun h => absurd h hil⟩
    obtain ⟨f, hf2⟩ := Classical.axiomOfChoice hex
    have hlen : ((List.range len).map fun i => f i).length = len := by simp
    refine ⟨some a, (List.range len).map fun i => f i, cap, by rw [hlen], fun j hj => ?_, by rw [hlen]; unfold maxLen at hm; omega, fun o ho => ?_⟩
    · rw [hlen] at hj
      obtain ⟨k0, k1, k2, _⟩ := hf2 j hj
      have hb := lt_of_cell k0
      rw [block_add] at hb
      simp only [List.getElem_map, List.getElem_range]
      exact ⟨a, rfl, hb, k0, k1, k2⟩
    · obtain ⟨i, hi, rfl⟩ := List.mem_map.1 ho
      exact (hf2 i (List.mem_range.1 hi)).2.2.2

/-- no body in cells lies in a block of X's -/
def NoB (X : Nat → Prop) (cs : List Value) : Prop := ∀ a n c, Value.slice (some a) n c ∈ cs → ¬ X a.block
/-- none of a net's bodies lies in a block of X's -/
def Off (X : Nat → Prop) (w : World) (v : Value) (ls : List L3) : Prop := ∀ A c, v = .slice A ls.length c → Lts X w A ls

section
variable {w w' : World} {B b mb n : Nat} {nodes x y i : Int} {v : Value} {ls : List L3} {sp : Int → Int → Bool}
theorem Off.of_own (h : Nt w B b mb n nodes v ls sp) {cs : List Value} (ho : w.ownsRow B 37 3 v ls.length cs) {X : Nat → Prop} (hx : NoB X cs) : Off X w v ls := fun A c e => by
  obtain ⟨A', c', e', _, _, h3⟩ := h.form
  rw [e] at e'
  injection e' with e1 _ _
  subst e1
  intro j hj
  obtain ⟨ad, ea, lt, c0, c1, Y, cy, c2, k1, k2, k3⟩ := h3 j hj
  refine ⟨ad, ea, lt, c0, c1, Y, cy, c2, k1, k2, fun a eY => ⟨?_, (k3 a eY).2⟩⟩
  subst eY
  refine hx a (ls[j]'hj).2.2.length cy ?_
  have hl : cs.length = ls.length * 3 := ho.1
  have hg : v.ownBlock = some ad.block := by rw [e, ea]; rfl
  have hjl : j * 3 + 2 < cs.length := by omega
  have := ho.cells hg (j * 3 + 2) (cs[j * 3 + 2]'hjl) (by simp [hjl])
  rcases ho.2 with ⟨e0, _⟩ | ⟨g, cap, cur, e0, _⟩
  · rw [e0] at e; rw [ea] at e; cases e
  · rw [e0] at e
    injection e with e _ _
    rw [ea] at e
    injection e with e
    rw [← e] at c2 this
    rw [lit_add, Nat.zero_add] at c2 this
    rw [this] at c2
    injection c2 with c2
    rw [← c2]
    exact List.getElem_mem hjl
/-- blocks that are none of the net's change, and none in which a body lies -/
theorem Nt.away (h : Nt w B b mb n nodes v ls sp) {X : Nat → Prop} (hT : Off X w v ls) (hq : ∀ q, X q → ¬ NB b mb v q) (hs : w.heap.size ≤ w'.heap.size) (hk : ∀ g, g < w.heap.size → ¬ X g → w'.heap[g]? = w.heap[g]?) : Nt w' B b mb n nodes v ls sp where
  blk := (hk b (lt_of_block h.blk) fun e => hq _ e (.inl rfl)).trans h.blk
  map := h.map.kept (hk mb h.map.lt fun e => hq _ e (.inr (.inl rfl)))
  form := by
    obtain ⟨A, c, e, h1, h2, h3⟩ := h.form
    refine ⟨A, c, e, h1, h2, ((h3.both (hT A c e)).kept hs (fun ad ea => ?_) fun g hg hx => hk g hg fun e => hx (.inr e)).mono fun g hg => .inl hg⟩
    obtain ⟨cur, hc⟩ := h.row ad.block (by rw [e, ea]; rfl)
    exact hk _ (lt_of_block hc) fun e' => hq _ e' (.inr (.inr (by rw [e, ea]; rfl)))
  row g hg := by
    obtain ⟨cur, hc⟩ := h.row g hg
    exact ⟨cur, (hk g (lt_of_block hc) fun e => hq _ e (.inr (.inr hg))).trans hc⟩
  low := h.low
  ok := h.ok
/-- a block of bytes is none of the net's -/
theorem Nt.not5 (h : Nt w B b mb n nodes v ls sp) {g : Nat} {cur : Array Value} {fr : Nat × Nat} (hc : w.heap[g]? = some (.cells cur 5 fr)) : ¬ NB b mb v g := fun e => by
  rcases e with e | e | e
  · rw [e, h.blk] at hc
    injection hc with hc
    injection hc with _ hc
    cases hc
  · obtain ⟨es, cl, hm⟩ := h.map.isMap
    rw [e, hm] at hc
    cases hc
  · obtain ⟨cur', hc'⟩ := h.row g e
    rw [hc'] at hc
    injection hc with hc
    injection hc with _ hc
    cases hc
theorem Nt.low_lt (h : Nt w B b mb n nodes v ls sp) : v.ownBlock ≠ some b ∧ ∀ g, v.ownBlock = some g → g < w.heap.size := ⟨h.apart.1, fun g e => by obtain ⟨cur, hc⟩ := h.row g e; exact lt_of_block hc⟩
/-- what was filled in a row of bytes stays beside a call of the net's -/
theorem own5_did (h : Nt w B b mb n nodes v ls sp) {B0 k : Nat} {u : Value} {xs : List Value} (ho : w.ownsRow B0 5 1 u k xs) (hd : Did B b mb v w w') : w'.ownsRow B0 5 1 u k xs := by
  refine ⟨ho.1, ?_⟩
  rcases ho.2 with e | ⟨g, cap, cur, e, hb, hh, r⟩
  · exact .inl e
  · exact .inr ⟨g, cap, cur, e, hb, (hd.same g (lt_of_block hh) (h.not5 hh)).trans hh, r⟩
end

end Go.Proofs.Ytalifbajihkenaa
