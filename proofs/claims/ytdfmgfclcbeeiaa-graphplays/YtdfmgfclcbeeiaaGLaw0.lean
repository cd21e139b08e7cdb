/-
  Scripts that came in; New of any row; where a law stands.
-/
import Derived.Test.YtdfmgfclcbeeiaaGDo
import Derived.OpenShut
import Derived.Deep.Slices
import Derived.ChangeSame
import Derived.Deep.Strs
import Derived.Lib.SmallJoins
namespace Go.Proofs.Ytdfmgfclcbeeiaa
open Go.RowKit Go.Maps Go.Sort Go.ChangeShapes Go.WideShapes Go.Deep Go.Joins
set_option linter.unusedSimpArgs false
set_option linter.unusedVariables false

/-- a call: what, and its two numbers -/
abbrev OpG := Int × Int × Int
/-- a slice that reads as a script -/
def OpsAt (w : World) (A : Option Addr) (os : List OpG) : Prop :=
  ∀ j (hj : j < os.length), ∃ ad, A = some ad ∧ ad.block < w.heap.size ∧ w.cell? (ad.add (j * 3)) = some (.int .u8 (os[j]'hj).1) ∧
    w.cell? ⟨(ad.add (j * 3)).block, (ad.add (j * 3)).off + 1, none⟩ = some (.int .u64 (os[j]'hj).2.1) ∧
    w.cell? ⟨(ad.add (j * 3)).block, (ad.add (j * 3)).off + 2, none⟩ = some (.int .u64 (os[j]'hj).2.2)
theorem OpsAt.below {w w' : World} {A : Option Addr} {os : List OpG} (h : OpsAt w A os) (hb : Below w.heap.size w w') : OpsAt w' A os := fun j hj => by
  obtain ⟨ad, e, lt, h0, h1, h2⟩ := h j hj
  have hbk : w'.heap[(ad.add (j * 3)).block]? = w.heap[(ad.add (j * 3)).block]? := by rw [block_add]; exact hb.block _ lt
  exact ⟨ad, e, Nat.lt_of_lt_of_le lt hb.size, (World.cell?_of_block hbk).trans h0, (World.cell?_of_block (a := ⟨(ad.add (j * 3)).block, (ad.add (j * 3)).off + 1, none⟩) hbk).trans h1, (World.cell?_of_block (a := ⟨(ad.add (j * 3)).block, (ad.add (j * 3)).off + 2, none⟩) hbk).trans h2⟩

theorem cells34 : Try.prog.cellsOf 34 = 3 := by kernel_rfl
theorem cells5 : Try.prog.cellsOf 5 = 1 := by kernel_rfl
theorem cells31 : Try.prog.cellsOf 31 = 1 := by kernel_rfl
theorem u64_of {n : Int} (h : (Lit.int .u64 n).wf = true) : U64 n := by
  have hx : 0 ≤ n ∧ n ≤ 18446744073709551615 := by simpa [Lit.wf, IntKind.min, IntKind.max, IntKind.signed, IntKind.bits] using h
  unfold U64; omega
theorem u8_of {n : Int} (h : (Lit.int .u8 n).wf = true) : 0 ≤ n ∧ n < 256 := by
  have hx : 0 ≤ n ∧ n ≤ 255 := by simpa [Lit.wf, IntKind.min, IntKind.max, IntKind.signed, IntKind.bits] using h
  omega
theorem lt_of_cell {w : World} {a : Addr} {v : Value} (h : w.cell? a = some v) : a.block < w.heap.size := by
  unfold World.cell? at h
  rcases Nat.lt_or_ge a.block w.heap.size with h1 | h1
  · exact h1
  · rw [Array.getElem?_eq_none h1] at h; simp at h

theorem op_open {H : Type} {enc : TypeId × Value → H} {w : World} {fuel : Nat} {cs : List Value} {x : DataW H × List MemPlace} (h : DataW.trod enc Try.prog w 0 (fun _ => true) true fuel 34 cs = some x) :
    ∃ d s q, cs = [.int .u8 d, .int .u64 s, .int .u64 q] ∧ (0 ≤ d ∧ d < 256) ∧ U64 s ∧ U64 q := by
  obtain ⟨y0, y1, y2, n, _, hl, h0, h1, h2⟩ := trod_struct3 Try.underlying34 h
  rw [cells34] at hl
  match cs, hl with
  | [c0, c1, c2], _ =>
    simp only [cells5, cells31, List.drop_zero, List.drop_succ_cons, List.take_succ_cons, List.take_zero] at h0 h1 h2
    obtain ⟨d, hd, _, hwd⟩ := DataW.trod_int Try.underlying5 h0
    obtain ⟨s, hs, _, hws⟩ := DataW.trod_int Try.underlying31 h1
    obtain ⟨q, hq, _, hwq⟩ := DataW.trod_int Try.underlying31 h2
    injection hd with hd
    injection hs with hs
    injection hq with hq
    subst hd hs hq
    exact ⟨d, s, q, rfl, u8_of hwd, u64_of hws, u64_of hwq⟩

/-- what a script that came in is -/
def OpsWf (os : List OpG) : Prop := ∀ o ∈ os, (0 ≤ o.1 ∧ o.1 < 256) ∧ U64 o.2.1 ∧ U64 o.2.2

theorem ops_open {H : Type} {enc : TypeId × Value → H} {w : World} {v : Value} {d : DataW H} {p : List MemPlace} {base : Nat} (o : Value.okWide Try.prog w .any base 23 v) (h : DataW.Trod enc Try.prog w 0 (fun _ => true) true 23 v d p) :
    ∃ A os c, v = .slice A os.length c ∧ OpsAt w A os ∧ os.length ≤ 9223372036854775807 ∧ OpsWf os := by
  obtain ⟨fuel, hf⟩ := h
  obtain ⟨A, len, cap, rfl⟩ := okWide_slice Try.underlying23 o
  rcases open_slice Try.underlying23 hf with ⟨hcs, _⟩ | ⟨a, l, c, m, n, D, Pl, hcs, _, hl, hm, hmm, _, hi⟩
  · simp [Value.cells] at hcs
    obtain ⟨rfl, rfl, rfl⟩ := hcs
    exact ⟨none, [], 0, rfl, fun j hj => by simp at hj, by simp, fun o ho => by cases ho⟩
  · simp [Value.cells] at hcs
    obtain ⟨rfl, rfl, rfl⟩ := hcs
    have hex : ∀ i, ∃ q : OpG, i < len → w.cell? (a.add (i * 3)) = some (.int .u8 q.1) ∧ w.cell? ⟨(a.add (i * 3)).block, (a.add (i * 3)).off + 1, none⟩ = some (.int .u64 q.2.1) ∧ w.cell? ⟨(a.add (i * 3)).block, (a.add (i * 3)).off + 2, none⟩ = some (.int .u64 q.2.2) ∧ ((0 ≤ q.1 ∧ q.1 < 256) ∧ U64 q.2.1 ∧ U64 q.2.2) := fun i => by
      by_cases hil : i < len
      · obtain ⟨cs', hc, ht⟩ := hi i (by rw [hmm]; simp; omega)
        rw [cells34] at hc
        obtain ⟨dd, s, q, rfl, b0, b1, b2⟩ := op_open ht
        obtain ⟨_, _, hat⟩ := World.cells?_some hc
        exact ⟨(dd, s, q), fun _ => ⟨hat 0 (by decide), hat 1 (by decide), hat 2 (by decide), b0, b1, b2⟩⟩
      · exact ⟨(0, 0, 0), fun h => absurd h hil⟩
    obtain ⟨f, hf2⟩ := Classical.axiomOfChoice hex
    have hlen : ((List.range len).map fun i => f i).length = len := by simp
    refine ⟨some a, (List.range len).map fun i => f i, cap, by rw [hlen], fun j hj => ?_, by rw [hlen]; unfold maxLen at hm; omega, fun o ho => ?_⟩
    · rw [hlen] at hj
      obtain ⟨c0, c1, c2, _⟩ := hf2 j hj
      have hb := lt_of_cell c0
      rw [block_add] at hb
      simp only [List.getElem_map, List.getElem_range]
      exact ⟨a, rfl, hb, c0, c1, c2⟩
    · obtain ⟨i, hi, rfl⟩ := List.mem_map.1 ho
      exact (hf2 i (List.mem_range.1 hi)).2.2.2

/-- where a law stands: both graphs, behind L changes at most -/
structure TwoS (w0 : World) (B b mb x L : Nat) (N : List Int) (E : List Edg) (wr : World) : Prop where
  g : GS wr B b mb N (fE E) (2 * L)
  r : RS wr B x N E
  good : GoodE N E
  rise : N.Pairwise (fun x y => x < y)
  u64 : ∀ z ∈ N, U64 z
  nl : N.length ≤ L
  el : E.length ≤ L
  low : w0.heap.size ≤ B
  lo2 : B ≤ wr.heap.size
  below : Below w0.heap.size w0 wr
theorem TwoS.doo {w0 wr : World} {B b mb x L : Nat} {N : List Int} {E : List Edg} (h : TwoS w0 B b mb x L N E wr) (hL : L ≤ 800) {o : OpG} (ho : (0 ≤ o.1 ∧ o.1 < 256) ∧ U64 o.2.1 ∧ U64 o.2.2) {W : World} (hW : Below wr.heap.size wr W) :
    Calls Try.prog 12 #[.pointer (some ⟨b, 0, none⟩), .pointer (some ⟨x, 0, none⟩), .agg #[.int .u8 o.1, .int .u64 o.2.1, .int .u64 o.2.2]] W fun e w' => e = .returned (.bool true) ∧ (∃ N' E', TwoS w0 B b mb x (L + 1) N' E' w') ∧ TK B W w' := by
  have hz := hW.size
  have hz2 := h.lo2
  have hz3 := h.nl
  have hz4 := h.el
  refine (do_any (h.g.below hW) (h.r.below hW) h.good h.rise (Nat.le_trans h.lo2 hW.size) (by omega) (by omega) (by omega) ho.2.1 ho.2.2 h.u64 ho.1.1 ho.1.2).mono ?_
  rintro e w' ⟨rfl, N', E', k1, k2, k3, k4, k5, k6, k7, k8⟩
  exact ⟨rfl, ⟨N', E', k1.more (by omega), k2, k3, k4, k7, by omega, by omega, h.low, by have := k8.below.size; omega, (h.below.trans (hW.mono h.below.size)).trans (k8.below.mono h.low)⟩, k8⟩
theorem TwoS.more {w0 wr : World} {B b mb x L L' : Nat} {N : List Int} {E : List Edg} (h : TwoS w0 B b mb x L N E wr) (hL : L ≤ L') : TwoS w0 B b mb x L' N E wr :=
  ⟨h.g.more (by omega), h.r, h.good, h.rise, h.u64, Nat.le_trans h.nl hL, Nat.le_trans h.el hL, h.low, h.lo2, h.below⟩
theorem TwoS.go {w0 wr W : World} {B b mb x L : Nat} {N : List Int} {E : List Edg} (h : TwoS w0 B b mb x L N E wr) (hW : Below wr.heap.size wr W) : TwoS w0 B b mb x L N E W :=
  ⟨h.g.below hW, h.r.below hW, h.good, h.rise, h.u64, h.nl, h.el, h.low, Nat.le_trans h.lo2 hW.size, h.below.trans (hW.mono h.below.size)⟩

/-- what a law asks of a graph -/
theorem GS.near {w : World} {B b mb L : Nat} {N : List Int} {f : Int → Int → Int} (h : GS w B b mb N f L) (hL : L ≤ 100000) {y : Int} (hy : U64 y) : Calls Try.prog 14 #[.pointer (some ⟨b, 0, none⟩), .int .u64 y] w (GivesK w fun z => f y z ≠ 0) := by
  obtain ⟨n, D, nb, h1, h2, h3⟩ := h
  exact near_any h1 hy (by omega)
theorem GS.soft {w : World} {B b mb L : Nat} {N : List Int} {f : Int → Int → Int} (h : GS w B b mb N f L) (hL : L ≤ 100000) {y : Int} (hy : U64 y) : Calls Try.prog 16 #[.pointer (some ⟨b, 0, none⟩), .int .u64 y] w (GivesK w fun z => f y z = 1) := by
  obtain ⟨n, D, nb, h1, h2, h3⟩ := h
  exact soft_any h1 hy (by omega)
theorem GS.keys {w : World} {B b mb L : Nat} {N : List Int} {f : Int → Int → Int} (h : GS w B b mb N f L) (hL : L ≤ 100000) : Calls Try.prog 21 #[.pointer (some ⟨b, 0, none⟩)] w (GivesK w fun z => z ∈ N) := by
  obtain ⟨n, D, nb, h1, h2, h3⟩ := h
  refine (keys_any h1 (by omega)).mono ?_
  rintro e w' ⟨v, xs, k1, k2, k3, k4, k5, k6⟩
  exact ⟨v, xs, k1, k2, k3, k4, k5, fun y => (k6 y).trans (h3 y)⟩
theorem GS.reach {w : World} {B b mb L : Nat} {N : List Int} {f : Int → Int → Int} (h : GS w B b mb N f L) (hL : L ≤ 100000) (hN : N.length ≤ 100000) (hf : ∀ a c, f a c ≠ 0 → c ∈ N) {y : Int} (hy : U64 y) : Calls Try.prog 17 #[.pointer (some ⟨b, 0, none⟩), .int .u64 y] w (GivesK w fun z => y ∈ N ∧ Way (fun a c => f a c ≠ 0) y z) := by
  obtain ⟨n, D, nb, h1, h2, h3⟩ := h
  refine (reach_any h1 hy (by omega) (ns := N) (fun z => (h3 z).symm) (fun a c hh => (h3 c).2 (hf a c hh)) (by omega)).mono ?_
  rintro e w' ⟨v, xs, k1, k2, k3, k4, k5, k6⟩
  exact ⟨v, xs, k1, k2, k3, k4, k5, fun z => (k6 z).trans (by rw [h3 y])⟩
theorem GS.len {w : World} {B b mb L : Nat} {N : List Int} {f : Int → Int → Int} (h : GS w B b mb N f L) (hN : N.Nodup) : Calls Try.prog 22 #[.pointer (some ⟨b, 0, none⟩)] w fun e w' => e = .returned (.int .i64 N.length) ∧ w' = w := by
  obtain ⟨n, D, nb, h1, h2, h3⟩ := h
  obtain ⟨ss, k1, k2, k3⟩ := h1.keys
  have e : ss.length = N.length := by
    have a1 := nodup_le ss N k1 fun y hy => (h3 y).1 ((k2 y).1 hy)
    have a2 := nodup_le N ss hN fun y hy => (k2 y).2 ((h3 y).2 hy)
    omega
  rw [← e, ← k3]
  exact len_any9 h1

set_option maxRecDepth 100000 in
set_option maxHeartbeats 1000000 in
/-- New of no row -/
theorem new_nil (w : World) : Calls Try.prog 10 #[.slice none 0 0] w fun e w' => e = .returned (.pointer (some ⟨w.heap.size + 1, 0, none⟩)) ∧ GS w' w.heap.size (w.heap.size + 1) w.heap.size [] (fE []) 0 ∧ Below w.heap.size w w' := by
  have hmm : (Instr.makeMap 55 (some (.int .i64 0))).run Try.prog w = .ok (.map (some w.heap.size)) (w.alloc (.map #[] 0)) := makeHint 0 (by omega) w
  have HG : Hid (GS ((w.alloc (.map #[] 0)).alloc (.cells #[.map (some w.heap.size)] 57)) w.heap.size (w.heap.size + 1) w.heap.size [] (fE []) 0) := ⟨0, _, _, Gr.empty w, Nat.le_refl _, fun z => by simp⟩
  have HB : Hid (Below w.heap.size w ((w.alloc (.map #[] 0)).alloc (.cells #[.map (some w.heap.size)] 57))) := ((Below.refl _ w).alloc (Nat.le_refl _) _).alloc (by simp) _
  go_enter Try.func10, Try.ntmps10
  go_wp2_with fail
  go_loopw [13, 5] (fun s13 _ wr => s13 = .int .i64 0 ∧ wr = ((w.alloc (.map #[] 0)).alloc (.cells #[.map (some w.heap.size)] 57))) (fun _ _ _ => 0)
  case atStart => exact ⟨rfl, rfl⟩
  case round =>
    obtain ⟨rfl, rfl⟩ := hrel
    go_wp2_with fail
    go_ret
    exact ⟨rfl, HG.out, HB.out⟩

theorem rg_new (w : World) (B : Nat) (hB : B ≤ w.heap.size) : RS (w.alloc (.cells #[.slice none 0 0, .slice none 0 0] 30)) B w.heap.size [] [] :=
  ⟨_, _, heap_alloc_new w _, ⟨rfl, .inl ⟨rfl, rfl⟩⟩, ⟨rfl, .inl ⟨rfl, rfl⟩⟩, hB⟩
/-- a law's beginning: both graphs are empty -/
theorem TwoS.start {w0 w1 w2 : World} {b mb : Nat} (hb1 : Below w0.heap.size w0 w1) (hg : GS w2 w1.heap.size b mb [] (fE []) 0) (hb2 : Below w1.heap.size w1 w2) : TwoS w0 w1.heap.size b mb w2.heap.size 0 [] [] (w2.alloc (.cells #[.slice none 0 0, .slice none 0 0] 30)) where
  g := hg.below ((Below.refl _ _).alloc (Nat.le_refl _) _)
  r := rg_new w2 _ hb2.size
  good := ⟨by simp, by simp, by simp⟩
  rise := by simp
  u64 := by simp
  nl := by simp
  el := by simp
  low := hb1.size
  lo2 := by have := hb2.size; simp; omega
  below := (hb1.trans (hb2.mono hb1.size)).alloc (by have := hb1.size; have := hb2.size; omega) _

end Go.Proofs.Ytdfmgfclcbeeiaa
