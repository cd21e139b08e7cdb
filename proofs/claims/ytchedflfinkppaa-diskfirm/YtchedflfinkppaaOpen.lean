/-
  Scripts that came in, as the contracts take them.
-/
import Derived.Test.YtchedflfinkppaaFew
import Derived.Deep.Slices
import Derived.ChangeSame
import Derived.SliceStrings
import Derived.OpenShut
namespace Go.Proofs.Ytchedflfinkppaa
open Go.RowKit Go.ChangeShapes Go.WideShapes Go.Deep

theorem bytes_open {H : Type} {enc : TypeId × Value → H} {w : World} {fuel : Nat} {v : Value} {x : DataW H × List MemPlace} (h : DataW.trod enc Try.prog w 0 (fun _ => true) true fuel 41 [v] = some x) :
    ∃ X l c, v = .slice X l.length c ∧ l.length ≤ c ∧ l.length ≤ 9223372036854775807 ∧ Row (fun g => g < w.heap.size) w X (u8s l) ∧ Bytes8 l := by
  rcases open_ints Try.underlying41 Try.underlying5 (by kernel_rfl) h with ⟨hcs, _⟩ | ⟨a, l, c, zs, hcs, _, hl, hm, hz, _, hcell, hwz⟩
  · injection hcs with hcs
    subst hcs
    exact ⟨none, [], 0, rfl, Nat.le_refl _, by simp, Row.nil, fun x hx => by simp at hx⟩
  · injection hcs with hcs
    subst hcs
    obtain ⟨l', h1, h2, h3, h4, h5⟩ := row_of (k := .u8) (w := w) (a := some a) (len := l) (cap := c) (zs := zs) (.inr ⟨a, rfl, hl, hm, by simpa using hz, hcell, hwz⟩)
    subst h1
    exact ⟨some a, l', c, rfl, h4, h5, h2, fun x hx => u8_of (h3 x hx)⟩
theorem nums_open {H : Type} {enc : TypeId × Value → H} {w : World} {fuel : Nat} {v : Value} {x : DataW H × List MemPlace} (h : DataW.trod enc Try.prog w 0 (fun _ => true) true fuel 32 [v] = some x) :
    ∃ X l c, v = .slice X l.length c ∧ l.length ≤ c ∧ l.length ≤ 9223372036854775807 ∧ Row (fun g => g < w.heap.size) w X (i64s l) ∧ ∀ y ∈ l, -9223372036854775808 ≤ y ∧ y ≤ 9223372036854775807 := by
  rcases open_ints Try.underlying32 Try.underlying3 (by kernel_rfl) h with ⟨hcs, _⟩ | ⟨a, l, c, zs, hcs, _, hl, hm, hz, _, hcell, hwz⟩
  · injection hcs with hcs
    subst hcs
    exact ⟨none, [], 0, rfl, Nat.le_refl _, by simp, Row.nil, fun x hx => by simp at hx⟩
  · injection hcs with hcs
    subst hcs
    obtain ⟨l', h1, h2, h3, h4, h5⟩ := row_of (k := .i64) (w := w) (a := some a) (len := l) (cap := c) (zs := zs) (.inr ⟨a, rfl, hl, hm, by simpa using hz, hcell, hwz⟩)
    subst h1
    exact ⟨some a, l', c, rfl, h4, h5, h2, fun x hx => i64_of (h3 x hx)⟩
theorem cells9 : Try.prog.cellsOf 9 = 1 := by kernel_rfl
theorem cells41 : Try.prog.cellsOf 41 = 1 := by kernel_rfl
theorem names_open {H : Type} {enc : TypeId × Value → H} {w : World} {fuel : Nat} {v : Value} {x : DataW H × List MemPlace} (h : DataW.trod enc Try.prog w 0 (fun _ => true) true fuel 30 [v] = some x) :
    ∃ X l c, v = .slice X l.length c ∧ l.length ≤ c ∧ l.length ≤ 9223372036854775807 ∧ Row (fun g => g < w.heap.size) w X (strs l) ∧ ∀ y ∈ l, y.size ≤ 9223372036854775807 := by
  rcases open_strings Try.underlying30 Try.underlying9 cells9 h with ⟨hcs, _⟩ | ⟨a, l, c, ss, hcs, _, hl, hm, hz, _, hcell, hwz⟩
  · injection hcs with hcs
    subst hcs
    exact ⟨none, [], 0, rfl, Nat.le_refl _, by simp, Row.nil, fun x hx => by simp at hx⟩
  · injection hcs with hcs
    subst hcs
    have hz' : ss.length = c := by simpa using hz
    have hm' : c ≤ 9223372036854775807 := by unfold maxLen at hm; omega
    have hlen : (ss.take l).length = l := by rw [List.length_take]; omega
    refine ⟨some a, ss.take l, c, by rw [hlen], by rw [hlen]; exact hl, by rw [hlen]; omega, fun j hj => ?_, fun y hy => ?_⟩
    · rw [strs_len, hlen] at hj
      have hc := hcell j (by omega)
      have hb := lt_of_cell hc
      rw [block_add] at hb
      refine ⟨a, rfl, hb, hb, ?_⟩
      rw [hc, strs_at (by rw [hlen]; exact hj)]
      have hjs : j < ss.length := by omega
      simp [hjs]
    · have := hwz y (List.mem_of_mem_take hy)
      unfold maxLen at this
      omega
theorem texts_open {H : Type} {enc : TypeId × Value → H} {w : World} {fuel : Nat} {v : Value} {x : DataW H × List MemPlace} (hf : DataW.trod enc Try.prog w 0 (fun _ => true) true fuel 31 [v] = some x) :
    ∃ A ts c, v = .slice A ts.length c ∧ ts.length ≤ c ∧ ts.length ≤ 9223372036854775807 ∧ TxtAt (fun g => g < w.heap.size) w A ts ∧ (∀ t ∈ ts, t.length ≤ 9223372036854775807) ∧ ∀ t ∈ ts, Bytes8 t := by
  rcases open_slice Try.underlying31 hf with ⟨hcs, _⟩ | ⟨a, len, cap, m, n, D, Pl, hcs, _, hl, hm, hmm, _, hi⟩
  · injection hcs with hcs
    subst hcs
    exact ⟨none, [], 0, rfl, Nat.le_refl _, by simp, fun j hj => by simp at hj, by simp, by simp⟩
  · injection hcs with hcs
    subst hcs
    have hex : ∀ i, ∃ q : List Int × (Option Addr × Nat), i < len → w.cell? (a.add i) = some (.slice q.2.1 q.1.length q.2.2) ∧ q.1.length ≤ q.2.2 ∧ q.1.length ≤ 9223372036854775807 ∧ Row (fun g => g < w.heap.size) w q.2.1 (u8s q.1) ∧ Bytes8 q.1 := fun i => by
      by_cases hil : i < len
      · obtain ⟨cs', hc, ht⟩ := hi i (by rw [hmm]; simp; omega)
        rw [cells41, Nat.mul_one] at hc
        obtain ⟨_, hlen, hat⟩ := World.cells?_some hc
        match cs', hlen with
        | [v], _ =>
          obtain ⟨X, l, c, rfl, b1, b2, b3, b4⟩ := bytes_open ht
          have e0 := hat 0 (by decide)
          exact ⟨(l, (X, c)), fun _ => ⟨e0, b1, b2, b3, b4⟩⟩
      · exact ⟨([], (none, 0)), fun h => absurd h hil⟩
    obtain ⟨f, hf2⟩ := Classical.axiomOfChoice hex
    have hlen : ((List.range len).map fun i => (f i).1).length = len := by simp
    refine ⟨some a, (List.range len).map fun i => (f i).1, cap, by rw [hlen], by rw [hlen]; exact hl, by rw [hlen]; unfold maxLen at hm; omega, fun j hj => ?_, fun o ho => ?_, fun o ho => ?_⟩
    · rw [hlen] at hj
      obtain ⟨c0, c1, c2, c3, _⟩ := hf2 j hj
      have hb := lt_of_cell c0
      rw [block_add] at hb
      simp only [List.getElem_map, List.getElem_range]
      exact ⟨a, _, _, rfl, hb, hb, c0, c1, c3⟩
    · obtain ⟨i, hi, rfl⟩ := List.mem_map.1 ho
      exact (hf2 i (List.mem_range.1 hi)).2.2.1
    · obtain ⟨i, hi, rfl⟩ := List.mem_map.1 ho
      exact (hf2 i (List.mem_range.1 hi)).2.2.2.2

theorem cells34 : Try.prog.cellsOf 34 = 7 := by kernel_rfl
theorem cells5 : Try.prog.cellsOf 5 = 1 := by kernel_rfl
theorem cells3 : Try.prog.cellsOf 3 = 1 := by kernel_rfl
theorem cells30 : Try.prog.cellsOf 30 = 1 := by kernel_rfl
theorem cells31 : Try.prog.cellsOf 31 = 1 := by kernel_rfl
theorem cells32 : Try.prog.cellsOf 32 = 1 := by kernel_rfl

set_option maxRecDepth 100000 in
theorem op_open {H : Type} {enc : TypeId × Value → H} {w : World} {fuel : Nat} {cs : List Value} {x : DataW H × List MemPlace} (h : DataW.trod enc Try.prog w 0 (fun _ => true) true fuel 34 cs = some x) :
    ∃ o A1 c1 A2 c2 A3 c3, cs = opV o A1 c1 A2 c2 A3 c3 ∧ OpAt (fun g => g < w.heap.size) w o A1 c1 A2 c2 A3 c3 ∧ OpOk o := by
  obtain ⟨xs, n, _, rfl, hl, hlen, hf⟩ := DataW.trod_struct Try.underlying34 h
  rw [cells34] at hl
  match cs, hl with
  | [c0, c1, c2, c3, c4, c5, c6], _ =>
    match xs, hlen with
    | [y0, y1, y2, y3, y4, y5, y6], _ =>
      have h0 : DataW.trod enc Try.prog w 0 (fun _ => true) true n 5 (([c0, c1, c2, c3, c4, c5, c6].drop 0).take (Try.prog.cellsOf 5)) = some y0 := hf 0 _ rfl
      have h1 : DataW.trod enc Try.prog w 0 (fun _ => true) true n 9 (([c0, c1, c2, c3, c4, c5, c6].drop 1).take (Try.prog.cellsOf 9)) = some y1 := hf 1 _ rfl
      have h2 : DataW.trod enc Try.prog w 0 (fun _ => true) true n 9 (([c0, c1, c2, c3, c4, c5, c6].drop 2).take (Try.prog.cellsOf 9)) = some y2 := hf 2 _ rfl
      have h3 : DataW.trod enc Try.prog w 0 (fun _ => true) true n 30 (([c0, c1, c2, c3, c4, c5, c6].drop 3).take (Try.prog.cellsOf 30)) = some y3 := hf 3 _ rfl
      have h4 : DataW.trod enc Try.prog w 0 (fun _ => true) true n 31 (([c0, c1, c2, c3, c4, c5, c6].drop 4).take (Try.prog.cellsOf 31)) = some y4 := hf 4 _ rfl
      have h5 : DataW.trod enc Try.prog w 0 (fun _ => true) true n 3 (([c0, c1, c2, c3, c4, c5, c6].drop 5).take (Try.prog.cellsOf 3)) = some y5 := hf 5 _ rfl
      have h6 : DataW.trod enc Try.prog w 0 (fun _ => true) true n 32 (([c0, c1, c2, c3, c4, c5, c6].drop 6).take (Try.prog.cellsOf 32)) = some y6 := hf 6 _ rfl
      rw [cells5] at h0
      rw [cells9] at h1
      rw [cells9] at h2
      rw [cells30] at h3
      rw [cells31] at h4
      rw [cells3] at h5
      rw [cells32] at h6
      replace h0 : DataW.trod enc Try.prog w 0 (fun _ => true) true n 5 [c0] = some y0 := h0
      replace h1 : DataW.trod enc Try.prog w 0 (fun _ => true) true n 9 [c1] = some y1 := h1
      replace h2 : DataW.trod enc Try.prog w 0 (fun _ => true) true n 9 [c2] = some y2 := h2
      replace h3 : DataW.trod enc Try.prog w 0 (fun _ => true) true n 30 [c3] = some y3 := h3
      replace h4 : DataW.trod enc Try.prog w 0 (fun _ => true) true n 31 [c4] = some y4 := h4
      replace h5 : DataW.trod enc Try.prog w 0 (fun _ => true) true n 3 [c5] = some y5 := h5
      replace h6 : DataW.trod enc Try.prog w 0 (fun _ => true) true n 32 [c6] = some y6 := h6
      obtain ⟨d, hd, _, hwd⟩ := DataW.trod_int Try.underlying5 h0
      obtain ⟨nm, hnm, _, hwn⟩ := DataW.trod_string Try.underlying9 h1
      obtain ⟨to, hto, _, hwt⟩ := DataW.trod_string Try.underlying9 h2
      obtain ⟨A1, ns, e1, rfl, a1, a2, a3, a4⟩ := names_open h3
      obtain ⟨A2, ps, e2, rfl, b1, b2, b3, b4, b5⟩ := texts_open h4
      obtain ⟨z, hz, _, hwz⟩ := DataW.trod_int Try.underlying3 h5
      obtain ⟨A3, ks, e3, rfl, d1, d2, d3, d4⟩ := nums_open h6
      injection hd with hd
      injection hnm with hnm
      injection hto with hto
      injection hz with hz
      subst hd hnm hto hz
      unfold maxLen at hwn hwt
      exact ⟨⟨d, nm, to, ns, ps, z, ks⟩, A1, e1, A2, e2, A3, e3, rfl, ⟨a1, b1, d1, a3, b3, d3⟩, ⟨u8_of hwd, by show nm.size ≤ _; omega, by show to.size ≤ _; omega, a2, a4, b2, b4, b5, i64_of hwz, d2, d4⟩⟩

/-- A script that came in. -/
def OpsIn (w : World) (A : Option Addr) (os : List Opn) : Prop :=
  ∀ j (hj : j < os.length), ∃ ad, A = some ad ∧ ad.block < w.heap.size ∧ ∃ A1 c1 A2 c2 A3 c3, OpAt (fun g => g < w.heap.size) w (os[j]'hj) A1 c1 A2 c2 A3 c3 ∧
    w.cell? (ad.add (j * 7)) = some (.int .u8 (os[j]'hj).d) ∧
    w.cell? ⟨(ad.add (j * 7)).block, (ad.add (j * 7)).off + 1, none⟩ = some (.string (os[j]'hj).nm) ∧
    w.cell? ⟨(ad.add (j * 7)).block, (ad.add (j * 7)).off + 2, none⟩ = some (.string (os[j]'hj).to) ∧
    w.cell? ⟨(ad.add (j * 7)).block, (ad.add (j * 7)).off + 3, none⟩ = some (.slice A1 (os[j]'hj).ns.length c1) ∧
    w.cell? ⟨(ad.add (j * 7)).block, (ad.add (j * 7)).off + 4, none⟩ = some (.slice A2 (os[j]'hj).ps.length c2) ∧
    w.cell? ⟨(ad.add (j * 7)).block, (ad.add (j * 7)).off + 5, none⟩ = some (.int .i64 (os[j]'hj).n) ∧
    w.cell? ⟨(ad.add (j * 7)).block, (ad.add (j * 7)).off + 6, none⟩ = some (.slice A3 (os[j]'hj).ks.length c3)

theorem OpAt.below {S : Nat → Prop} {w w' : World} {o : Opn} {A1 A2 A3 : Option Addr} {c1 c2 c3 : Nat} (h : OpAt S w o A1 c1 A2 c2 A3 c3) (hb : Below w.heap.size w w') : OpAt S w' o A1 c1 A2 c2 A3 c3 :=
  ⟨h.k1, h.k2, h.k3, h.ns.below hb, h.ps.below hb, h.ks.below hb⟩
theorem OpAt.mono {S S' : Nat → Prop} {w : World} {o : Opn} {A1 A2 A3 : Option Addr} {c1 c2 c3 : Nat} (h : OpAt S w o A1 c1 A2 c2 A3 c3) (hS : ∀ g, g < w.heap.size → S g → S' g) : OpAt S' w o A1 c1 A2 c2 A3 c3 :=
  ⟨h.k1, h.k2, h.k3, h.ns.mono hS, h.ps.mono hS, h.ks.mono hS⟩
/-- a script stays as it is where nothing old turns -/
theorem OpsIn.below {w w' : World} {A : Option Addr} {os : List Opn} (h : OpsIn w A os) (hb : Below w.heap.size w w') : OpsIn w' A os := fun j hj => by
  have hs := hb.size
  obtain ⟨ad, e, lt, A1, c1, A2, c2, A3, c3, hat, k0, k1, k2, k3, k4, k5, k6⟩ := h j hj
  have hblk : (ad.add (j * 7)).block < w.heap.size := by rw [block_add]; exact lt
  refine ⟨ad, e, by omega, A1, c1, A2, c2, A3, c3, (hat.below hb).mono fun g _ s => by omega, (hb.cell (p := ad.add (j * 7)) hblk).trans k0, (hb.cell (p := ⟨_, _, none⟩) hblk).trans k1, (hb.cell (p := ⟨_, _, none⟩) hblk).trans k2, (hb.cell (p := ⟨_, _, none⟩) hblk).trans k3, (hb.cell (p := ⟨_, _, none⟩) hblk).trans k4, (hb.cell (p := ⟨_, _, none⟩) hblk).trans k5, (hb.cell (p := ⟨_, _, none⟩) hblk).trans k6⟩

set_option maxRecDepth 100000 in
theorem ops_open {H : Type} {enc : TypeId × Value → H} {w : World} {v : Value} {d : DataW H} {p : List MemPlace} {base : Nat} (o : Value.okWide Try.prog w .any base 22 v) (h : DataW.Trod enc Try.prog w 0 (fun _ => true) true 22 v d p) :
    ∃ A os c, v = .slice A os.length c ∧ OpsIn w A os ∧ os.length ≤ 9223372036854775807 ∧ ∀ o ∈ os, OpOk o := by
  obtain ⟨fuel, hf⟩ := h
  obtain ⟨A, len, cap, rfl⟩ := okWide_slice Try.underlying22 o
  rcases open_slice Try.underlying22 hf with ⟨hcs, _⟩ | ⟨a, l, c, m, n, D, Pl, hcs, _, hl, hm, hmm, _, hi⟩
  · simp [Value.cells] at hcs
    obtain ⟨rfl, rfl, rfl⟩ := hcs
    exact ⟨none, [], 0, rfl, fun j hj => by simp at hj, by simp, by simp⟩
  · simp [Value.cells] at hcs
    obtain ⟨rfl, rfl, rfl⟩ := hcs
    have hex : ∀ i, ∃ q : Opn, i < len → OpOk q ∧ ∃ A1 c1 A2 c2 A3 c3, OpAt (fun g => g < w.heap.size) w q A1 c1 A2 c2 A3 c3 ∧
        w.cell? (a.add (i * 7)) = some (.int .u8 q.d) ∧
        w.cell? ⟨(a.add (i * 7)).block, (a.add (i * 7)).off + 1, none⟩ = some (.string q.nm) ∧
        w.cell? ⟨(a.add (i * 7)).block, (a.add (i * 7)).off + 2, none⟩ = some (.string q.to) ∧
        w.cell? ⟨(a.add (i * 7)).block, (a.add (i * 7)).off + 3, none⟩ = some (.slice A1 q.ns.length c1) ∧
        w.cell? ⟨(a.add (i * 7)).block, (a.add (i * 7)).off + 4, none⟩ = some (.slice A2 q.ps.length c2) ∧
        w.cell? ⟨(a.add (i * 7)).block, (a.add (i * 7)).off + 5, none⟩ = some (.int .i64 q.n) ∧
        w.cell? ⟨(a.add (i * 7)).block, (a.add (i * 7)).off + 6, none⟩ = some (.slice A3 q.ks.length c3) := fun i => by
      by_cases hil : i < len
      · obtain ⟨cs', hc, ht⟩ := hi i (by rw [hmm]; simp; omega)
        rw [cells34] at hc
        obtain ⟨o, A1, c1, A2, c2, A3, c3, rfl, hat', hok⟩ := op_open ht
        obtain ⟨_, _, hat⟩ := World.cells?_some hc
        exact ⟨o, fun _ => ⟨hok, A1, c1, A2, c2, A3, c3, hat', hat 0 (by decide), hat 1 (by decide), hat 2 (by decide), hat 3 (by decide), hat 4 (by decide), hat 5 (by decide), hat 6 (by decide)⟩⟩
      · exact ⟨⟨0, ⟨#[]⟩, ⟨#[]⟩, [], [], 0, []⟩, fun h => absurd h hil⟩
    obtain ⟨f, hf2⟩ := Classical.axiomOfChoice hex
    have hlen : ((List.range len).map f).length = len := by simp
    refine ⟨some a, (List.range len).map f, cap, by rw [hlen], fun j hj => ?_, by rw [hlen]; unfold maxLen at hm; omega, fun o ho => ?_⟩
    · rw [hlen] at hj
      obtain ⟨_, A1, c1, A2, c2, A3, c3, hat, k0, kr⟩ := hf2 j hj
      have hb := lt_of_cell k0
      rw [block_add] at hb
      simp only [List.getElem_map, List.getElem_range]
      exact ⟨a, rfl, hb, A1, c1, A2, c2, A3, c3, hat, k0, kr⟩
    · obtain ⟨i, hi, rfl⟩ := List.mem_map.1 ho
      exact (hf2 i (List.mem_range.1 hi)).1

end Go.Proofs.Ytchedflfinkppaa
