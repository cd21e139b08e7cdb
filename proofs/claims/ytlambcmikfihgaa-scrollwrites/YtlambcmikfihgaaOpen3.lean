/-
  Items that came in, as the law takes them.
-/
import Derived.Test.YtlambcmikfihgaaWri0
import Derived.Deep.Slices
import Derived.ChangeSlices
import Derived.OpenShut
namespace Go.Proofs.Ytlambcmikfihgaa
open Go.RowKit Go.ChangeShapes Go.WideShapes Go.Deep
set_option linter.unusedSimpArgs false
set_option linter.unusedVariables false

theorem cells32 : Try.prog.cellsOf 32 = 5 := by kernel_rfl
theorem cells5 : Try.prog.cellsOf 5 = 1 := by kernel_rfl
theorem cells3 : Try.prog.cellsOf 3 = 1 := by kernel_rfl
theorem cells28 : Try.prog.cellsOf 28 = 1 := by kernel_rfl
theorem cells29 : Try.prog.cellsOf 29 = 1 := by kernel_rfl
theorem cells30 : Try.prog.cellsOf 30 = 1 := by kernel_rfl

theorem texts_in {H : Type} {enc : TypeId × Value → H} {w : World} {fuel : Nat} {v : Value} {x : DataW H × List MemPlace} (h : DataW.trod enc Try.prog w 0 (fun _ => true) true fuel 29 [v] = some x) :
    ∃ A ts c, v = .slice A ts.length c ∧ RowsC u8s w A ts ∧ ts.length ≤ 9223372036854775807 ∧ ∀ t ∈ ts, Bytes8 t := by
  rcases open_slice Try.underlying29 h with ⟨hcs, _⟩ | ⟨a, len, cap, m, n, D, Pl, hcs, _, hl, hm, hmm, _, hi⟩
  · injection hcs with hcs
    subst hcs
    exact ⟨none, [], 0, rfl, fun j hj => by simp at hj, by simp, by simp⟩
  · injection hcs with hcs
    subst hcs
    have hex : ∀ i, ∃ q : List Int × (Option Addr × Nat), i < len → w.cell? (a.add i) = some (.slice q.2.1 q.1.length q.2.2) ∧ q.1.length ≤ q.2.2 ∧ q.1.length ≤ 9223372036854775807 ∧ Row (fun g => g < w.heap.size) w q.2.1 (u8s q.1) ∧ Bytes8 q.1 := fun i => by
      by_cases hil : i < len
      · obtain ⟨cs', hc, ht⟩ := hi i (by rw [hmm]; simp; omega)
        rw [cells25, Nat.mul_one] at hc
        obtain ⟨_, hlen, hat⟩ := World.cells?_some hc
        match cs', hlen with
        | [v], _ =>
          obtain ⟨X, l, c, rfl, b1, b2, b3, b4⟩ := bytes_open ht
          have e0 := hat 0 (by decide)
          exact ⟨(l, (X, c)), fun _ => ⟨e0, b1, b2, b3, b4⟩⟩
      · exact ⟨([], (none, 0)), fun h => absurd h hil⟩
    obtain ⟨f, hf2⟩ := Classical.axiomOfChoice hex
    have hlen : ((List.range len).map fun i => (f i).1).length = len := by simp
    refine ⟨some a, (List.range len).map fun i => (f i).1, cap, by rw [hlen], fun j hj => ?_, by rw [hlen]; unfold maxLen at hm; omega, fun o ho => ?_⟩
    · rw [hlen] at hj
      obtain ⟨c0, c1, c2, c3, _⟩ := hf2 j hj
      have hb := lt_of_cell c0
      rw [block_add] at hb
      simp only [List.getElem_map, List.getElem_range]
      exact ⟨a, _, _, rfl, hb, c0, c1, c2, c3.any⟩
    · obtain ⟨i, hi, rfl⟩ := List.mem_map.1 ho
      exact (hf2 i (List.mem_range.1 hi)).2.2.2.2
theorem vecs_in {H : Type} {enc : TypeId × Value → H} {w : World} {fuel : Nat} {v : Value} {x : DataW H × List MemPlace} (h : DataW.trod enc Try.prog w 0 (fun _ => true) true fuel 30 [v] = some x) :
    ∃ A ts c, v = .slice A ts.length c ∧ RowsC i32s w A ts ∧ ts.length ≤ 9223372036854775807 ∧ ∀ t ∈ ts, ∀ y ∈ t, I32 y := by
  rcases open_slice Try.underlying30 h with ⟨hcs, _⟩ | ⟨a, len, cap, m, n, D, Pl, hcs, _, hl, hm, hmm, _, hi⟩
  · injection hcs with hcs
    subst hcs
    exact ⟨none, [], 0, rfl, fun j hj => by simp at hj, by simp, by simp⟩
  · injection hcs with hcs
    subst hcs
    have hex : ∀ i, ∃ q : List Int × (Option Addr × Nat), i < len → w.cell? (a.add i) = some (.slice q.2.1 q.1.length q.2.2) ∧ q.1.length ≤ q.2.2 ∧ q.1.length ≤ 9223372036854775807 ∧ Row (fun g => g < w.heap.size) w q.2.1 (i32s q.1) ∧ ∀ y ∈ q.1, I32 y := fun i => by
      by_cases hil : i < len
      · obtain ⟨cs', hc, ht⟩ := hi i (by rw [hmm]; simp; omega)
        rw [cells40, Nat.mul_one] at hc
        obtain ⟨_, hlen, hat⟩ := World.cells?_some hc
        match cs', hlen with
        | [v], _ =>
          obtain ⟨X, l, c, rfl, b1, b2, b3, b4⟩ := vec_open ht
          have e0 := hat 0 (by decide)
          exact ⟨(l, (X, c)), fun _ => ⟨e0, b1, b2, b3, b4⟩⟩
      · exact ⟨([], (none, 0)), fun h => absurd h hil⟩
    obtain ⟨f, hf2⟩ := Classical.axiomOfChoice hex
    have hlen : ((List.range len).map fun i => (f i).1).length = len := by simp
    refine ⟨some a, (List.range len).map fun i => (f i).1, cap, by rw [hlen], fun j hj => ?_, by rw [hlen]; unfold maxLen at hm; omega, fun o ho => ?_⟩
    · rw [hlen] at hj
      obtain ⟨c0, c1, c2, c3, _⟩ := hf2 j hj
      have hb := lt_of_cell c0
      rw [block_add] at hb
      simp only [List.getElem_map, List.getElem_range]
      exact ⟨a, _, _, rfl, hb, c0, c1, c2, c3.any⟩
    · obtain ⟨i, hi, rfl⟩ := List.mem_map.1 ho
      exact (hf2 i (List.mem_range.1 hi)).2.2.2.2

set_option maxRecDepth 100000 in
theorem item_open {H : Type} {enc : TypeId × Value → H} {w : World} {fuel : Nat} {cs : List Value} {x : DataW H × List MemPlace} (h : DataW.trod enc Try.prog w 0 (fun _ => true) true fuel 32 cs = some x) :
    ∃ o A1 c1 A2 c2 A3 c3, cs = itV o A1 c1 A2 c2 A3 c3 ∧ ItIn w o A1 c1 A2 A3 ∧ ItOk o := by
  obtain ⟨xs, n, _, rfl, hl, hlen, hf⟩ := DataW.trod_struct Try.underlying32 h
  rw [cells32] at hl
  match cs, hl with
  | [c0, c1, c2, c3, c4], _ =>
    match xs, hlen with
    | [y0, y1, y2, y3, y4], _ =>
      have h0 : DataW.trod enc Try.prog w 0 (fun _ => true) true n 5 (([c0, c1, c2, c3, c4].drop 0).take (Try.prog.cellsOf 5)) = some y0 := hf 0 _ rfl
      have h1 : DataW.trod enc Try.prog w 0 (fun _ => true) true n 28 (([c0, c1, c2, c3, c4].drop 1).take (Try.prog.cellsOf 28)) = some y1 := hf 1 _ rfl
      have h2 : DataW.trod enc Try.prog w 0 (fun _ => true) true n 29 (([c0, c1, c2, c3, c4].drop 2).take (Try.prog.cellsOf 29)) = some y2 := hf 2 _ rfl
      have h3 : DataW.trod enc Try.prog w 0 (fun _ => true) true n 30 (([c0, c1, c2, c3, c4].drop 3).take (Try.prog.cellsOf 30)) = some y3 := hf 3 _ rfl
      have h4 : DataW.trod enc Try.prog w 0 (fun _ => true) true n 3 (([c0, c1, c2, c3, c4].drop 4).take (Try.prog.cellsOf 3)) = some y4 := hf 4 _ rfl
      rw [cells5] at h0
      rw [cells28] at h1
      rw [cells29] at h2
      rw [cells30] at h3
      rw [cells3] at h4
      replace h0 : DataW.trod enc Try.prog w 0 (fun _ => true) true n 5 [c0] = some y0 := h0
      replace h1 : DataW.trod enc Try.prog w 0 (fun _ => true) true n 28 [c1] = some y1 := h1
      replace h2 : DataW.trod enc Try.prog w 0 (fun _ => true) true n 29 [c2] = some y2 := h2
      replace h3 : DataW.trod enc Try.prog w 0 (fun _ => true) true n 30 [c3] = some y3 := h3
      replace h4 : DataW.trod enc Try.prog w 0 (fun _ => true) true n 3 [c4] = some y4 := h4
      obtain ⟨d, hd, _, hwd⟩ := DataW.trod_int Try.underlying5 h0
      obtain ⟨A1, ns, e1, rfl, a1, a2, a3, a4⟩ := nums_open h1
      obtain ⟨A2, ts, e2, rfl, b1, b2, b3⟩ := texts_in h2
      obtain ⟨A3, vs, e3, rfl, g1, g2, g3⟩ := vecs_in h3
      obtain ⟨z, hz, _, hwz⟩ := DataW.trod_int Try.underlying3 h4
      injection hd with hd
      injection hz with hz
      subst hd hz
      exact ⟨⟨d, ns, ts, vs, z⟩, A1, e1, A2, e2, A3, e3, rfl, ⟨a3, a1, b1, g1⟩, ⟨u8_of hwd, a4, b3, g3, a2, b2, g2⟩⟩

set_option maxRecDepth 100000 in
theorem items_open {H : Type} {enc : TypeId × Value → H} {w : World} {v : Value} {d : DataW H} {p : List MemPlace} {base : Nat} (o : Value.okWide Try.prog w .any base 22 v) (h : DataW.Trod enc Try.prog w 0 (fun _ => true) true 22 v d p) :
    ∃ A os c, v = .slice A os.length c ∧ ItsIn w A os ∧ os.length ≤ 9223372036854775807 ∧ ∀ o ∈ os, ItOk o := by
  obtain ⟨fuel, hf⟩ := h
  obtain ⟨A, len, cap, rfl⟩ := okWide_slice Try.underlying22 o
  rcases open_slice Try.underlying22 hf with ⟨hcs, _⟩ | ⟨a, l, c, m, n, D, Pl, hcs, _, hl, hm, hmm, _, hi⟩
  · simp [Value.cells] at hcs
    obtain ⟨rfl, rfl, rfl⟩ := hcs
    exact ⟨none, [], 0, rfl, fun j hj => by simp at hj, by simp, by simp⟩
  · simp [Value.cells] at hcs
    obtain ⟨rfl, rfl, rfl⟩ := hcs
    have hex : ∀ i, ∃ q : Itm, i < len → ItOk q ∧ ∃ A1 c1 A2 c2 A3 c3, ItIn w q A1 c1 A2 A3 ∧
        w.cell? (a.add (i * 5)) = some (.int .u8 q.d) ∧
        w.cell? ⟨(a.add (i * 5)).block, (a.add (i * 5)).off + 1, none⟩ = some (.slice A1 q.xs.length c1) ∧
        w.cell? ⟨(a.add (i * 5)).block, (a.add (i * 5)).off + 2, none⟩ = some (.slice A2 q.ts.length c2) ∧
        w.cell? ⟨(a.add (i * 5)).block, (a.add (i * 5)).off + 3, none⟩ = some (.slice A3 q.vs.length c3) ∧
        w.cell? ⟨(a.add (i * 5)).block, (a.add (i * 5)).off + 4, none⟩ = some (.int .i64 q.m) := fun i => by
      by_cases hil : i < len
      · obtain ⟨cs', hc, ht⟩ := hi i (by rw [hmm]; simp; omega)
        rw [cells32] at hc
        obtain ⟨o, A1, c1, A2, c2, A3, c3, rfl, hat', hok⟩ := item_open ht
        obtain ⟨_, _, hat⟩ := World.cells?_some hc
        exact ⟨o, fun _ => ⟨hok, A1, c1, A2, c2, A3, c3, hat', hat 0 (by decide), hat 1 (by decide), hat 2 (by decide), hat 3 (by decide), hat 4 (by decide)⟩⟩
      · exact ⟨⟨0, [], [], [], 0⟩, fun h => absurd h hil⟩
    obtain ⟨f, hf2⟩ := Classical.axiomOfChoice hex
    have hlen : ((List.range len).map f).length = len := by simp
    refine ⟨some a, (List.range len).map f, cap, by rw [hlen], fun j hj => ?_, by rw [hlen]; unfold maxLen at hm; omega, fun o ho => ?_⟩
    · rw [hlen] at hj
      obtain ⟨_, A1, c1, A2, c2, A3, c3, hat, k0, kr⟩ := hf2 j hj
      have hb := lt_of_cell k0
      rw [block_add] at hb
      simp only [List.getElem_map, List.getElem_range]
      exact ⟨a, rfl, hb, A1, c1, A2, c2, A3, c3, hat, k0, kr⟩
    · obtain ⟨i, hi, rfl⟩ := List.mem_map.1 ho
      exact (hf2 i (List.mem_range.1 hi)).1

end Go.Proofs.Ytlambcmikfihgaa
