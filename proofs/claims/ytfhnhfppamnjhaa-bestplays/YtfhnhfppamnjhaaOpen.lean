/-
  Hits that came in, as the contracts take them.
-/
import Derived.Test.YtfhnhfppamnjhaaHit
import Derived.Deep.Slices
import Derived.ChangeSame
import Derived.Deep.Strs
namespace Go.Proofs.Ytfhnhfppamnjhaa
open Go.RowKit Go.ChangeShapes Go.WideShapes Go.Deep

theorem vec_open {H : Type} {enc : TypeId × Value → H} {w : World} {fuel : Nat} {v : Value} {x : DataW H × List MemPlace} (h : DataW.trod enc Try.prog w 0 (fun _ => true) true fuel 34 [v] = some x) :
    ∃ X l c, v = .slice X l.length c ∧ l.length ≤ c ∧ l.length ≤ 9223372036854775807 ∧ Row (fun g => g < w.heap.size) w X (i32s l) := by
  rcases open_ints Try.underlying34 Try.underlying21 (by kernel_rfl) h with ⟨hcs, _⟩ | ⟨a, l, c, zs, hcs, _, hl, hm, hz, _, hcell, hwz⟩
  · injection hcs with hcs
    subst hcs
    exact ⟨none, [], 0, rfl, Nat.le_refl _, by simp, Row.nil⟩
  · injection hcs with hcs
    subst hcs
    obtain ⟨l', h1, h2, _, h4, h5⟩ := row_of (k := .i32) (w := w) (a := some a) (len := l) (cap := c) (zs := zs) (.inr ⟨a, rfl, hl, hm, by simpa using hz, hcell, hwz⟩)
    subst h1
    exact ⟨some a, l', c, rfl, h4, h5, h2⟩

theorem cells36 : Try.prog.cellsOf 36 = 3 := by kernel_rfl
theorem cells33 : Try.prog.cellsOf 33 = 1 := by kernel_rfl
theorem cells34 : Try.prog.cellsOf 34 = 1 := by kernel_rfl

theorem hit_open {H : Type} {enc : TypeId × Value → H} {w : World} {fuel : Nat} {cs : List Value} {x : DataW H × List MemPlace} (h : DataW.trod enc Try.prog w 0 (fun _ => true) true fuel 36 cs = some x) :
    ∃ id dist X l c, cs = [.int .u64 id, .int .u64 dist, .slice X l.length c] ∧ (Lit.int .u64 id).wf = true ∧ (Lit.int .u64 dist).wf = true ∧ l.length ≤ c ∧ l.length ≤ 9223372036854775807 ∧ Row (fun g => g < w.heap.size) w X (i32s l) := by
  obtain ⟨y0, y1, y2, n, _, hl, h0, h1, h2⟩ := trod_struct3 Try.underlying36 h
  rw [cells36] at hl
  match cs, hl with
  | [c0, c1, c2], _ =>
    simp only [cells33, cells34, List.drop_zero, List.drop_succ_cons, List.take_succ_cons, List.take_zero] at h0 h1 h2
    obtain ⟨id, hid, _, hwf⟩ := DataW.trod_int Try.underlying33 h0
    obtain ⟨di, hdi, _, hwd⟩ := DataW.trod_int Try.underlying33 h1
    obtain ⟨X, l, c, rfl, a1, a2, a3⟩ := vec_open h2
    injection hid with hid
    injection hdi with hdi
    subst hid hdi
    exact ⟨id, di, X, l, c, rfl, hwf, hwd, a1, a2, a3⟩

theorem hits_open {H : Type} {enc : TypeId × Value → H} {w : World} {v : Value} {d : DataW H} {p : List MemPlace} {base : Nat} (o : Value.okWide Try.prog w .any base 29 v) (h : DataW.Trod enc Try.prog w 0 (fun _ => true) true 29 v d p) :
    ∃ A hs c, v = .slice A hs.length c ∧ HitsAt (fun g => g < w.heap.size) w A hs ∧ hs.length ≤ 9223372036854775807 ∧ (∀ o ∈ hs, o.2.2.length ≤ 9223372036854775807) ∧ ∀ o ∈ hs, (Lit.int .u64 o.1).wf = true ∧ (Lit.int .u64 o.2.1).wf = true := by
  obtain ⟨fuel, hf⟩ := h
  obtain ⟨A, len, cap, rfl⟩ := okWide_slice Try.underlying29 o
  rcases open_slice Try.underlying29 hf with ⟨hcs, _⟩ | ⟨a, l, c, m, n, D, Pl, hcs, _, hl, hm, hmm, _, hi⟩
  · simp [Value.cells] at hcs
    obtain ⟨rfl, rfl, rfl⟩ := hcs
    exact ⟨none, [], 0, rfl, fun j hj => by simp at hj, by simp, by simp, by simp⟩
  · simp [Value.cells] at hcs
    obtain ⟨rfl, rfl, rfl⟩ := hcs
    have hex : ∀ i, ∃ q : Hit × (Option Addr × Nat), i < len → w.cell? (a.add (i * 3)) = some (.int .u64 q.1.1) ∧ w.cell? ⟨(a.add (i * 3)).block, (a.add (i * 3)).off + 1, none⟩ = some (.int .u64 q.1.2.1) ∧ w.cell? ⟨(a.add (i * 3)).block, (a.add (i * 3)).off + 2, none⟩ = some (.slice q.2.1 q.1.2.2.length q.2.2) ∧ q.1.2.2.length ≤ q.2.2 ∧
        Row (fun g => g < w.heap.size) w q.2.1 (i32s q.1.2.2) ∧ q.1.2.2.length ≤ 9223372036854775807 ∧ (Lit.int .u64 q.1.1).wf = true ∧ (Lit.int .u64 q.1.2.1).wf = true := fun i => by
      by_cases hil : i < len
      · obtain ⟨cs', hc, ht⟩ := hi i (by rw [hmm]; simp; omega)
        rw [cells36] at hc
        obtain ⟨id, di, X, l, c, rfl, b1, b1', b2, b3, b4⟩ := hit_open ht
        obtain ⟨_, _, hat⟩ := World.cells?_some hc
        have e0 := hat 0 (by decide)
        have e1 := hat 1 (by decide)
        have e2 := hat 2 (by decide)
        exact ⟨((id, di, l), (X, c)), fun _ => ⟨e0, e1, e2, b2, b4, b3, b1, b1'⟩⟩
      · exact ⟨((0, 0, []), (none, 0)), fun h => absurd h hil⟩
    obtain ⟨f, hf2⟩ := Classical.axiomOfChoice hex
    have hlen : ((List.range len).map fun i => (f i).1).length = len := by simp
    refine ⟨some a, (List.range len).map fun i => (f i).1, cap, by rw [hlen], fun j hj => ?_, by rw [hlen]; unfold maxLen at hm; omega, fun o ho => ?_, fun o ho => ?_⟩
    · rw [hlen] at hj
      obtain ⟨c0, c1, c2, c3, c4, _⟩ := hf2 j hj
      have hb := lt_of_cell c0
      rw [block_add] at hb
      simp only [List.getElem_map, List.getElem_range]
      exact ⟨a, rfl, hb, hb, c0, c1, _, _, c2, c3, c4⟩
    · obtain ⟨i, hi, rfl⟩ := List.mem_map.1 ho
      exact (hf2 i (List.mem_range.1 hi)).2.2.2.2.2.1
    · obtain ⟨i, hi, rfl⟩ := List.mem_map.1 ho
      exact (hf2 i (List.mem_range.1 hi)).2.2.2.2.2.2

end Go.Proofs.Ytfhnhfppamnjhaa
