/-
  Slices of numbers, and of slices, that came in, as the contracts take them.
-/
import Derived.Test.YtlambcmikfihgaaArgs
import Derived.Test.YtlambcmikfihgaaFew
import Derived.Deep.Slices
import Derived.ChangeSlices
namespace Go.Proofs.Ytlambcmikfihgaa
open Go.RowKit Go.ChangeShapes Go.WideShapes Go.Deep

theorem bytes_open {H : Type} {enc : TypeId × Value → H} {w : World} {fuel : Nat} {v : Value} {x : DataW H × List MemPlace} (h : DataW.trod enc Try.prog w 0 (fun _ => true) true fuel 25 [v] = some x) :
    ∃ X l c, v = .slice X l.length c ∧ l.length ≤ c ∧ l.length ≤ 9223372036854775807 ∧ Row (fun g => g < w.heap.size) w X (u8s l) ∧ Bytes8 l := by
  rcases open_ints Try.underlying25 Try.underlying5 (by kernel_rfl) h with ⟨hcs, _⟩ | ⟨a, l, c, zs, hcs, _, hl, hm, hz, _, hcell, hwz⟩
  · injection hcs with hcs
    subst hcs
    exact ⟨none, [], 0, rfl, Nat.le_refl _, by simp, Row.nil, fun x hx => by simp at hx⟩
  · injection hcs with hcs
    subst hcs
    obtain ⟨l', h1, h2, h3, h4, h5⟩ := row_of (k := .u8) (w := w) (a := some a) (len := l) (cap := c) (zs := zs) (.inr ⟨a, rfl, hl, hm, by simpa using hz, hcell, hwz⟩)
    subst h1
    exact ⟨some a, l', c, rfl, h4, h5, h2, fun x hx => u8_of (h3 x hx)⟩
theorem vec_open {H : Type} {enc : TypeId × Value → H} {w : World} {fuel : Nat} {v : Value} {x : DataW H × List MemPlace} (h : DataW.trod enc Try.prog w 0 (fun _ => true) true fuel 40 [v] = some x) :
    ∃ X l c, v = .slice X l.length c ∧ l.length ≤ c ∧ l.length ≤ 9223372036854775807 ∧ Row (fun g => g < w.heap.size) w X (i32s l) ∧ ∀ y ∈ l, I32 y := by
  rcases open_ints Try.underlying40 Try.underlying21 (by kernel_rfl) h with ⟨hcs, _⟩ | ⟨a, l, c, zs, hcs, _, hl, hm, hz, _, hcell, hwz⟩
  · injection hcs with hcs
    subst hcs
    exact ⟨none, [], 0, rfl, Nat.le_refl _, by simp, Row.nil, fun x hx => by simp at hx⟩
  · injection hcs with hcs
    subst hcs
    obtain ⟨l', h1, h2, h3, h4, h5⟩ := row_of (k := .i32) (w := w) (a := some a) (len := l) (cap := c) (zs := zs) (.inr ⟨a, rfl, hl, hm, by simpa using hz, hcell, hwz⟩)
    subst h1
    exact ⟨some a, l', c, rfl, h4, h5, h2, fun x hx => i32_of (h3 x hx)⟩
theorem u64_of {n : Int} (h : (Lit.int .u64 n).wf = true) : 0 ≤ n ∧ n < 18446744073709551616 := by
  have hx : 0 ≤ n ∧ n ≤ 18446744073709551615 := by simpa [Lit.wf, IntKind.min, IntKind.max, IntKind.signed, IntKind.bits] using h
  omega
theorem nums_open {H : Type} {enc : TypeId × Value → H} {w : World} {fuel : Nat} {v : Value} {x : DataW H × List MemPlace} (h : DataW.trod enc Try.prog w 0 (fun _ => true) true fuel 28 [v] = some x) :
    ∃ X l c, v = .slice X l.length c ∧ l.length ≤ c ∧ l.length ≤ 9223372036854775807 ∧ Row (fun g => g < w.heap.size) w X (u64s l) ∧ ∀ y ∈ l, y < U64 := by
  rcases open_ints Try.underlying28 Try.underlying35 (by kernel_rfl) h with ⟨hcs, _⟩ | ⟨a, l, c, zs, hcs, _, hl, hm, hz, _, hcell, hwz⟩
  · injection hcs with hcs
    subst hcs
    exact ⟨none, [], 0, rfl, Nat.le_refl _, by simp, Row.nil, fun x hx => by simp at hx⟩
  · injection hcs with hcs
    subst hcs
    obtain ⟨l', h1, h2, h3, h4, h5⟩ := row_of (k := .u64) (w := w) (a := some a) (len := l) (cap := c) (zs := zs) (.inr ⟨a, rfl, hl, hm, by simpa using hz, hcell, hwz⟩)
    subst h1
    have e : u64s (l'.map Int.toNat) = l'.map fun (n : Int) => Value.int .u64 n := by
      unfold u64s
      rw [List.map_map]
      refine List.map_congr_left fun n hn => ?_
      show Value.int .u64 ((n.toNat : Nat) : Int) = Value.int .u64 n
      rw [Int.toNat_of_nonneg (u64_of (h3 n hn)).1]
    refine ⟨some a, l'.map Int.toNat, c, by rw [List.length_map], by rw [List.length_map]; exact h4, by rw [List.length_map]; exact h5, by rw [e]; exact h2, fun y hy => ?_⟩
    obtain ⟨n, hn, rfl⟩ := List.mem_map.1 hy
    have := u64_of (h3 n hn)
    unfold U64; omega

theorem cells25 : Try.prog.cellsOf 25 = 1 := by kernel_rfl
theorem cells40 : Try.prog.cellsOf 40 = 1 := by kernel_rfl

theorem texts_open {H : Type} {enc : TypeId × Value → H} {w : World} {v : Value} {d : DataW H} {p : List MemPlace} {base : Nat} (o : Value.okWide Try.prog w .any base 29 v) (h : DataW.Trod enc Try.prog w 0 (fun _ => true) true 29 v d p) :
    ∃ A ts c, v = .slice A ts.length c ∧ RowsC u8s w A ts ∧ ts.length ≤ 9223372036854775807 ∧ ∀ t ∈ ts, Bytes8 t := by
  obtain ⟨fuel, hf⟩ := h
  obtain ⟨A, len, cap, rfl⟩ := okWide_slice Try.underlying29 o
  rcases open_slice Try.underlying29 hf with ⟨hcs, _⟩ | ⟨a, l, c, m, n, D, Pl, hcs, _, hl, hm, hmm, _, hi⟩
  · simp [Value.cells] at hcs
    obtain ⟨rfl, rfl, rfl⟩ := hcs
    exact ⟨none, [], 0, rfl, fun j hj => by simp at hj, by simp, by simp⟩
  · simp [Value.cells] at hcs
    obtain ⟨rfl, rfl, rfl⟩ := hcs
    have hex : ∀ i, ∃ q : List Int × (Option Addr × Nat), i < len → w.cell? (a.add i) = some (.slice q.2.1 q.1.length q.2.2) ∧ q.1.length ≤ q.2.2 ∧ q.1.length ≤ 9223372036854775807 ∧ Row (fun g => g < w.heap.size) w q.2.1 (u8s q.1) ∧ Bytes8 q.1 := fun i => by
      by_cases hil : i < len
      · obtain ⟨cs', hc, ht⟩ := hi i (by rw [hmm]; simp; omega)
        rw [cells25, Nat.mul_one] at hc
        obtain ⟨_, hlen, hat⟩ := World.cells?_some hc
        match cs', hlen with
        | [v], _ =>
          obtain ⟨X, l, c, rfl, b1, b2, b3, b4⟩ := bytes_open ht
          have e0 := hat 0 (by decide)
          exact ⟨(l, (X, c)), fun _ => ⟨e0, b1, b2, b3, b4⟩⟩
      · exact ⟨([], (none, 0)), fun h => absurd h hil⟩
    obtain ⟨f, hf2⟩ := Classical.axiomOfChoice hex
    have hlen : ((List.range len).map fun i => (f i).1).length = len := by simp
    refine ⟨some a, (List.range len).map fun i => (f i).1, cap, by rw [hlen], fun j hj => ?_, by rw [hlen]; unfold maxLen at hm; omega, fun o ho => ?_⟩
    · rw [hlen] at hj
      obtain ⟨c0, c1, c2, c3, _⟩ := hf2 j hj
      have hb := lt_of_cell c0
      rw [block_add] at hb
      simp only [List.getElem_map, List.getElem_range]
      exact ⟨a, _, _, rfl, hb, c0, c1, c2, c3.any⟩
    · obtain ⟨i, hi, rfl⟩ := List.mem_map.1 ho
      exact (hf2 i (List.mem_range.1 hi)).2.2.2.2
theorem vecs_open {H : Type} {enc : TypeId × Value → H} {w : World} {v : Value} {d : DataW H} {p : List MemPlace} {base : Nat} (o : Value.okWide Try.prog w .any base 30 v) (h : DataW.Trod enc Try.prog w 0 (fun _ => true) true 30 v d p) :
    ∃ A ts c, v = .slice A ts.length c ∧ RowsC i32s w A ts ∧ ts.length ≤ 9223372036854775807 ∧ ∀ t ∈ ts, ∀ y ∈ t, I32 y := by
  obtain ⟨fuel, hf⟩ := h
  obtain ⟨A, len, cap, rfl⟩ := okWide_slice Try.underlying30 o
  rcases open_slice Try.underlying30 hf with ⟨hcs, _⟩ | ⟨a, l, c, m, n, D, Pl, hcs, _, hl, hm, hmm, _, hi⟩
  · simp [Value.cells] at hcs
    obtain ⟨rfl, rfl, rfl⟩ := hcs
    exact ⟨none, [], 0, rfl, fun j hj => by simp at hj, by simp, by simp⟩
  · simp [Value.cells] at hcs
    obtain ⟨rfl, rfl, rfl⟩ := hcs
    have hex : ∀ i, ∃ q : List Int × (Option Addr × Nat), i < len → w.cell? (a.add i) = some (.slice q.2.1 q.1.length q.2.2) ∧ q.1.length ≤ q.2.2 ∧ q.1.length ≤ 9223372036854775807 ∧ Row (fun g => g < w.heap.size) w q.2.1 (i32s q.1) ∧ ∀ y ∈ q.1, I32 y := fun i => by
      by_cases hil : i < len
      · obtain ⟨cs', hc, ht⟩ := hi i (by rw [hmm]; simp; omega)
        rw [cells40, Nat.mul_one] at hc
        obtain ⟨_, hlen, hat⟩ := World.cells?_some hc
        match cs', hlen with
        | [v], _ =>
          obtain ⟨X, l, c, rfl, b1, b2, b3, b4⟩ := vec_open ht
          have e0 := hat 0 (by decide)
          exact ⟨(l, (X, c)), fun _ => ⟨e0, b1, b2, b3, b4⟩⟩
      · exact ⟨([], (none, 0)), fun h => absurd h hil⟩
    obtain ⟨f, hf2⟩ := Classical.axiomOfChoice hex
    have hlen : ((List.range len).map fun i => (f i).1).length = len := by simp
    refine ⟨some a, (List.range len).map fun i => (f i).1, cap, by rw [hlen], fun j hj => ?_, by rw [hlen]; unfold maxLen at hm; omega, fun o ho => ?_⟩
    · rw [hlen] at hj
      obtain ⟨c0, c1, c2, c3, _⟩ := hf2 j hj
      have hb := lt_of_cell c0
      rw [block_add] at hb
      simp only [List.getElem_map, List.getElem_range]
      exact ⟨a, _, _, rfl, hb, c0, c1, c2, c3.any⟩
    · obtain ⟨i, hi, rfl⟩ := List.mem_map.1 ho
      exact (hf2 i (List.mem_range.1 hi)).2.2.2.2

end Go.Proofs.Ytlambcmikfihgaa
