/-
  Scripts and versions that came in, as the contracts take them; what a chain always is.
-/
import Derived.Test.YtphcakhhjjdpiaaAwake
import Derived.Test.YtphcakhhjjdpiaaList
import Derived.Deep.Slices
import Derived.ChangeSame
import Derived.Deep.Strs
import Derived.Lib.SmallJoins
namespace Go.Proofs.Ytphcakhhjjdpiaa
open Go.RowKit Go.ChangeShapes Go.WideShapes Go.Deep Go.Joins

/-- A call: what, the stamp, the vector, what is asked. -/
abbrev OpC := Int × Int × List Int × Int
/-- A slice that reads as a script; of all its blocks S holds. -/
def OpsAt (S : Nat → Prop) (w : World) (A : Option Addr) (os : List OpC) : Prop :=
  ∀ j (hj : j < os.length), ∃ ad, A = some ad ∧ S ad.block ∧ ad.block < w.heap.size ∧ w.cell? (ad.add (j * 4)) = some (.int .u8 (os[j]'hj).1) ∧
    w.cell? ⟨(ad.add (j * 4)).block, (ad.add (j * 4)).off + 1, none⟩ = some (.int .u64 (os[j]'hj).2.1) ∧
    (∃ X c, w.cell? ⟨(ad.add (j * 4)).block, (ad.add (j * 4)).off + 2, none⟩ = some (.slice X (os[j]'hj).2.2.1.length c) ∧ (os[j]'hj).2.2.1.length ≤ c ∧ Row S w X (i32s (os[j]'hj).2.2.1)) ∧
    w.cell? ⟨(ad.add (j * 4)).block, (ad.add (j * 4)).off + 3, none⟩ = some (.int .u64 (os[j]'hj).2.2.2)
theorem OpsAt.kept {S : Nat → Prop} {w w' : World} {A : Option Addr} {os : List OpC} (h : OpsAt S w A os) (hs' : w.heap.size ≤ w'.heap.size) (hk : ∀ g, g < w.heap.size → S g → w'.heap[g]? = w.heap[g]?) : OpsAt S w' A os := fun j hj => by
  obtain ⟨ad, e, s, lt, h0, h1, ⟨X, c, h2, hc, hr⟩, h3⟩ := h j hj
  have hb : w'.heap[(ad.add (j * 4)).block]? = w.heap[(ad.add (j * 4)).block]? := by rw [block_add]; exact hk _ lt s
  exact ⟨ad, e, s, by omega, (World.cell?_of_block hb).trans h0, (World.cell?_of_block (a := ⟨(ad.add (j * 4)).block, (ad.add (j * 4)).off + 1, none⟩) hb).trans h1, ⟨X, c, (World.cell?_of_block (a := ⟨(ad.add (j * 4)).block, (ad.add (j * 4)).off + 2, none⟩) hb).trans h2, hc, hr.kept hs' hk⟩, (World.cell?_of_block (a := ⟨(ad.add (j * 4)).block, (ad.add (j * 4)).off + 3, none⟩) hb).trans h3⟩
theorem OpsAt.below {S : Nat → Prop} {w w' : World} {A : Option Addr} {os : List OpC} (h : OpsAt S w A os) (hb : Below w.heap.size w w') : OpsAt S w' A os := h.kept hb.size fun g hg _ => hb.block g hg

theorem vec_open {H : Type} {enc : TypeId × Value → H} {w : World} {fuel : Nat} {v : Value} {x : DataW H × List MemPlace} (h : DataW.trod enc Try.prog w 0 (fun _ => true) true fuel 30 [v] = some x) :
    ∃ X l c, v = .slice X l.length c ∧ l.length ≤ c ∧ l.length ≤ 9223372036854775807 ∧ Row (fun g => g < w.heap.size) w X (i32s l) ∧ ∀ n ∈ l, I32 n := by
  rcases open_ints Try.underlying30 Try.underlying21 (by kernel_rfl) h with ⟨hcs, _⟩ | ⟨a, l, c, zs, hcs, _, hl, hm, hz, _, hcell, hwz⟩
  · injection hcs with hcs
    subst hcs
    exact ⟨none, [], 0, rfl, Nat.le_refl _, by simp, Row.nil, by simp⟩
  · injection hcs with hcs
    subst hcs
    obtain ⟨l', h1, h2, h3, h4, h5⟩ := row_of (k := .i32) (w := w) (a := some a) (len := l) (cap := c) (zs := zs) (.inr ⟨a, rfl, hl, hm, by simpa using hz, hcell, hwz⟩)
    subst h1
    exact ⟨some a, l', c, rfl, h4, h5, h2, fun n hn => i32_of (h3 n hn)⟩

theorem cells32 : Try.prog.cellsOf 32 = 4 := by kernel_rfl
theorem cells44 : Try.prog.cellsOf 44 = 2 := by kernel_rfl
theorem cells5 : Try.prog.cellsOf 5 = 1 := by kernel_rfl
theorem cells29 : Try.prog.cellsOf 29 = 1 := by kernel_rfl
theorem cells30 : Try.prog.cellsOf 30 = 1 := by kernel_rfl

def U64 (n : Int) : Prop := 0 ≤ n ∧ n ≤ 18446744073709551615
theorem u64_of {n : Int} (h : (Lit.int .u64 n).wf = true) : U64 n := by
  simpa [U64, Lit.wf, IntKind.min, IntKind.max, IntKind.signed, IntKind.bits] using h

theorem op_open {H : Type} {enc : TypeId × Value → H} {w : World} {fuel : Nat} {cs : List Value} {x : DataW H × List MemPlace} (h : DataW.trod enc Try.prog w 0 (fun _ => true) true fuel 32 cs = some x) :
    ∃ d s X l c q, cs = [.int .u8 d, .int .u64 s, .slice X l.length c, .int .u64 q] ∧ (0 ≤ d ∧ d < 256) ∧ U64 s ∧ U64 q ∧ l.length ≤ c ∧ l.length ≤ 9223372036854775807 ∧ Row (fun g => g < w.heap.size) w X (i32s l) ∧ ∀ n ∈ l, I32 n := by
  obtain ⟨y0, y1, y2, y3, n, _, hl, h0, h1, h2, h3⟩ := trod_struct4 Try.underlying32 h
  rw [cells32] at hl
  match cs, hl with
  | [c0, c1, c2, c3], _ =>
    simp only [cells5, cells29, cells30, List.drop_zero, List.drop_succ_cons, List.take_succ_cons, List.take_zero] at h0 h1 h2 h3
    obtain ⟨d, hd, _, hwd⟩ := DataW.trod_int Try.underlying5 h0
    obtain ⟨s, hs, _, hws⟩ := DataW.trod_int Try.underlying29 h1
    obtain ⟨X, l, c, rfl, a1, a2, a3, a4⟩ := vec_open h2
    obtain ⟨q, hq, _, hwq⟩ := DataW.trod_int Try.underlying29 h3
    injection hd with hd
    injection hs with hs
    injection hq with hq
    subst hd hs hq
    exact ⟨d, s, X, l, c, q, rfl, u8_of hwd, u64_of hws, u64_of hwq, a1, a2, a3, a4⟩

/-- what a script that came in is -/
def OpsWf (os : List OpC) : Prop := ∀ o ∈ os, (0 ≤ o.1 ∧ o.1 < 256) ∧ U64 o.2.1 ∧ U64 o.2.2.2 ∧ o.2.2.1.length ≤ 9223372036854775807 ∧ ∀ n ∈ o.2.2.1, I32 n

theorem ops_open {H : Type} {enc : TypeId × Value → H} {w : World} {v : Value} {d : DataW H} {p : List MemPlace} {base : Nat} (o : Value.okWide Try.prog w .any base 22 v) (h : DataW.Trod enc Try.prog w 0 (fun _ => true) true 22 v d p) :
    ∃ A os c, v = .slice A os.length c ∧ OpsAt (fun g => g < w.heap.size) w A os ∧ os.length ≤ 9223372036854775807 ∧ OpsWf os := by
  obtain ⟨fuel, hf⟩ := h
  obtain ⟨A, len, cap, rfl⟩ := okWide_slice Try.underlying22 o
  rcases open_slice Try.underlying22 hf with ⟨hcs, _⟩ | ⟨a, l, c, m, n, D, Pl, hcs, _, hl, hm, hmm, _, hi⟩
  · simp [Value.cells] at hcs
    obtain ⟨rfl, rfl, rfl⟩ := hcs
    exact ⟨none, [], 0, rfl, fun j hj => by simp at hj, by simp, fun o ho => by cases ho⟩
  · simp [Value.cells] at hcs
    obtain ⟨rfl, rfl, rfl⟩ := hcs
    have hex : ∀ i, ∃ q : OpC × (Option Addr × Nat), i < len → w.cell? (a.add (i * 4)) = some (.int .u8 q.1.1) ∧ w.cell? ⟨(a.add (i * 4)).block, (a.add (i * 4)).off + 1, none⟩ = some (.int .u64 q.1.2.1) ∧ w.cell? ⟨(a.add (i * 4)).block, (a.add (i * 4)).off + 2, none⟩ = some (.slice q.2.1 q.1.2.2.1.length q.2.2) ∧ w.cell? ⟨(a.add (i * 4)).block, (a.add (i * 4)).off + 3, none⟩ = some (.int .u64 q.1.2.2.2) ∧ q.1.2.2.1.length ≤ q.2.2 ∧
        Row (fun g => g < w.heap.size) w q.2.1 (i32s q.1.2.2.1) ∧ ((0 ≤ q.1.1 ∧ q.1.1 < 256) ∧ U64 q.1.2.1 ∧ U64 q.1.2.2.2 ∧ q.1.2.2.1.length ≤ 9223372036854775807 ∧ ∀ n ∈ q.1.2.2.1, I32 n) := fun i => by
      by_cases hil : i < len
      · obtain ⟨cs', hc, ht⟩ := hi i (by rw [hmm]; simp; omega)
        rw [cells32] at hc
        obtain ⟨dd, s, X, l, c, q, rfl, b0, b1, b2, b3, b4, b5, b6⟩ := op_open ht
        obtain ⟨_, _, hat⟩ := World.cells?_some hc
        exact ⟨((dd, s, l, q), (X, c)), fun _ => ⟨hat 0 (by decide), hat 1 (by decide), hat 2 (by decide), hat 3 (by decide), b3, b5, b0, b1, b2, b4, b6⟩⟩
      · exact ⟨((0, 0, [], 0), (none, 0)), fun h => absurd h hil⟩
    obtain ⟨f, hf2⟩ := Classical.axiomOfChoice hex
    have hlen : ((List.range len).map fun i => (f i).1).length = len := by simp
    refine ⟨some a, (List.range len).map fun i => (f i).1, cap, by rw [hlen], fun j hj => ?_, by rw [hlen]; unfold maxLen at hm; omega, fun o ho => ?_⟩
    · rw [hlen] at hj
      obtain ⟨c0, c1, c2, c3, c4, c5, _⟩ := hf2 j hj
      have hb := lt_of_cell c0
      rw [block_add] at hb
      simp only [List.getElem_map, List.getElem_range]
      exact ⟨a, rfl, hb, hb, c0, c1, ⟨_, _, c2, c4, c5⟩, c3⟩
    · obtain ⟨i, hi, rfl⟩ := List.mem_map.1 ho
      exact (hf2 i (List.mem_range.1 hi)).2.2.2.2.2.2

theorem ver_open {H : Type} {enc : TypeId × Value → H} {w : World} {fuel : Nat} {cs : List Value} {x : DataW H × List MemPlace} (h : DataW.trod enc Try.prog w 0 (fun _ => true) true fuel 44 cs = some x) :
    ∃ s X l c, cs = [.int .u64 s, .slice X l.length c] ∧ U64 s ∧ l.length ≤ c ∧ l.length ≤ 9223372036854775807 ∧ Row (fun g => g < w.heap.size) w X (i32s l) := by
  obtain ⟨y0, y1, n, _, hl, h0, h1⟩ := trod_struct2 Try.underlying44 h
  rw [cells44] at hl
  match cs, hl with
  | [c0, c1], _ =>
    simp only [cells29, cells30, List.drop_zero, List.drop_succ_cons, List.take_succ_cons, List.take_zero] at h0 h1
    obtain ⟨s, hs, _, hws⟩ := DataW.trod_int Try.underlying29 h0
    obtain ⟨X, l, c, rfl, a1, a2, a3, _⟩ := vec_open h1
    injection hs with hs
    subst hs
    exact ⟨s, X, l, c, rfl, u64_of hws, a1, a2, a3⟩

theorem vers_open {H : Type} {enc : TypeId × Value → H} {w : World} {v : Value} {d : DataW H} {p : List MemPlace} {base : Nat} (o : Value.okWide Try.prog w .any base 28 v) (h : DataW.Trod enc Try.prog w 0 (fun _ => true) true 28 v d p) :
    ∃ A vs c, v = .slice A vs.length c ∧ VersAt (fun g => g < w.heap.size) (fun g => g < w.heap.size) w A vs ∧ vs.length ≤ 9223372036854775807 ∧ (∀ x ∈ vs, U64 x.1) ∧ ∀ x ∈ vs, x.2.length ≤ 9223372036854775807 := by
  obtain ⟨fuel, hf⟩ := h
  obtain ⟨A, len, cap, rfl⟩ := okWide_slice Try.underlying28 o
  rcases open_slice Try.underlying28 hf with ⟨hcs, _⟩ | ⟨a, l, c, m, n, D, Pl, hcs, _, hl, hm, hmm, _, hi⟩
  · simp [Value.cells] at hcs
    obtain ⟨rfl, rfl, rfl⟩ := hcs
    exact ⟨none, [], 0, rfl, fun j hj => by simp at hj, by simp, by simp, by simp⟩
  · simp [Value.cells] at hcs
    obtain ⟨rfl, rfl, rfl⟩ := hcs
    have hex : ∀ i, ∃ q : Ver × (Option Addr × Nat), i < len → w.cell? (a.add (i * 2)) = some (.int .u64 q.1.1) ∧ w.cell? ⟨(a.add (i * 2)).block, (a.add (i * 2)).off + 1, none⟩ = some (.slice q.2.1 q.1.2.length q.2.2) ∧ q.1.2.length ≤ q.2.2 ∧
        Row (fun g => g < w.heap.size) w q.2.1 (i32s q.1.2) ∧ U64 q.1.1 ∧ q.1.2.length ≤ 9223372036854775807 := fun i => by
      by_cases hil : i < len
      · obtain ⟨cs', hc, ht⟩ := hi i (by rw [hmm]; simp; omega)
        rw [cells44] at hc
        obtain ⟨s, X, l, c, rfl, b1, b3, b4, b5⟩ := ver_open ht
        obtain ⟨_, _, hat⟩ := World.cells?_some hc
        exact ⟨((s, l), (X, c)), fun _ => ⟨hat 0 (by decide), hat 1 (by decide), b3, b5, b1, b4⟩⟩
      · exact ⟨((0, []), (none, 0)), fun h => absurd h hil⟩
    obtain ⟨f, hf2⟩ := Classical.axiomOfChoice hex
    have hlen : ((List.range len).map fun i => (f i).1).length = len := by simp
    refine ⟨some a, (List.range len).map fun i => (f i).1, cap, by rw [hlen], fun j hj => ?_, by rw [hlen]; unfold maxLen at hm; omega, fun o ho => ?_, fun o ho => ?_⟩
    · rw [hlen] at hj
      obtain ⟨c0, c1, c2, c3, _, _⟩ := hf2 j hj
      have hb := lt_of_cell c0
      rw [block_add] at hb
      simp only [List.getElem_map, List.getElem_range]
      exact ⟨a, rfl, hb, hb, c0, _, _, c1, c2, c3⟩
    · obtain ⟨i, hi, rfl⟩ := List.mem_map.1 ho
      exact (hf2 i (List.mem_range.1 hi)).2.2.2.2.1
    · obtain ⟨i, hi, rfl⟩ := List.mem_map.1 ho
      exact (hf2 i (List.mem_range.1 hi)).2.2.2.2.2

/-- What a chain's versions always are. -/
structure GoodC (vs : List Ver) : Prop where
  rise : Rise vs
  st : ∀ x ∈ vs, 1 ≤ x.1 ∧ x.1 ≤ 1099511627776
  vec : ∀ x ∈ vs, goneB x.2 = true ∨ rightB x.2 = true
theorem right_len {l : List Int} (h : rightB l = true) : l.length ≤ 8 := by
  unfold rightB at h; simp at h; omega
theorem GoodC.len {vs : List Ver} (h : GoodC vs) : ∀ x ∈ vs, x.2.length ≤ 1000 := fun x hx => by
  rcases h.vec x hx with h | h
  · unfold goneB at h; simp at h; simp [h]
  · have := right_len h; omega
theorem GoodC.nil : GoodC [] := ⟨List.Pairwise.nil, fun x hx => (by cases hx), fun x hx => (by cases hx)⟩
theorem GoodC.sub {vs us : List Ver} (h : GoodC vs) (hs : us.Sublist vs) : GoodC us := ⟨h.rise.sublist hs, fun x hx => h.st x (hs.subset hx), fun x hx => h.vec x (hs.subset hx)⟩
theorem GoodC.lastS_le {vs : List Ver} (h : Rise vs) : ∀ x ∈ vs, x.1 ≤ lastS vs := fun x hx => by
  obtain ⟨j, hj, rfl⟩ := List.getElem_of_mem hx
  obtain ⟨m, hm⟩ : ∃ m, vs.length = m + 1 := ⟨vs.length - 1, by omega⟩
  rw [lastS_at vs m hm]
  rcases Nat.lt_or_ge j m with h1 | h1
  · exact Int.le_of_lt (h.at_lt hj (by omega) h1)
  · obtain rfl : j = m := by omega
    exact Int.le_refl _
theorem GoodC.put {vs : List Ver} (h : GoodC vs) (x : Ver) : GoodC (putV vs x) := by
  unfold putV
  split
  · rename_i h0
    unfold putE at h0
    split at h0
    · cases h0
    · split at h0
      · cases h0
      · split at h0
        · cases h0
        · rename_i h1 h2 h3
          refine ⟨?_, fun y hy => ?_, fun y hy => ?_⟩
          · refine List.pairwise_append.2 ⟨h.rise, List.pairwise_singleton _ _, fun a ha b hb => ?_⟩
            rw [List.mem_singleton.1 hb]
            have := GoodC.lastS_le h.rise a ha
            omega
          · rcases List.mem_append.1 hy with hy | hy
            · exact h.st y hy
            · rw [List.mem_singleton.1 hy]; omega
          · rcases List.mem_append.1 hy with hy | hy
            · exact h.vec y hy
            · rw [List.mem_singleton.1 hy]
              cases hg : goneB x.2 <;> cases hr : rightB x.2 <;> simp_all
  · exact h
theorem putV_len (vs : List Ver) (x : Ver) : (putV vs x).length ≤ vs.length + 1 := by unfold putV; split <;> simp
theorem GoodC.putE {vs : List Ver} {x : Ver} (h : GoodC (vs ++ [x])) : putE vs x = 0 := by
  have hx : x ∈ vs ++ [x] := by simp
  have h1 := h.st x hx
  refine putE_0 (by omega) (by omega) (h.vec x hx) ?_
  cases hv : vs.getLast? with
  | none =>
    unfold lastS
    rw [List.getLastD_eq_getLast?, hv]
    show ¬ x.1 ≤ 0
    omega
  | some y =>
    unfold lastS
    rw [List.getLastD_eq_getLast?, hv]
    show ¬ x.1 ≤ y.1
    have := (List.pairwise_append.1 h.rise).2.2 y (List.mem_of_getLast? hv) x (by simp)
    omega
theorem GoodC.putAll : ∀ {us vs : List Ver}, GoodC (vs ++ us) → putAll vs us = (vs ++ us, 0)
  | [], vs, h => by simp [Ytphcakhhjjdpiaa.putAll]
  | x :: us, vs, h => by
    have h1 : GoodC (vs ++ [x]) := h.sub (by simp)
    unfold Ytphcakhhjjdpiaa.putAll
    rw [if_pos h1.putE, GoodC.putAll (us := us) (vs := vs ++ [x]) (by simpa using h)]
    simp

end Go.Proofs.Ytphcakhhjjdpiaa
