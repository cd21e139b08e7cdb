/-
  A letter is appended: what it leaves of the net.
-/
import Derived.Test.YtalifbajihkenaaNDrop
namespace Go.Proofs.Ytalifbajihkenaa
open Go.RowKit Go.Maps
set_option linter.unusedSimpArgs false
set_option linter.unusedVariables false

section
variable {w w' : World} {B b mb n : Nat} {nodes x y i : Int} {v : Value} {ls : List L3} {sp : Int → Int → Bool}
theorem Nt.apart (h : Nt w B b mb n nodes v ls sp) : v.ownBlock ≠ some b ∧ v.ownBlock ≠ some mb ∧ b ≠ mb := by
  refine ⟨fun e => ?_, fun e => ?_, fun e => ?_⟩
  · obtain ⟨cur, hc⟩ := h.row b e
    rw [h.blk] at hc
    injection hc with hc
    injection hc with _ hc
    cases hc
  · obtain ⟨cur, hc⟩ := h.row mb e
    obtain ⟨es, cl, hm⟩ := h.map.isMap
    rw [hm] at hc
    cases hc
  · obtain ⟨es, cl, hm⟩ := h.map.isMap
    rw [← e, h.blk] at hm
    cases hm

theorem Nt.append (h : Nt w B b mb n nodes v ls sp) {cs : List Value} (ho : w.ownsRow B 37 3 v ls.length cs) {w6 w7 w9 : World} {A5 : Option Addr} {c5 : Nat} {p : List Int} {f t : Int} (hap : apartB nodes f t = true)
    (hb6 : Below w.heap.size w w6) (hk5 : p.length ≤ c5) (hr : Row w6 A5 (bs p)) (ha : ∀ a, A5 = some a → w.heap.size ≤ a.block ∧ a.block < w6.heap.size) {A7 : Option Addr} {c7 : Nat}
    (ho7 : w7.ownsRow B 37 3 (.slice A7 (ls.length + 1) c7) (ls.length + 1) (cs ++ [.int .i64 f, .int .i64 t, .slice A5 p.length c5])) (hg7 : w6.grownBy w7 v.ownBlock)
    (hv7 : (Value.slice A7 (ls.length + 1) c7).ownBlock = v.ownBlock ∨ (Value.slice A7 (ls.length + 1) c7).ownBlock = some w6.heap.size) (h9 : w9 = w7.setCell ⟨b, 1, none⟩ (.slice A7 (ls.length + 1) c7)) :
    Nt w9 B b mb n nodes (.slice A7 (ls.length + 1) c7) (ls ++ [(f, t, p)]) sp ∧ w9.ownsRow B 37 3 (.slice A7 (ls.length + 1) c7) (ls.length + 1) (cs ++ [.int .i64 f, .int .i64 t, .slice A5 p.length c5]) ∧ Did B b mb v w w9 := by
  obtain ⟨n1, n2, n3⟩ := h.apart
  have hbl := lt_of_block h.blk
  have hml := h.map.lt
  have hB : B ≤ w.heap.size := Nat.le_trans h.low.1 (Nat.le_of_lt hbl)
  have hv9 : (Value.slice A7 (ls.length + 1) c7).ownBlock ≠ some b ∧ (Value.slice A7 (ls.length + 1) c7).ownBlock ≠ some mb := by
    have := hb6.size
    rcases hv7 with e | e <;> rw [e]
    · exact ⟨n1, n2⟩
    · exact ⟨fun q => by injection q with q; omega, fun q => by injection q with q; omega⟩
  have hsz : w9.heap.size = w7.heap.size := by rw [h9]; simp only [set_size]
  have hoth : ∀ g, g ≠ b → w9.heap[g]? = w7.heap[g]? := fun g hg => by rw [h9, Below.heap_setCell _ _ _ _ hg]
  have hkeep : ∀ g, g < w.heap.size → v.ownBlock ≠ some g → w7.heap[g]? = w.heap[g]? := fun g hg hn => (hg7.block g (Nat.lt_of_lt_of_le hg hb6.size) (Ne.symm hn)).trans (hb6.block g hg)
  have hsame : ∀ g, g < w.heap.size → ¬ NB b mb v g → w9.heap[g]? = w.heap[g]? := fun g hg hn => (hoth g fun e => hn (.inl e)).trans (hkeep g hg fun e => hn (.inr (.inr e)))
  have hb7 : w7.heap[b]? = some (.cells #[.int .i64 nodes, v, .map (some mb)] 67 (0, 0)) := (hkeep b hbl n1).trans h.blk
  have hown9 : w9.ownsRow B 37 3 (.slice A7 (ls.length + 1) c7) (ls.length + 1) (cs ++ [.int .i64 f, .int .i64 t, .slice A5 p.length c5]) := by
    refine own_kept (row := some b) ho7 ⟨by rw [h9]; rfl, by rw [h9]; rfl, by rw [h9]; rfl, by rw [hsz]; exact Nat.le_refl _, fun g _ hg => hoth g fun e => hg (by rw [e])⟩ fun g hg e => ?_
    rw [← e] at hg
    exact hv9.1 hg
  have hcl : cs.length = ls.length * 3 := ho.1
  -- the row
  rcases ho7.2 with ⟨e0, e1⟩ | ⟨g, cap, cur, ev, hBg, hh, hnc, hcm, hcs, htake⟩
  · omega
  have hgb : g ≠ b := fun e => hv9.1 (by rw [ev, e]; rfl)
  have hgm : g ≠ mb := fun e => hv9.2 (by rw [ev, e]; rfl)
  have hh9 : w9.heap[g]? = some (.cells cur 37 (0, 0)) := (hoth g hgb).trans hh
  have hcur : ∀ q, q < (ls.length + 1) * 3 → cur[q]? = (cs ++ [.int .i64 f, .int .i64 t, .slice A5 p.length c5])[q]? := fun q hq => by
    rw [← htake, List.getElem?_take_of_lt hq, Array.getElem?_toList]
  have hdid : Did B b mb v w w9 := by
    refine ⟨⟨?_, ?_, ?_, by rw [hsz]; exact Nat.le_trans hb6.size hg7.size, fun q hq => ?_⟩, hsame⟩
    · rw [h9]; exact hg7.os.trans hb6.os
    · rw [h9]; exact hg7.tape.trans hb6.tape
    · rw [h9]; exact hg7.output.trans hb6.output
    · exact hsame q (by omega) fun e => by
        rcases e with e | e | e
        · have := h.low.1; omega
        · have := h.low.2.1; omega
        · have := h.low.2.2 q e; omega
  refine ⟨{ blk := ?_, map := h.map.kept ((hoth mb (Ne.symm n3)).trans (hkeep mb hml n2)), form := ?_, row := fun q hq => ?_, low := ⟨h.low.1, h.low.2.1, fun q hq => ?_⟩, ok := ⟨h.ok.1, fun l hl => ?_⟩ }, hown9, hdid⟩
  · rw [h9]; exact three_set1 hb7
  · injection ev with ev1 ev2 ev3
    subst ev1 ev3
    refine ⟨some ⟨g, 0, none⟩, c7, by simp, by simpa using hnc, hcm, lts_of hh9 fun j hj => ?_⟩
    rw [Nat.zero_add]
    have hj' : j < ls.length + 1 := by simpa using hj
    rcases Nat.lt_or_ge j ls.length with hjl | hjl
    · rw [List.getElem_append_left hjl]
      obtain ⟨A, c, e, _, _, hL⟩ := h.form
      obtain ⟨ad, ea, lt, c0, c1, Y, cy, c2, k1, k2, k3⟩ := hL j hjl
      subst ea
      rcases ho.2 with ⟨e0, e1⟩ | ⟨g0, cap0, cur0, ev0, _, hh0, _⟩
      · omega
      rw [e] at ev0
      injection ev0 with ev0
      injection ev0 with ev0
      subst ev0
      have hcell : ∀ q u, q < ls.length * 3 → w.cell? ((⟨g0, 0, none⟩ : Addr).add q) = some u → cur[q]? = some u := fun q u hq hu => by
        rw [hcur q (by omega), List.getElem?_append_left (by omega)]
        have hq' : q < cs.length := by omega
        have := ho.cells (g := g0) (by rw [e]; rfl) q cs[q] (List.getElem?_eq_getElem hq')
        rw [List.getElem?_eq_getElem hq', ← this, hu]
      rw [lit_add] at c1 c2
      refine ⟨hcell _ _ (by omega) c0, hcell _ _ (by omega) (by rw [lit_add]; rw [Nat.add_assoc] at c1; exact c1), Y, cy, hcell _ _ (by omega) (by rw [lit_add]; rw [Nat.add_assoc] at c2; exact c2), k1, k2.kept hdid.below.size fun a ea hl => hsame _ hl (k3 a ea).1, fun a ea => ⟨fun q => ?_, Nat.lt_of_lt_of_le (k3 a ea).2 hdid.below.size⟩⟩
      rcases q with q | q | q
      · exact (k3 a ea).1 (.inl q)
      · exact (k3 a ea).1 (.inr (.inl q))
      · rcases hv7 with q' | q'
        · exact (k3 a ea).1 (.inr (.inr (by rw [← q']; exact q)))
        · rw [q'] at q
          injection q with q
          have := (k3 a ea).2
          have := hb6.size
          omega
    · obtain rfl : j = ls.length := by omega
      rw [List.getElem_append_right (Nat.le_refl _)]
      simp only [Nat.sub_self, List.getElem_cons_zero]
      refine ⟨?_, ?_, A5, c5, ?_, hk5, hr.kept (by rw [hsz]; exact hg7.size) fun a ea hl => (hoth _ ?_).trans (hg7.block _ hl ?_), fun a ea => ⟨fun q => ?_, by rw [hsz]; exact Nat.lt_of_lt_of_le (ha a ea).2 hg7.size⟩⟩
      · rw [hcur _ (by omega), List.getElem?_append_right (by omega), hcl]; simp
      · rw [hcur _ (by omega), List.getElem?_append_right (by omega), hcl]; simp [show ls.length * 3 + 1 - ls.length * 3 = 1 by omega]
      · rw [hcur _ (by omega), List.getElem?_append_right (by omega), hcl]; simp [show ls.length * 3 + 2 - ls.length * 3 = 2 by omega]
      · have := (ha a ea).1; omega
      · intro q
        obtain ⟨cur', hc'⟩ := h.row _ q.symm
        have := lt_of_block hc'
        have := (ha a ea).1
        omega
      · have := ha a ea
        rcases q with q | q | q
        · omega
        · omega
        · rcases hv7 with q' | q'
          · rw [q'] at q
            obtain ⟨cur', hc'⟩ := h.row _ q
            have := lt_of_block hc'
            omega
          · rw [q'] at q
            injection q with q
            omega
  · rw [ev] at hq
    injection hq with hq
    subst hq
    exact ⟨cur, hh9⟩
  · rw [ev] at hq
    injection hq with hq
    subst hq
    exact hBg
  · rcases List.mem_append.1 hl with hl | hl
    · exact h.ok.2 l hl
    · rw [List.mem_singleton.1 hl]; exact hap
end

end Go.Proofs.Ytalifbajihkenaa
