/-
  The contracts of the sort's functions that choose a pivot: they answer places, and turn nothing but a count.
-/
import Derived.Test.YtdfmgfclcbeeiaaSMem
namespace Go.Proofs.Ytdfmgfclcbeeiaa
open Go.RowKit Go.Sort
set_option linter.unusedSimpArgs false
set_option linter.unusedVariables false

/-- a row, and a count in a new block -/
structure Sw (w0 w : World) (blk off : Nat) (d : Array Int) (g s : Nat) : Prop where
  ro : Ro w0 w blk off d
  cell : w.heap[g]? = some (.cells #[.int .i64 (s : Int)] 3 (0, 0))
  new : w0.heap.size ≤ g
theorem Sw.drewN {w0 w : World} {blk off : Nat} {d : Array Int} {g s : Nat} (h : Sw w0 w blk off d g s) (q : Nat) : Sw w0 (w.drewN q) blk off d g s := ⟨h.ro.drewN q, h.cell, h.new⟩
theorem Sw.inc {w0 w : World} {blk off : Nat} {d : Array Int} {g s : Nat} (h : Sw w0 w blk off d g s) (t : Nat) : Sw w0 (w.setCell ⟨g, 0, none⟩ (.int .i64 (t : Int))) blk off d g t := by
  refine ⟨h.ro.set h.new _, ?_, h.new⟩
  have hg := lt_of_block h.cell
  have hc := h.cell
  simp [World.setCell, Array.getElem?_modify, hc]
theorem one_cell {w : World} {g : Nat} {v : Value} (h : w.heap[g]? = some (.cells #[v] 3 (0, 0))) : w.cell? ⟨g, 0, none⟩ = some v ∧ w.frozen? ⟨g, 0, none⟩ = false := by
  constructor <;> simp [World.cell?, World.frozen?, h]

section
variable (w0 w : World) (blk off cap g s : Nat) (d : Array Int)

set_option maxHeartbeats 1000000 in
theorem order2_any (a b : Nat) (h : Sw w0 w blk off d g s) (ha : a < d.size) (hb : b < d.size) (hsz : d.size < 4611686018427387904) (hs : s ≤ 1000) :
    Calls Try.prog 65 #[.slice (some ⟨blk, off, none⟩) d.size cap, .int .i64 a, .int .i64 b, .pointer (some ⟨g, 0, none⟩)] w fun e w' => ∃ x y s', e = .returned (.tuple #[.int .i64 (x : Nat), .int .i64 (y : Nat)]) ∧ ((x = a ∧ y = b) ∨ (x = b ∧ y = a)) ∧ Sw w0 w' blk off d g s' ∧ s' ≤ s + 1 := by
  obtain ⟨G, hG, hcw, hfw⟩ := h.ro.fam
  obtain ⟨hc, hf⟩ := one_cell h.cell
  have H := Lib.hid h
  clear h hG
  go_enter Try.func65, Try.ntmps65
  go_wp2_with fail
  go_quiet (first | (go_at_call 54; refine Calls.quiet_of_same (less_any _ _ _)))
  go_wp2
  · go_ret2
    exact ⟨b, a, s + 1, rfl, .inr ⟨rfl, rfl⟩, by have := (H.out.drewN nq).inc (s + 1); simpa using this, Nat.le_refl _⟩
  · go_ret2
    exact ⟨a, b, s, rfl, .inl ⟨rfl, rfl⟩, H.out.drewN nq, by omega⟩

set_option maxHeartbeats 1000000 in
theorem median_any (a b c : Nat) (h : Sw w0 w blk off d g s) (ha : a < d.size) (hb : b < d.size) (hc : c < d.size) (hsz : d.size < 4611686018427387904) (hs : s ≤ 900) :
    Calls Try.prog 63 #[.slice (some ⟨blk, off, none⟩) d.size cap, .int .i64 a, .int .i64 b, .int .i64 c, .pointer (some ⟨g, 0, none⟩)] w fun e w' => ∃ x s', e = .returned (.int .i64 (x : Nat)) ∧ (x = a ∨ x = b ∨ x = c) ∧ Sw w0 w' blk off d g s' ∧ s' ≤ s + 3 := by
  go_enter Try.func63, Try.ntmps63
  go_wp2_with fail
  refine (order2_any w0 w blk off cap g s d a b h ha hb hsz (by omega)).mono ?_
  rintro e w1 ⟨x1, y1, s1, rfl, h1, hs1, hl1⟩
  go_wp2_with fail
  refine (order2_any w0 w1 blk off cap g s1 d y1 c hs1 (by omega) hc hsz (by omega)).mono ?_
  rintro e w2 ⟨x2, y2, s2, rfl, h2, hs2, hl2⟩
  go_wp2_with fail
  refine (order2_any w0 w2 blk off cap g s2 d x1 x2 hs2 (by omega) (by omega) hsz (by omega)).mono ?_
  rintro e w3 ⟨x3, y3, s3, rfl, h3, hs3, hl3⟩
  go_wp2_with fail
  go_ret
  exact ⟨y3, s3, rfl, by omega, hs3, by omega⟩

set_option maxHeartbeats 1000000 in
theorem medianAdj_any (a : Nat) (h : Sw w0 w blk off d g s) (ha : 1 ≤ a) (hb : a + 1 < d.size) (hsz : d.size < 4611686018427387904) (hs : s ≤ 900) :
    Calls Try.prog 62 #[.slice (some ⟨blk, off, none⟩) d.size cap, .int .i64 a, .pointer (some ⟨g, 0, none⟩)] w fun e w' => ∃ x s', e = .returned (.int .i64 (x : Nat)) ∧ (x = a - 1 ∨ x = a ∨ x = a + 1) ∧ Sw w0 w' blk off d g s' ∧ s' ≤ s + 3 := by
  have e1 : (a : Int) - 1 = ((a - 1 : Nat) : Int) := by omega
  have e2 : (a : Int) + 1 = ((a + 1 : Nat) : Int) := by omega
  have HM := Lib.hid (median_any w0 w blk off cap g s d (a - 1) a (a + 1) h (by omega) (by omega) hb hsz hs)
  rw [← e1, ← e2] at HM
  clear e1 e2
  go_enter Try.func62, Try.ntmps62
  go_wp2_with fail
  refine (HM.out).mono ?_
  rintro e w1 ⟨x1, s1, rfl, h1, hs1, hl1⟩
  go_wp2_with fail
  go_ret
  exact ⟨x1, s1, rfl, h1, hs1, hl1⟩

set_option maxHeartbeats 2000000 in
theorem choosePivot_any (a b : Nat) (h : Ro w0 w blk off d) (hab : a < b) (hb : b ≤ d.size) (hsz : d.size < 4611686018427387904) :
    Calls Try.prog 51 #[.slice (some ⟨blk, off, none⟩) d.size cap, .int .i64 a, .int .i64 b] w fun e w' => ∃ (p k : Nat), e = .returned (.tuple #[.int .i64 p, .int .i64 k]) ∧ a ≤ p ∧ p < b ∧ k ≤ 2 ∧ Ro w0 w' blk off d := by
  obtain ⟨l, hl⟩ : ∃ l, l = b - a := ⟨_, rfl⟩
  obtain ⟨q, hq⟩ : ∃ q, q = l / 4 := ⟨_, rfl⟩
  obtain ⟨i, hi⟩ : ∃ i, i = a + q := ⟨_, rfl⟩
  obtain ⟨j, hj⟩ : ∃ j, j = a + q * 2 := ⟨_, rfl⟩
  obtain ⟨k, hk⟩ : ∃ k, k = a + q * 3 := ⟨_, rfl⟩
  have e1 : (b : Int) - (a : Int) = (l : Int) := by omega
  have e2 : (l : Int).tdiv 4 = (q : Int) := by rw [Int.tdiv_eq_ediv_of_nonneg (by omega)]; omega
  have e2' : (l : Int) / 4 = (q : Int) := by omega
  have e3 : (a : Int) + (q : Int) = (i : Int) := by omega
  have e4 : (a : Int) + (q : Int) * 2 = (j : Int) := by omega
  have e5 : (a : Int) + (q : Int) * 3 = (k : Int) := by omega
  have hl62 : l < 4611686018427387904 := by omega
  have HQ : Hid (q = l / 4 ∧ i = a + q ∧ j = a + q * 2 ∧ k = a + q * 3 ∧ l = b - a) := ⟨hq, hi, hj, hk, hl⟩
  have HAB : Hid (a < b ∧ b ≤ d.size) := ⟨hab, hb⟩
  obtain ⟨w1, hw1⟩ : ∃ x, x = w.alloc (.cells #[.int .i64 0] 3) := ⟨_, rfl⟩
  have hS : Sw w0 w1 blk off d w.heap.size 0 := ⟨by rw [hw1]; exact h.alloc _, by rw [hw1]; exact heap_alloc_new w _, h.size⟩
  obtain ⟨g, hg⟩ : ∃ g, g = w.heap.size := ⟨_, rfl⟩
  rw [← hg] at hS
  have HS := Lib.hid hS
  have HW1 := Lib.hid hw1
  have HG := Lib.hid hg
  have hi8 : i ≤ 9223372036854775807 ∧ j ≤ 9223372036854775807 ∧ k ≤ 9223372036854775807 ∧ a ≤ 9223372036854775807 ∧ b ≤ 9223372036854775807 ∧ q ≤ 2305843009213693952 := by omega
  obtain ⟨h81, h82, h83, h84, h85, h86⟩ := hi8
  have FIN : Hid (∀ (W : World) (x s' : Nat), Sw w0 W blk off d g s' → a ≤ x → x < b → ∀ k : Nat, k ≤ 2 → ∃ (p k' : Nat), (Ending.returned (.tuple #[.int .i64 (x : Int), .int .i64 (k : Int)]) : Ending) = .returned (.tuple #[.int .i64 (p : Int), .int .i64 (k' : Int)]) ∧ a ≤ p ∧ p < b ∧ k' ≤ 2 ∧ Ro w0 W blk off d) := fun W x s' hs h1 h2 k hk => ⟨x, k, rfl, h1, h2, hk, hs.ro⟩
  clear hq hi hj hk hl hS hw1 hg h hab hb
  go_enter Try.func51, Try.ntmps51
  by_cases h8 : (8 : Int) ≤ (l : Int)
  · by_cases h50 : (50 : Int) ≤ (l : Int)
    · go_wp2_with fail
      rw [← HW1.out, ← HG.out]
      have r1 := HQ.out
      have r2 := HAB.out
      refine (medianAdj_any w0 w1 blk off cap g 0 d i HS.out (by omega) (by omega) hsz (by omega)).mono ?_
      rintro e w2 ⟨x2, s2, rfl, hx2, hs2, hl2⟩
      have HX2 := Lib.hid hx2
      have HS2 := Lib.hid hs2
      clear hx2 hs2 r1 r2
      go_wp2_with fail
      have r1 := HQ.out
      have r2 := HAB.out
      refine (medianAdj_any w0 w2 blk off cap g s2 d j HS2.out (by omega) (by omega) hsz (by omega)).mono ?_
      rintro e w3 ⟨x3, s3, rfl, hx3, hs3, hl3⟩
      have HX3 := Lib.hid hx3
      have HS3 := Lib.hid hs3
      clear hx3 hs3 r1 r2
      go_wp2_with fail
      have r1 := HQ.out
      have r2 := HAB.out
      refine (medianAdj_any w0 w3 blk off cap g s3 d k HS3.out (by omega) (by omega) hsz (by omega)).mono ?_
      rintro e w4 ⟨x4, s4, rfl, hx4, hs4, hl4⟩
      have HX4 := Lib.hid hx4
      have HS4 := Lib.hid hs4
      clear hx4 hs4 r1 r2
      go_wp2_with fail
      have r1 := HQ.out
      have r2 := HAB.out
      have r3 := HX2.out
      have r4 := HX3.out
      have r5 := HX4.out
      refine (median_any w0 w4 blk off cap g s4 d x2 x3 x4 HS4.out (by omega) (by omega) (by omega) hsz (by omega)).mono ?_
      rintro e w5 ⟨x5, s5, rfl, hx5, hs5, hl5⟩
      have hx5' : a ≤ x5 ∧ x5 < b := by omega
      have HS5 := Lib.hid hs5
      obtain ⟨hc, _⟩ := one_cell hs5.cell
      clear hs5 hx5 r1 r2 r3 r4 r5
      go_wp2_with fail
      all_goals go_ret2
      · exact FIN.out w5 x5 s5 HS5.out hx5'.1 hx5'.2 1 (by omega)
      · exact FIN.out w5 x5 s5 HS5.out hx5'.1 hx5'.2 2 (by omega)
      · exact FIN.out w5 x5 s5 HS5.out hx5'.1 hx5'.2 0 (by omega)
    · go_wp2_with fail
      rw [← HW1.out, ← HG.out]
      have r1 := HQ.out
      have r2 := HAB.out
      refine (median_any w0 w1 blk off cap g 0 d i j k HS.out (by omega) (by omega) (by omega) hsz (by omega)).mono ?_
      rintro e w5 ⟨x5, s5, rfl, hx5, hs5, hl5⟩
      have hx5' : a ≤ x5 ∧ x5 < b := by omega
      have HS5 := Lib.hid hs5
      obtain ⟨hc, _⟩ := one_cell hs5.cell
      clear hs5 hx5 r1 r2
      go_wp2_with fail
      all_goals go_ret2
      · exact FIN.out w5 x5 s5 HS5.out hx5'.1 hx5'.2 1 (by omega)
      · exact FIN.out w5 x5 s5 HS5.out hx5'.1 hx5'.2 0 (by omega)
  · go_wp2_with fail
    go_ret2
    have r1 := HQ.out
    have r2 := HAB.out
    rw [← HW1.out]
    exact FIN.out w1 j 0 HS.out (by omega) (by omega) 1 (by omega)
end

end Go.Proofs.Ytdfmgfclcbeeiaa
