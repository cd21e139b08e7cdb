/-
  The contract of remove: a letter is taken out, those ahead of it move up.
-/
import Derived.Test.YtalifbajihkenaaNNew
namespace Go.Proofs.Ytalifbajihkenaa
open Go.RowKit Go.Maps
set_option linter.unusedSimpArgs false
set_option linter.unusedVariables false

theorem run_copy37 (w : World) (ty : TypeId) (g o dLen dCap : Nat) (sa : Addr) (sLen sCap : Nat) (cur : Array Value) (cs : List Value)
    (hg : w.heap[g]? = some (.cells cur 37 (0, 0))) (hn : cs.length = Nat.min sLen dLen * 3)
    (hsrc : ∀ j v, cs[j]? = some v → w.cell? (sa.add j) = some v) (hfit : o + cs.length ≤ cur.size) (h1 : ∀ v ∈ cs, v.oneCell' = true) :
    (Builtin.copy_ #[48, 48] ty #[.slice (some ⟨g, o, none⟩) dLen dCap, .slice (some sa) sLen sCap]).run Try.prog w =
      .ok (goInt (Nat.min sLen dLen)) (w.setRow g (cur.toList.take o ++ cs ++ cur.toList.drop (o + cs.length)).toArray) := by
  obtain ⟨i0, hi, hz0, hz1, hz2⟩ := info_parts Try.info37x
  have hl := run_loadCells_list (P := Try.prog) w sa cs hsrc
  have hst := run_storeCells_at Try.prog g o 37 cs 0 cur w hg (by simpa using hfit) h1
  rw [hn] at hl
  simp at hst
  simp [Builtin.copy_, run_underlying Try.underlying48, Builtin.lenOf, Builtin.firstCells, sizeOf, typeInfo, hi, hz1, hl, hst]

/-- the cells of the first i are moved one up -/
def upC (cur : Array Value) (o i : Nat) : Array Value := (cur.toList.take (o + 3) ++ (cur.toList.drop o).take (i * 3) ++ cur.toList.drop (o + 3 + i * 3)).toArray
theorem upC_size (cur : Array Value) (o i : Nat) (h : o + 3 + i * 3 ≤ cur.size) : (upC cur o i).size = cur.size := by
  unfold upC
  simp
  omega
theorem upC_lt (cur : Array Value) (o i q : Nat) (h : o + 3 + i * 3 ≤ cur.size) (hq : q < i * 3) : (upC cur o i)[o + 3 + q]? = cur[o + q]? := by
  unfold upC
  simp only [List.getElem?_toArray]
  rw [List.getElem?_append_left (by simp; omega), List.getElem?_append_right (by simp; omega), List.getElem?_take_of_lt (by simp; omega), List.getElem?_drop]
  rw [Array.getElem?_toList]
  congr 1
  simp
  omega
theorem upC_ge (cur : Array Value) (o i q : Nat) (h : o + 3 + i * 3 ≤ cur.size) (hq : i * 3 ≤ q) : (upC cur o i)[o + 3 + q]? = cur[o + 3 + q]? := by
  unfold upC
  simp only [List.getElem?_toArray]
  rw [List.getElem?_append_right (by simp; omega), List.getElem?_drop, Array.getElem?_toList]
  congr 1
  simp
  omega
theorem upC_zero (cur : Array Value) (o o' : Nat) : (cur.toList.take o' ++ ([] : List Value) ++ cur.toList.drop (o' + ([] : List Value).length)).toArray = upC cur o 0 := by
  unfold upC
  simp

theorem set_blk {w : World} {g k : Nat} {cur : Array Value} {t : TypeId} {fr : Nat × Nat} {a : Value} (h : w.heap[g]? = some (.cells cur t fr)) : (w.setCell ⟨g, k, none⟩ a).heap[g]? = some (.cells (cur.setIfInBounds k a) t fr) := by simp [World.setCell, Array.getElem?_modify, h]

/-- the row has room for what its capacity says -/
def Fit (w : World) (v : Value) : Prop := ∀ ad n c, v = .slice (some ad) n c → ad.spot = none ∧ ∃ cur, w.heap[ad.block]? = some (.cells cur 37 (0, 0)) ∧ ad.off + c * 3 ≤ cur.size

/-- at p lies the letter l -/
def At3 (X : Nat → Prop) (w : World) (cur : Array Value) (p : Nat) (l : L3) : Prop :=
  cur[p]? = some (.int .i64 l.1) ∧ cur[p + 1]? = some (.int .i64 l.2.1) ∧ ∃ (Y : Option Addr) (cy : Nat), cur[p + 2]? = some (.slice Y l.2.2.length cy) ∧ l.2.2.length ≤ cy ∧ Row w Y (bs l.2.2) ∧ ∀ a, Y = some a → ¬ X a.block ∧ a.block < w.heap.size
theorem lit_add (g o j : Nat) : (⟨g, o, none⟩ : Addr).add j = ⟨g, o + j, none⟩ := by
  unfold Addr.add
  split
  · subst_vars; rfl
  · rfl
theorem lts_of {X : Nat → Prop} {w : World} {g o : Nat} {cur : Array Value} {ls : List L3} (hg : w.heap[g]? = some (.cells cur 37 (0, 0))) (h : ∀ j (hj : j < ls.length), At3 X w cur (o + j * 3) (ls[j]'hj)) : Lts X w (some ⟨g, o, none⟩) ls := fun j hj => by
  obtain ⟨c0, c1, Y, cy, c2, h3, h4, h5⟩ := h j hj
  refine ⟨_, rfl, lt_of_block hg, ?_, ?_, Y, cy, ?_, h3, h4, h5⟩
  · rw [lit_add]; simpa [World.cell?, hg] using c0
  · rw [lit_add]; simpa [World.cell?, hg] using c1
  · rw [lit_add]; simpa [World.cell?, hg] using c2

theorem at3_of {X : Nat → Prop} {w : World} {g o : Nat} {cur : Array Value} {ls : List L3} (hg : w.heap[g]? = some (.cells cur 37 (0, 0))) (h : Lts X w (some ⟨g, o, none⟩) ls) : ∀ j (hj : j < ls.length), At3 X w cur (o + j * 3) (ls[j]'hj) := fun j hj => by
  obtain ⟨ad', e', _, c0, c1, Y, cy, c2, h5, h6, h7⟩ := h j hj
  injection e' with e'
  subst e'
  rw [lit_add] at c0 c1 c2
  refine ⟨by simpa [World.cell?, hg] using c0, by simpa [World.cell?, hg] using c1, Y, cy, by simpa [World.cell?, hg] using c2, h5, h6, h7⟩

/-- a row of letters of the net's own, at an offset -/
def OwnAt (w : World) (B : Nat) (v : Value) (n : Nat) (cs : List Value) : Prop :=
  cs.length = n * 3 ∧ ((v = .slice none 0 0 ∧ n = 0) ∨
    ∃ g o cap cur, v = .slice (some ⟨g, o, none⟩) n cap ∧ B ≤ g ∧ w.heap[g]? = some (.cells cur 37 (0, 0)) ∧ n ≤ cap ∧ cap ≤ maxLen ∧ o + cap * 3 ≤ cur.size ∧ (cur.toList.drop o).take (n * 3) = cs)
theorem OwnAt.of_own {w : World} {B n : Nat} {v : Value} {cs : List Value} (h : w.ownsRow B 37 3 v n cs) : OwnAt w B v n cs := by
  refine ⟨h.1, ?_⟩
  rcases h.2 with e | ⟨g, cap, cur, e, h1, h2, h3, h4, h5, h6⟩
  · exact .inl e
  · exact .inr ⟨g, 0, cap, cur, e, h1, h2, h3, h4, by omega, by simpa using h6⟩
theorem OwnAt.cell {w : World} {B n g o cap q : Nat} {cs : List Value} (h : OwnAt w B (.slice (some ⟨g, o, none⟩) n cap) n cs) (hq : q < n * 3) : w.cell? ⟨g, o + q, none⟩ = cs[q]? := by
  rcases h.2 with ⟨e, _⟩ | ⟨g', o', cap', cur, e, _, hh, _, _, _, htk⟩
  · cases e
  · injection e with e _ _
    injection e with e
    injection e with e1 e2
    subst e1 e2
    rw [← htk, List.getElem?_take_of_lt hq, List.getElem?_drop, Array.getElem?_toList]
    simp [World.cell?, hh]
theorem OwnAt.keep {w w' : World} {B n : Nat} {v : Value} {cs : List Value} (h : OwnAt w B v n cs) (hk : ∀ g, v.ownBlock = some g → w'.heap[g]? = w.heap[g]?) : OwnAt w' B v n cs := by
  refine ⟨h.1, ?_⟩
  rcases h.2 with e | ⟨g, o, cap, cur, e, h1, h2, r⟩
  · exact .inl e
  · exact .inr ⟨g, o, cap, cur, e, h1, (hk g (by rw [e]; rfl)).trans h2, r⟩
/-- the cells without the k-th letter's -/
def cut3 (cs : List Value) (k : Nat) : List Value := cs.take (k * 3) ++ cs.drop (k * 3 + 3)

/-- the bodies lie in blocks below T -/
def Low (w : World) (v : Value) (ls : List L3) (T : Nat) : Prop := ∀ A c, v = .slice A ls.length c → Lts (fun g => T ≤ g) w A ls

section
variable {w w' : World} {B b mb n : Nat} {nodes x y i : Int} {v : Value} {ls : List L3} {sp : Int → Int → Bool}
theorem Nt.low' (h : Nt w B b mb n nodes v ls sp) : Low w v ls w.heap.size := fun A c e => by
  obtain ⟨A', c', e', _, _, h3⟩ := h.form
  rw [e] at e'
  injection e' with e1
  subst e1
  intro j hj
  obtain ⟨ad, ea, lt, c0, c1, Y, cy, c2, k1, k2, k3⟩ := h3 j hj
  exact ⟨ad, ea, lt, c0, c1, Y, cy, c2, k1, k2, fun a ea => ⟨by have := (k3 a ea).2; omega, (k3 a ea).2⟩⟩
theorem Nt.block (h : Nt w B b mb n nodes v ls sp) (hk : 0 < ls.length) : ∃ g o c cur, v = .slice (some ⟨g, o, none⟩) ls.length c ∧ ls.length ≤ c ∧ c ≤ maxLen ∧ w.heap[g]? = some (.cells cur 37 (0, 0)) ∧ B ≤ g ∧ g ≠ b ∧ g ≠ mb ∧ o + ls.length * 3 ≤ cur.size ∧ ∀ j (hj : j < ls.length), At3 (NB b mb v) w cur (o + j * 3) (ls[j]'hj) := by
  obtain ⟨A, c, e, h1, h2, h3⟩ := h.form
  obtain ⟨ad, ea, _, q0, _⟩ := h3 0 hk
  subst ea
  obtain ⟨g, o, spt⟩ := ad
  obtain ⟨cur, hg⟩ := h.row g (by rw [e]; rfl)
  obtain rfl : spt = none := by
    rw [Nat.zero_mul] at q0
    have q0 : w.cell? ⟨g, o, spt⟩ = some (.int .i64 (ls[0]'hk).1) := q0
    cases spt with
    | none => rfl
    | some z => simp [World.cell?, hg] at q0
  have hat : ∀ j (hj : j < ls.length), At3 (NB b mb v) w cur (o + j * 3) (ls[j]'hj) := fun j hj => by
    obtain ⟨ad', e', _, c0, c1, Y, cy, c2, h5, h6, h7⟩ := h3 j hj
    injection e' with e'
    subst e'
    rw [lit_add] at c0 c1 c2
    refine ⟨by simpa [World.cell?, hg] using c0, by simpa [World.cell?, hg] using c1, Y, cy, by simpa [World.cell?, hg] using c2, h5, h6, h7⟩
  refine ⟨g, o, c, cur, e, h1, h2, hg, h.low.2.2 g (by rw [e]; rfl), fun q => ?_, fun q => ?_, ?_, hat⟩
  · rw [q, h.blk] at hg
    injection hg with hg
    injection hg with _ hg
    cases hg
  · obtain ⟨es, cl, hm⟩ := h.map.isMap
    rw [q, hm] at hg
    cases hg
  · obtain ⟨_, _, Y, cy, k2, _⟩ := hat (ls.length - 1) (by omega)
    have := (Array.getElem?_eq_some_iff.1 k2).1
    omega
end

theorem upC_low (cur : Array Value) (o i q : Nat) (h : o + 3 + i * 3 ≤ cur.size) (hq : q < o + 3) : (upC cur o i)[q]? = cur[q]? := by
  unfold upC
  simp only [List.getElem?_toArray]
  rw [List.getElem?_append_left (by simp; omega), List.getElem?_append_left (by simp; omega), List.getElem?_take_of_lt (by omega), Array.getElem?_toList]

section
variable {w w' : World} {B b mb n : Nat} {nodes x y i : Int} {v : Value} {ls : List L3} {sp : Int → Int → Bool}
set_option maxRecDepth 100000 in
set_option maxHeartbeats 2000000 in
theorem remove_any (h : Nt w B b mb n nodes v ls sp) {k : Nat} (hk : k < ls.length) (hbl : ∀ l ∈ ls, l.2.2.length ≤ 70368744177664) : Calls Try.prog 30 #[.pointer (some ⟨b, 0, none⟩), .int .i64 k] w fun e w' => e = .returned (.tuple #[]) ∧ ∃ v', v'.ownBlock = v.ownBlock ∧ Nt w' B b mb n nodes v' (ls.eraseIdx k) sp ∧ Did B b mb v w w' ∧ (Fit w v → Fit w' v') ∧ (∀ T, Low w v ls T → Low w' v' (ls.eraseIdx k) T) ∧ (∀ cs, OwnAt w B v ls.length cs → OwnAt w' B v' (ls.length - 1) (cut3 cs k)) := by
  obtain ⟨g, o, c, cur, rfl, hc, hcm, hg, hBg, hgb, hgm, hsz, hat⟩ := h.block (by omega)
  have hsz3 : o + 3 + k * 3 ≤ cur.size := by omega
  obtain ⟨w1, hw1⟩ : ∃ x, x = w.drew.setRow g (upC cur o k) := ⟨_, rfl⟩
  have hg1 : w1.heap[g]? = some (.cells (upC cur o k) 37 (0, 0)) := by rw [hw1]; exact setRow_heap w.drew g cur _ 37 _ hg
  have ho1 : ∀ q, q ≠ g → w1.heap[q]? = w.heap[q]? := fun q hq => by rw [hw1]; exact setRow_other w.drew g q _ hq
  have hs1 : w1.heap.size = w.heap.size := by rw [hw1]; simp
  have hone : ∀ u ∈ (cur.toList.drop o).take (k * 3), u.oneCell' = true := fun u hu => by
    obtain ⟨q, hq, rfl⟩ := List.getElem_of_mem hu
    have hq2 : q < k * 3 := by simp at hq; omega
    have e1 : ((cur.toList.drop o).take (k * 3))[q]? = cur[o + q]? := by rw [List.getElem?_take_of_lt hq2, List.getElem?_drop, Array.getElem?_toList]
    rw [List.getElem?_eq_getElem hq] at e1
    obtain ⟨a0, a1, Y, cy, a2, _⟩ := hat (q / 3) (by omega)
    have hd : q % 3 = 0 ∨ q % 3 = 1 ∨ q % 3 = 2 := by omega
    rcases hd with hd | hd | hd
    · rw [show o + q / 3 * 3 = o + q by omega, ← e1] at a0; injection a0 with a0; rw [a0]; rfl
    · rw [show o + q / 3 * 3 + 1 = o + q by omega, ← e1] at a1; injection a1 with a1; rw [a1]; rfl
    · rw [show o + q / 3 * 3 + 2 = o + q by omega, ← e1] at a2; injection a2 with a2; rw [a2]; rfl
  have HC1 : Hid (∀ ty c1 c2, (Builtin.copy_ #[48, 48] ty #[.slice (some ⟨g, o + 3, none⟩) k c1, .slice (some ⟨g, o, none⟩) k c2]).run Try.prog w.drew = .ok (goInt (k : Nat)) w1) := fun ty c1 c2 => by
    have hl : ((cur.toList.drop o).take (k * 3)).length = k * 3 := by simp; omega
    have := run_copy37 w.drew ty g (o + 3) k c1 ⟨g, o, none⟩ k c2 cur ((cur.toList.drop o).take (k * 3)) hg (by rw [hl]; simp) (fun j u hj => by
      have hj2 : j < k * 3 := by
        have := (List.getElem?_eq_some_iff.1 hj).1
        omega
      rw [List.getElem?_take_of_lt hj2, List.getElem?_drop, Array.getElem?_toList] at hj
      rw [lit_add]
      have hg' : w.drew.heap[g]? = some (.cells cur 37 (0, 0)) := hg
      simpa [World.cell?, hg'] using hj) (by rw [hl]; omega) hone
    rw [hl] at this
    simp only [Nat.min_self] at this
    rw [hw1]
    simpa [upC] using this
  have HC0 : Hid (k = 0 → ∀ ty c1 c2, (Builtin.copy_ #[48, 48] ty #[.slice (some ⟨g, o, none⟩) 0 c1, .slice (some ⟨g, o, none⟩) 0 c2]).run Try.prog w.drew = .ok (goInt (0 : Nat)) w1) := fun e ty c1 c2 => by
    have := run_copy37 w.drew ty g o 0 c1 ⟨g, o, none⟩ 0 c2 cur [] hg (by simp) (fun j u hj => by simp at hj) (by simp; omega) (fun u hu => by cases hu)
    subst e
    rw [upC_zero cur o o, ← hw1] at this
    simpa using this
  have n0 : 0 < ls.length := by omega
  obtain ⟨a0, a1, Y0, cy0, a2, _⟩ := hat 0 n0
  rw [Nat.zero_mul, Nat.add_zero] at a0 a1 a2
  have b0 : w1.cell? ⟨g, o, none⟩ = some (.int .i64 (ls[0]'n0).1) := by simpa [World.cell?, hg1] using (upC_low cur o k o hsz3 (by omega)).trans a0
  have b1 : w1.cell? ⟨g, o + 1, none⟩ = some (.int .i64 (ls[0]'n0).2.1) := by simpa [World.cell?, hg1] using (upC_low cur o k (o + 1) hsz3 (by omega)).trans a1
  have b2 : w1.cell? ⟨g, o + 2, none⟩ = some (.slice Y0 (ls[0]'n0).2.2.length cy0) := by simpa [World.cell?, hg1] using (upC_low cur o k (o + 2) hsz3 (by omega)).trans a2
  have p0 : w1.frozen? ⟨g, o, none⟩ = false := by simp [World.frozen?, hg1]
  have p1 : w1.frozen? ⟨g, o + 1, none⟩ = false := by simp [World.frozen?, hg1]
  have p2 : w1.frozen? ⟨g, o + 2, none⟩ = false := by simp [World.frozen?, hg1]
  have hbk : w1.heap[b]? = some (.cells #[.int .i64 nodes, .slice (some ⟨g, o, none⟩) ls.length c, .map (some mb)] 67 (0, 0)) := (ho1 b (by omega)).trans h.blk
  have hx0 : w.drew.cell? ⟨b, 1, none⟩ = some (.slice (some ⟨g, o, none⟩) ls.length c) := h.cells.2.1
  have hx1 : w1.cell? ⟨b, 1, none⟩ = some (.slice (some ⟨g, o, none⟩) ls.length c) := three_cell1 hbk
  have hf1 : w1.frozen? ⟨b, 1, none⟩ = false := three_free (k := 1) hbk
  have HFIN : Hid (∀ v' o' c', v' = .slice (some ⟨g, o', none⟩) (ls.length - 1) c' → (o' = o + 3 ∨ ls.length = 1) → ls.length - 1 ≤ c' → c' ≤ maxLen → o' + c' * 3 ≤ o + c * 3 → ∀ W, W = (((w1.setCell ⟨g, o, none⟩ (.int .i64 0)).setCell ⟨g, o + 1, none⟩ (.int .i64 0)).setCell ⟨g, o + 2, none⟩ (.slice none 0 0)).setCell ⟨b, 1, none⟩ v' →
      v'.ownBlock = (Value.slice (some ⟨g, o, none⟩) ls.length c).ownBlock ∧ Nt W B b mb n nodes v' (ls.eraseIdx k) sp ∧ Did B b mb (.slice (some ⟨g, o, none⟩) ls.length c) w W ∧ (Fit w (.slice (some ⟨g, o, none⟩) ls.length c) → Fit W v') ∧ (∀ T, Low w (.slice (some ⟨g, o, none⟩) ls.length c) ls T → Low W v' (ls.eraseIdx k) T) ∧ (∀ cs, OwnAt w B (.slice (some ⟨g, o, none⟩) ls.length c) ls.length cs → OwnAt W B v' (ls.length - 1) (cut3 cs k))) := fun v' o' c' ev ho' hc' hcm' hroom W hW => by
    have hG : W.heap[g]? = some (.cells ((((upC cur o k).setIfInBounds o (.int .i64 0)).setIfInBounds (o + 1) (.int .i64 0)).setIfInBounds (o + 2) (.slice none 0 0)) 37 (0, 0)) := by
      rw [hW]; exact (Below.heap_setCell _ _ _ _ hgb).trans (set_blk (set_blk (set_blk hg1)))
    have hb' : W.heap[b]? = some (.cells #[.int .i64 nodes, v', .map (some mb)] 67 (0, 0)) := by
      rw [hW]
      refine three_set1 (y := .slice (some ⟨g, o, none⟩) ls.length c) ?_
      rw [Below.heap_setCell _ _ _ _ (Ne.symm hgb), Below.heap_setCell _ _ _ _ (Ne.symm hgb), Below.heap_setCell _ _ _ _ (Ne.symm hgb)]
      exact hbk
    have hO : ∀ q, q ≠ g → q ≠ b → W.heap[q]? = w.heap[q]? := fun q q1 q2 => by
      rw [hW, Below.heap_setCell _ _ _ _ q2, Below.heap_setCell _ _ _ _ q1, Below.heap_setCell _ _ _ _ q1, Below.heap_setCell _ _ _ _ q1]
      exact ho1 q q1
    have hS : W.heap.size = w.heap.size := by rw [hW]; simp only [set_size]; exact hs1
    have hob : v'.ownBlock = (Value.slice (some ⟨g, o, none⟩) ls.length c).ownBlock := by rw [ev]; rfl
    have hNB : ∀ q, NB b mb v' q = NB b mb (.slice (some ⟨g, o, none⟩) ls.length c) q := fun q => by unfold NB; rw [hob]
    have hup : ∀ q, o + 3 ≤ q → ((((upC cur o k).setIfInBounds o (.int .i64 0)).setIfInBounds (o + 1) (.int .i64 0)).setIfInBounds (o + 2) (.slice none 0 0))[q]? = (upC cur o k)[q]? := fun q hq => by
      rw [Array.getElem?_setIfInBounds_ne (by omega), Array.getElem?_setIfInBounds_ne (by omega), Array.getElem?_setIfInBounds_ne (by omega)]
    have hlen : (ls.eraseIdx k).length = ls.length - 1 := List.length_eraseIdx_of_lt hk
    have hbd : Below B w W := by
      refine ⟨?_, ?_, ?_, by rw [hS]; exact Nat.le_refl _, fun q hq => hO q (by omega) (by have := h.low.1; omega)⟩
      · rw [hW, set_os, set_os, set_os, set_os, hw1]; rfl
      · rw [hW, set_tape, set_tape, set_tape, set_tape, hw1]; rfl
      · rw [hW, set_output, set_output, set_output, set_output, hw1]; rfl
    have hNBf : NB b mb v' = NB b mb (.slice (some ⟨g, o, none⟩) ls.length c) := funext hNB
    have hall : ∀ X : Nat → Prop, (∀ j (hj : j < ls.length), At3 X w cur (o + j * 3) (ls[j]'hj)) → Lts X W (some ⟨g, o', none⟩) (ls.eraseIdx k) := fun X hX => by
      rcases Nat.lt_or_ge 1 ls.length with h1 | h1
      · obtain rfl : o' = o + 3 := by rcases ho' with e | e <;> omega
        refine lts_of hG fun j hj => ?_
        rw [hlen] at hj
        have key : ∀ (l : L3) (p : Nat), At3 (NB b mb (.slice (some ⟨g, o, none⟩) ls.length c)) w cur p l → At3 X w cur p l → (∀ d, d < 3 → (upC cur o k)[o + 3 + (j * 3 + d)]? = cur[p + d]?) → At3 X W ((((upC cur o k).setIfInBounds o (.int .i64 0)).setIfInBounds (o + 1) (.int .i64 0)).setIfInBounds (o + 2) (.slice none 0 0)) (o + 3 + j * 3) l := fun l p ⟨_, _, Y', cy', e2', _, _, e5'⟩ ⟨e0, e1, Y, cy, e2, e3, e4, e5⟩ hc => by
          rw [e2'] at e2
          injection e2 with e2
          injection e2 with q1 q2 q3
          subst q1 q3
          refine ⟨?_, ?_, Y', cy', ?_, e3, e4.kept (by rw [hS]; exact Nat.le_refl _) fun a ea _ => hO _ ?_ ?_, fun a ea => ⟨(e5 a ea).1, by rw [hS]; exact (e5 a ea).2⟩⟩
          · rw [hup _ (by omega)]; exact (hc 0 (by omega)).trans e0
          · rw [hup _ (by omega)]; exact (hc 1 (by omega)).trans e1
          · rw [hup _ (by omega)]; exact (hc 2 (by omega)).trans e2'
          · intro q; exact (e5' a ea).1 (.inr (.inr (by rw [q]; rfl)))
          · intro q; exact (e5' a ea).1 (.inl q)
        rcases Nat.lt_or_ge j k with hjk | hjk
        · rw [List.getElem_eraseIdx_of_lt (by rw [hlen]; exact hj) hjk]
          exact key _ _ (hat j (by omega)) (hX j (by omega)) fun d hd => (upC_lt cur o k _ hsz3 (by omega)).trans (congrArg (cur[·]?) (by omega))
        · rw [List.getElem_eraseIdx_of_ge (by rw [hlen]; exact hj) hjk]
          exact key _ _ (hat (j + 1) (by omega)) (hX (j + 1) (by omega)) fun d hd => (upC_ge cur o k _ hsz3 (by omega)).trans (congrArg (cur[·]?) (by omega))
      · intro j hj
        rw [hlen] at hj
        omega
    refine ⟨hob, ?_, ⟨hbd, fun q _ hq => hO q (fun e => hq (by rw [e]; exact .inr (.inr rfl))) (fun e => hq (.inl e))⟩, fun hF ad n' c'' e => ?_, fun T hT A c'' e => ?_, fun cs hO => ?_⟩
    · refine { blk := hb', map := h.map.kept (hO mb (Ne.symm hgm) (fun e => ?_)), form := ⟨some ⟨g, o', none⟩, c', by rw [ev, hlen], by rw [hlen]; exact hc', hcm', by rw [hNBf]; exact hall _ hat⟩, row := fun q hq => ?_, low := ⟨h.low.1, h.low.2.1, fun q hq => h.low.2.2 q (by rw [← hob]; exact hq)⟩, ok := ⟨h.ok.1, fun l hl => h.ok.2 l (List.mem_of_mem_eraseIdx hl)⟩ }
      · obtain ⟨es, cl, hm⟩ := h.map.isMap
        rw [e, h.blk] at hm
        cases hm
      · obtain rfl : g = q := by
          rw [ev] at hq
          injection hq
        exact ⟨_, hG⟩
    · rw [ev] at e
      injection e with e1 e2 e3
      injection e1 with e1
      subst e1 e3
      obtain ⟨_, cur', k1, k2⟩ := hF _ _ _ rfl
      have k1 : w.heap[g]? = some (.cells cur' 37 (0, 0)) := k1
      rw [hg] at k1
      injection k1 with k1
      injection k1 with k1
      subst k1
      refine ⟨rfl, _, hG, ?_⟩
      have k2 : o + c * 3 ≤ cur.size := k2
      simp only [Array.size_setIfInBounds]
      rw [upC_size cur o k hsz3]
      show o' + c' * 3 ≤ _
      omega
    · rw [ev] at e
      injection e with e1 e2 e3
      subst e1
      exact hall _ (at3_of hg (hT _ _ rfl))
    · have hcl : cs.length = ls.length * 3 := hO.1
      have hcell := fun q hq => hO.cell (q := q) hq
      rcases hO.2 with ⟨e, _⟩ | ⟨g2, o2, cap2, cur2, e, _, hh2, _, _, hsz2, _⟩
      · cases e
      injection e with e1 _ e3
      injection e1 with e1
      injection e1 with e1 e2
      subst e1 e2 e3
      rw [hg] at hh2
      injection hh2 with hh2
      injection hh2 with hh2
      subst hh2
      have hc3 : (cut3 cs k).length = (ls.length - 1) * 3 := by unfold cut3; simp; omega
      refine ⟨hc3, .inr ⟨g, o', c', _, ev, hBg, hG, hc', hcm', ?_, List.ext_getElem? fun q => ?_⟩⟩
      · simp only [Array.size_setIfInBounds]
        rw [upC_size cur o k hsz3]
        omega
      · rcases Nat.lt_or_ge q ((ls.length - 1) * 3) with hq | hq
        · obtain rfl : o' = o + 3 := by rcases ho' with e | e <;> omega
          have hcq : ∀ d, d < ls.length * 3 → cur[o + d]? = cs[d]? := fun d hd => by
            have := hcell d hd
            simpa [World.cell?, hg] using this
          rw [List.getElem?_take_of_lt hq, List.getElem?_drop, Array.getElem?_toList, hup _ (by omega)]
          unfold cut3
          rcases Nat.lt_or_ge q (k * 3) with hqk | hqk
          · rw [upC_lt cur o k q hsz3 hqk, hcq q (by omega), List.getElem?_append_left (by simp; omega), List.getElem?_take_of_lt hqk]
          · rw [upC_ge cur o k q hsz3 hqk, Nat.add_assoc, hcq (3 + q) (by omega), List.getElem?_append_right (by simp; omega), List.getElem?_drop]
            congr 1
            simp
            omega
        · rw [List.getElem?_eq_none (by simp; omega), List.getElem?_eq_none (by omega)]
  obtain ⟨N, hN⟩ : ∃ x, x = ls.length := ⟨_, rfl⟩
  rw [← hN] at hx0 hx1 hc hk n0
  have hNN := Lib.hid hN
  have i1 : (k : Int) < (N : Int) := by omega
  have i2 : (k : Int) + 1 ≤ (N : Int) := by omega
  have i3 : (0 : Int) ≤ (k : Int) := by omega
  have i4 : (0 : Int) ≤ (k : Int) + 1 := by omega
  have i5 : (1 : Int) ≤ (k : Int) + 1 := by omega
  have i6 : (k : Int) + 1 ≤ (c : Int) := by omega
  have i7 : (k : Int) ≤ (c : Int) := by omega
  have i8 : (1 : Int) ≤ (c : Int) := by omega
  have i9 : (1 : Int) ≤ (N : Int) := by omega
  have i10 : (0 : Int) < (N : Int) := by omega
  have i11 : (N : Int) ≤ (c : Int) := by omega
  have i12 : ¬ c = 0 := by omega
  have j1 : IntKind.i64.wrap ((k : Int) + 1) = (k : Int) + 1 := by rw [IntKind.wrap_i64]; unfold maxLen at hcm; omega
  have j2 : ((k : Int) + 1).toNat = k + 1 := by omega
  have hbg := Ne.symm hgb
  by_cases hc1 : c = 1
  · have hk0 : k = 0 := by omega
    have hN1 : N = 1 := by omega
    have hh := HC0.out hk0
    have hj1 : ((0 : Nat) : Int) + 1 = 1 := rfl
    clear hat hg hg1 ho1 hs1 hw1 hone a0 a1 a2 hsz3 hsz hBg hbl hN hbk h HC1
    subst hk0
    subst hc1
    rw [hN1] at hx0 hx1
    go_enter Try.func30, Try.ntmps30
    go_wp2_with fail
    have hcp1 := hh 3 0 1
    go_region
    go_wp2_with fail
    go_end0
    exact ⟨rfl, _, HFIN.out _ o 0 (by rw [← hNN.out, hN1]) (.inr (by rw [← hNN.out, hN1])) (by have := hNN.out; omega) (by omega) (by omega) _ rfl⟩
  · have hh := HC1.out
    clear hat hg hg1 ho1 hs1 hw1 hone a0 a1 a2 hsz3 hsz hBg hbl hN hbk h
    go_enter Try.func30, Try.ntmps30
    go_wp2_with fail
    have hcp1 := HC1.out 3 (c - 1) c
    go_region
    go_wp2_with fail
    go_end0
    exact ⟨rfl, _, HFIN.out _ (o + 3) (c - 1) (by rw [hNN.out]) (.inl rfl) (by have := hNN.out; omega) (by omega) (by omega) _ rfl⟩
end

end Go.Proofs.Ytalifbajihkenaa
