/-
  The law NetMany, walked.
-/
import Derived.Test.YtalifbajihkenaaManyM
import Derived.BigRegion
import Derived.Deep.RegionHeld3
namespace Go.Proofs.Ytalifbajihkenaa
open Go.RowKit Go.Maps
set_option linter.unusedSimpArgs false
set_option linter.unusedVariables false

/-- behind the cut: a letter of the law's own in a cell, its body fresh -/
def CutM (wr : World) (f t : Int) (pp : List Int) (s : Value) (wx : World) : Prop :=
  ∃ (g : Nat) (Y5 : Option Addr) (c5 : Nat), s = .pointer (some ⟨g, 0, none⟩) ∧ wr.heap.size ≤ g ∧ wx.heap[g]? = some (.cells #[.int .i64 f, .int .i64 t, .slice Y5 pp.length c5] 37 (0, 0)) ∧ pp.length ≤ c5 ∧ Row wx Y5 (bs pp) ∧ (∀ a, Y5 = some a → wr.heap.size ≤ a.block ∧ a.block < wx.heap.size) ∧ Below wr.heap.size wr wx
theorem cutM_a {wr w4 w5 : World} {f t : Int} {pp : List Int} {A5 : Option Addr} {c5 : Nat} (hb4 : Below wr.heap.size wr w4) (hF : Fresh w4.drew w5 pp A5 c5) :
    CutM wr f t pp (.pointer (some ⟨w5.heap.size, 0, none⟩)) (w5.alloc (.cells #[.int .i64 f, .int .i64 t, .slice A5 pp.length c5] 37)) := by
  obtain ⟨k1, k2, k3, k4⟩ := hF
  have hs := hb4.size
  have hs4 : w4.heap.size ≤ w5.heap.size := k4.size
  refine ⟨_, A5, c5, rfl, by omega, heap_alloc_new w5 _, k1, k2.below ((Below.refl _ _).alloc (Nat.le_refl _) _), fun a ea => ?_, ((hb4.drew).trans (k4.mono hs)).alloc (by omega) _⟩
  have h3 := k3 a ea
  have h4 : w4.heap.size ≤ a.block := h3.1
  refine ⟨by omega, ?_⟩
  have := h3.2
  simp; omega
theorem cutM_b {wr w4 w5 : World} {f t : Int} {pp : List Int} {A5 : Option Addr} {c5 : Nat} (hb4 : Below wr.heap.size wr w4) (hF : Fresh (w4.alloc (.cells #[.int .i64 0, .int .i64 0, .slice none 0 0] 37)).drew w5 pp A5 c5) :
    CutM wr f t pp (.pointer (some ⟨w4.heap.size, 0, none⟩)) (((w5.setCell ⟨w4.heap.size, 0, none⟩ (.int .i64 f)).setCell ⟨w4.heap.size, 1, none⟩ (.int .i64 t)).setCell ⟨w4.heap.size, 2, none⟩ (.slice A5 pp.length c5)) := by
  obtain ⟨k1, k2, k3, k4⟩ := hF
  have hs := hb4.size
  have hs4 : (w4.alloc (.cells #[.int .i64 0, .int .i64 0, .slice none 0 0] 37)).heap.size ≤ w5.heap.size := k4.size
  have hsa : (w4.alloc (.cells #[.int .i64 0, .int .i64 0, .slice none 0 0] 37)).heap.size = w4.heap.size + 1 := by simp
  have hX : w5.heap[w4.heap.size]? = some (.cells #[.int .i64 0, .int .i64 0, .slice none 0 0] 37 (0, 0)) := (k4.block _ (by show _ < (w4.alloc _).heap.size; omega)).trans (heap_alloc_new w4 _)
  obtain ⟨w9, hw9⟩ : ∃ x, x = ((w5.setCell ⟨w4.heap.size, 0, none⟩ (.int .i64 f)).setCell ⟨w4.heap.size, 1, none⟩ (.int .i64 t)).setCell ⟨w4.heap.size, 2, none⟩ (.slice A5 pp.length c5) := ⟨_, rfl⟩
  have hk9 : ∀ g, g ≠ w4.heap.size → w9.heap[g]? = w5.heap[g]? := fun g g1 => by rw [hw9, Below.heap_setCell _ _ _ _ g1, Below.heap_setCell _ _ _ _ g1, Below.heap_setCell _ _ _ _ g1]
  have hs9 : w9.heap.size = w5.heap.size := by rw [hw9]; simp only [set_size]
  have hX9 : w9.heap[w4.heap.size]? = some (.cells #[.int .i64 f, .int .i64 t, .slice A5 pp.length c5] 37 (0, 0)) := by rw [hw9]; exact three_set2 (three_set1 (three_set0 hX))
  have hb5 : Below wr.heap.size wr w5 := ((hb4.alloc hs (.cells #[.int .i64 0, .int .i64 0, .slice none 0 0] 37)).drew).trans (k4.mono (by show _ ≤ (w4.alloc _).heap.size; omega))
  rw [← hw9]
  refine ⟨_, A5, c5, rfl, by omega, hX9, k1, k2.kept (by omega) (fun ad ea _ => hk9 _ ?_), fun a ea => ?_, ⟨?_, ?_, ?_, by omega, fun q hq => (hk9 q (by omega)).trans (hb5.block q hq)⟩⟩
  · have h3 : (w4.alloc (.cells #[.int .i64 0, .int .i64 0, .slice none 0 0] 37)).heap.size ≤ ad.block := (k3 ad ea).1
    omega
  · have h3 : (w4.alloc (.cells #[.int .i64 0, .int .i64 0, .slice none 0 0] 37)).heap.size ≤ a.block := (k3 a ea).1
    have := (k3 a ea).2
    omega
  · rw [hw9]; exact hb5.os
  · rw [hw9]; exact hb5.tape
  · rw [hw9]; exact hb5.output
theorem filter_one (y : L3) : ([y].filter (postB 4)).length ≤ 1 := List.length_filter_le _ [y]
theorem filter_add (L : List L3) (y : L3) : (L ++ [y]).filter (postB 4) = L.filter (postB 4) ++ [y].filter (postB 4) := List.filter_append ..

set_option maxRecDepth 100000 in
set_option maxHeartbeats 4000000 in
theorem many_walk (A : Option Addr) (ls : List L3) (c : Nat) (w : World) (hat : LetIn w A ls) (hl : ls.length ≤ 9223372036854775807) (hok : LetOk ls) :
    Calls Try.prog 7 #[.slice A ls.length c] w fun e w' => e = .returned (.bool true) ∧ Below w.heap.size w w' := by
  have HAT := Lib.hid hat
  have HOK := Lib.hid hok
  have HA := Lib.hid (awake_any w)
  obtain ⟨n, hn⟩ : ∃ n, n = ls.length := ⟨_, rfl⟩
  rw [← hn] at hl ⊢
  have HN : Hid (ls.length = n) := hn.symm
  clear hat hok hn
  go_enter Try.func7, Try.ntmps7
  go_wp2_with fail
  refine (HA.out).mono ?_
  rintro e w1 ⟨rfl, hb1⟩
  have HB1 := Lib.hid hb1
  have HNW := Lib.hid (new_any w1 4 (by decide) (by decide))
  clear hb1 HA
  go_wp2_with fail
  refine (HNW.out).mono ?_
  rintro e w2 ⟨rfl, hN2, hb2⟩
  have HN2 := Lib.hid hN2
  have HB2 := Lib.hid hb2
  have HNW2 := Lib.hid (new_any w2 4 (by decide) (by decide))
  clear HNW hN2 hb2
  go_wp2_with fail
  refine (HNW2.out).mono ?_
  rintro e w3 ⟨rfl, hN3, hb3⟩
  have HT0 : Hid (M1 w w1.heap.size (w1.heap.size + 1) w1.heap.size w2.heap.size (w2.heap.size + 1) w2.heap.size [] [] (.slice none 0 0) (.slice none 0 0) w3) := by
    have k1 := HB1.out.size
    have k2 := HB2.out.size
    have hs2 : w1.heap.size + 1 < w2.heap.size := lt_of_block HN2.out.blk
    exact ⟨HN2.out.below hb3, hN3, ⟨[], World.ownsRow_nil w3 _ 37 3, fun a n c hm => by cases hm⟩, (fun g e => by cases e), ⟨[], World.ownsRow_nil w3 _ 37 3, fun j hj => by simp at hj⟩, (HB1.out.trans (HB2.out.mono k1)).trans (hb3.mono (Nat.le_trans k1 k2)), k1, hs2, by omega, hb3.size⟩
  obtain ⟨Ba, hq1⟩ : ∃ x, x = w1.heap.size := ⟨_, rfl⟩
  obtain ⟨ba, hq2⟩ : ∃ x, x = w1.heap.size + 1 := ⟨_, rfl⟩
  obtain ⟨mba, hq3⟩ : ∃ x, x = w1.heap.size := ⟨_, rfl⟩
  obtain ⟨Bb, hq4⟩ : ∃ x, x = w2.heap.size := ⟨_, rfl⟩
  obtain ⟨bb, hq5⟩ : ∃ x, x = w2.heap.size + 1 := ⟨_, rfl⟩
  obtain ⟨mbb, hq6⟩ : ∃ x, x = w2.heap.size := ⟨_, rfl⟩
  have HT1 : Hid (M1 w Ba ba mba Bb bb mbb [] [] (.slice none 0 0) (.slice none 0 0) w3) := by show M1 _ _ _ _ _ _ _ _ _ _ _ _; rw [hq1, hq2, hq3, hq4, hq5, hq6]; exact HT0.out
  rw [← hq2, ← hq5]
  clear hq1 hq2 hq3 hq4 hq5 hq6 hN3 hb3 HT0 HNW2 HN2 HB1 HB2
  go_wp2_with fail
  go_loopw [7, 8, 24] (fun u cn i wr => ∃ (k : Nat) (L : List L3) (v : Value), k ≤ n ∧ i = .int .i64 k ∧ L.length ≤ min k 20 ∧ (∀ l ∈ L, l.2.2.length ≤ 4200 ∧ Bytes8 l.2.2) ∧ cn = .int .i64 (L.filter (postB 4)).length ∧ M1 w Ba ba mba Bb bb mbb L (L.filter (postB 4)) u v wr) (fun _ _ i _ => n - (intOf i).toNat)
  case atStart => exact ⟨0, [], _, Nat.zero_le _, rfl, by simp, (fun l hl => by cases hl), rfl, HT1.out⟩
  case round =>
    clear HT1
    obtain ⟨k, L, v, hk, rfl, hL, h8, rfl, hT⟩ := hrel
    have H8 := Lib.hid h8
    clear h8
    by_cases hlt : k < n
    · have hlt' : k < ls.length := by rw [HN.out]; exact hlt
      obtain ⟨ad, rfl, q0, q1, Y, cy, q2, q3, q4, _⟩ := HAT.out.at hT.below k hlt'
      have hko := HOK.out _ (List.getElem_mem hlt')
      have i1 : (k : Int) < (n : Int) := by omega
      have i0 : (0 : Int) ≤ (k : Int) := by omega
      generalize ls[k]'hlt' = l at *
      obtain ⟨f, t, p⟩ := l
      simp only at q0 q1 q2 q3 q4 hko
      have HTT := Lib.hid hT
      clear hT
      by_cases h20 : k < 20
      · have i2 : (k : Int) < 20 := by omega
        have hL20 : L.length ≤ k := by omega
        obtain ⟨w4, hw4⟩ : ∃ x, x = wr.alloc (.cells #[.int .i64 f, .int .i64 t, .slice Y p.length cy] 40) := ⟨_, rfl⟩
        have hb4 : Below wr.heap.size wr w4 := by rw [hw4]; exact (Below.refl _ _).alloc (Nat.le_refl _) _
        have hX4 : w4.heap[wr.heap.size]? = some (.cells #[.int .i64 f, .int .i64 t, .slice Y p.length cy] 40 (0, 0)) := by rw [hw4]; exact heap_alloc_new wr _
        have HX4 := Lib.hid hX4
        have HB4 := Lib.hid hb4
        have HK : Hid (∀ W : World, Below w4.heap.size w4 W → W.cell? ⟨wr.heap.size, 0, none⟩ = some (.int .i64 f) ∧ W.cell? ⟨wr.heap.size, 1, none⟩ = some (.int .i64 t) ∧ W.cell? ⟨wr.heap.size, 2, none⟩ = some (.slice Y p.length cy)) := fun W hW => by
          have hx := (hW.block _ (lt_of_block HX4.out)).trans HX4.out
          exact ⟨three_cell0 hx, three_cell1 hx, three_cell2 hx⟩
        obtain ⟨pp, hpp⟩ : ∃ x, x = p.take 4200 := ⟨_, rfl⟩
        have HPP : Hid (pp.length ≤ 4200 ∧ Bytes8 pp) := ⟨by rw [hpp, List.length_take]; omega, fun x hx => hko.2.2.2 x (List.mem_of_mem_take (by rw [hpp] at hx; exact hx))⟩
        have HC : Hid (∀ W : World, Below w4.heap.size w4 W → Calls Try.prog 19 #[.slice Y p.length cy, .int .i64 4200] W fun e w' => ∃ A' c', e = .returned (.slice A' pp.length c') ∧ Fresh W w' pp A' c') := fun W hW => by rw [hpp]; exact rcut_any Y cy 4200 p W ((q4.below HB4.out).below hW) q3 hko.2.2.1 (by decide)
        have HD : Hid (Below w4.heap.size w4 w4.drew) := (Below.refl _ _).drew
        have HDA : Hid (Below w4.heap.size w4 (w4.alloc (.cells #[.int .i64 0, .int .i64 0, .slice none 0 0] 37))) := (Below.refl _ _).alloc (Nat.le_refl _) _
        have HDB : Hid (Below w4.heap.size w4 (w4.alloc (.cells #[.int .i64 0, .int .i64 0, .slice none 0 0] 37)).drew) := HDA.out.drew
        have HZ : Hid ((w4.alloc (.cells #[.int .i64 0, .int .i64 0, .slice none 0 0] 37)).heap[w4.heap.size]? = some (.cells #[.int .i64 0, .int .i64 0, .slice none 0 0] 37 (0, 0))) := heap_alloc_new w4 _
        have HKS : Hid (∀ (W : World) (x y z : Value), Below w4.heap.size w4 W → (((W.setCell ⟨w4.heap.size, 0, none⟩ x).setCell ⟨w4.heap.size, 1, none⟩ y).setCell ⟨w4.heap.size, 2, none⟩ z).cell? ⟨wr.heap.size, 0, none⟩ = some (.int .i64 f) ∧ (((W.setCell ⟨w4.heap.size, 0, none⟩ x).setCell ⟨w4.heap.size, 1, none⟩ y).setCell ⟨w4.heap.size, 2, none⟩ z).cell? ⟨wr.heap.size, 1, none⟩ = some (.int .i64 t) ∧ (((W.setCell ⟨w4.heap.size, 0, none⟩ x).setCell ⟨w4.heap.size, 1, none⟩ y).setCell ⟨w4.heap.size, 2, none⟩ z).cell? ⟨wr.heap.size, 2, none⟩ = some (.slice Y p.length cy)) := fun W x y z hW => by
          have hne := Nat.ne_of_lt (lt_of_block HX4.out)
          have hx := ((Below.heap_setCell ((W.setCell ⟨w4.heap.size, 0, none⟩ x).setCell ⟨w4.heap.size, 1, none⟩ y) ⟨w4.heap.size, 2, none⟩ z wr.heap.size hne).trans ((Below.heap_setCell (W.setCell ⟨w4.heap.size, 0, none⟩ x) ⟨w4.heap.size, 1, none⟩ y wr.heap.size hne).trans (Below.heap_setCell W ⟨w4.heap.size, 0, none⟩ x wr.heap.size hne))).trans ((hW.block _ (lt_of_block HX4.out)).trans HX4.out)
          exact ⟨three_cell0 hx, three_cell1 hx, three_cell2 hx⟩
        obtain ⟨m0, m1, m2⟩ := HK.out _ HD.out
        obtain ⟨n0, n1, n2⟩ := HK.out _ HDA.out
        clear hX4 hb4 q3 q4 hko hpp
        go_upto_region 11 with fail
        rw [← hw4]
        clear hw4 q0 q1 q2
        go_cut [11, 24] from 24 to 49 (fun s11 s24 wx => s24 = .int .i64 (k : Int) ∧ CutM wr f t pp s11 wx)
        case first =>
          go_region_held3 (fun w' => w'.cell? ⟨wr.heap.size, 0, none⟩ = some (.int .i64 f) ∧ w'.cell? ⟨wr.heap.size, 1, none⟩ = some (.int .i64 t) ∧ w'.cell? ⟨wr.heap.size, 2, none⟩ = some (.slice Y p.length cy)) (first | exact HK.out _ HD.out | exact HK.out _ HDB.out | exact HK.out _ HDA.out | exact HK.out _ hb5 | exact HK.out _ (hb5.alloc hb5.size _) | exact HKS.out _ _ _ _ hb5 | fail)
            (first
              | (go_at_call 19; refine (HC.out _ HD.out).mono ?_; rintro e w5 ⟨A5, c5, rfl, hF5⟩; have hb5 : Below w4.heap.size w4 w5 := HD.out.trans (hF5.2.2.2.mono HD.out.size); obtain ⟨d0, d1, d2⟩ := HK.out _ hb5)
              | (go_at_call 19; refine (HC.out _ HDB.out).mono ?_; rintro e w5 ⟨A5, c5, rfl, hF5⟩; have hb5 : Below w4.heap.size w4 w5 := HDB.out.trans (hF5.2.2.2.mono HDB.out.size); obtain ⟨d0, d1, d2⟩ := HK.out _ hb5; have hz5 := (hF5.2.2.2.block _ (lt_of_block HZ.out)).trans HZ.out; have y0 : w5.cell? ⟨w4.heap.size, 0, none⟩ = _ := three_cell0 hz5; have y1 : w5.cell? ⟨w4.heap.size, 1, none⟩ = _ := three_cell1 hz5; have y2 : w5.cell? ⟨w4.heap.size, 2, none⟩ = _ := three_cell2 hz5; have p0 : w5.frozen? ⟨w4.heap.size, 0, none⟩ = false := three_free (k := 0) hz5; have p1 : w5.frozen? ⟨w4.heap.size, 1, none⟩ = false := three_free (k := 1) hz5; have p2 : w5.frozen? ⟨w4.heap.size, 2, none⟩ = false := three_free (k := 2) hz5)
              | fail)
          all_goals (go_wp2_with fail; go_meet)
          all_goals first
            | exact ⟨rfl, cutM_a HB4.out hF5⟩
            | exact ⟨rfl, cutM_b HB4.out hF5⟩
        case rest =>
          obtain ⟨rfl, g, Y5, c5, rfl, hg, hX, hp5, hr5, hY5, hb5⟩ := hcut
          clear HX4 HK HC HD HDA HDB HZ HKS m0 m1 m2 n0 n1 n2
          have x0 := three_cell0 hX
          have x1 := three_cell1 hX
          have x2 := three_cell2 hX
          have hb6 : Below wr.heap.size wr (wc.alloc (.cells #[.int .i64 f, .int .i64 t, .slice Y5 pp.length c5] 37)) := hb5.alloc hb5.size _
          obtain ⟨ca, hca, hput⟩ := HTT.out.put hb6
          have HCA := Lib.hid hca
          have HSZ : Hid (Bb ≤ (wc.alloc (.cells #[.int .i64 f, .int .i64 t, .slice Y5 pp.length c5] 37)).heap.size) := Nat.le_trans HTT.out.base.2.2.2 hb6.size
          have HX6 : Hid (∀ j x, [Value.int .i64 f, .int .i64 t, .slice Y5 pp.length c5][j]? = some x → ∃ ad, (some ⟨wc.heap.size, 0, none⟩ : Option Addr) = some ad ∧ (wc.alloc (.cells #[.int .i64 f, .int .i64 t, .slice Y5 pp.length c5] 37)).cell? (ad.add j) = some x) := news_three' (heap_alloc_new wc _)
          have hgc := lt_of_block hX
          have HGU : Hid (∀ w7, (wc.alloc (.cells #[.int .i64 f, .int .i64 t, .slice Y5 pp.length c5] 37)).grownBy w7 u7.ownBlock → w7.heap[g]? = some (.cells #[.int .i64 f, .int .i64 t, .slice Y5 pp.length c5] 37 (0, 0)) ∧ wc.heap.size < w7.heap.size) := fun w7 hg7 => by
            have h7 := hg7.size
            simp at h7
            refine ⟨(hg7.block g (by simp; omega) fun e => ?_).trans ((Below.heap_alloc wc _ _ hgc).trans hX), by omega⟩
            obtain ⟨ca0, m0, _⟩ := HTT.out.all
            have := (own_lt m0 e.symm).2
            omega
          have HR5 := Lib.hid (hr5.below ((Below.refl _ _).alloc (Nat.le_refl _) (.cells #[.int .i64 f, .int .i64 t, .slice Y5 pp.length c5] 37)))
          have HY5 : Hid (∀ a, Y5 = some a → wr.heap.size ≤ a.block ∧ a.block < (wc.alloc (.cells #[.int .i64 f, .int .i64 t, .slice Y5 pp.length c5] 37)).heap.size) := fun a ea => ⟨(hY5 a ea).1, by have := (hY5 a ea).2; simp; omega⟩
          have HPUT : Hid (∀ u' w7, w7.ownsRow Bb 37 3 u' (L.length + 1) (ca ++ [.int .i64 f, .int .i64 t, .slice Y5 pp.length c5]) → (wc.alloc (.cells #[.int .i64 f, .int .i64 t, .slice Y5 pp.length c5] 37)).grownBy w7 u7.ownBlock → (u'.ownBlock = u7.ownBlock ∨ u'.ownBlock = some (wc.alloc (.cells #[.int .i64 f, .int .i64 t, .slice Y5 pp.length c5] 37)).heap.size) → M1 w Ba ba mba Bb bb mbb (L ++ [(f, t, pp)]) (L.filter (postB 4)) u' v w7) := fun u' w7 k1 k2 k3 => hput f t pp Y5 c5 u' w7 hp5 HR5.out HY5.out k1 k2 k3
          have HP5 := Lib.hid hp5
          have HNB : Hid (∀ a, Y5 = some a → ¬ NB bb mbb v a.block) := fun a ea e => by
            have := (HTT.out.netB _ e).2
            have := (hY5 a ea).1
            omega
          have HRK : Hid (∀ w7, (wc.alloc (.cells #[.int .i64 f, .int .i64 t, .slice Y5 pp.length c5] 37)).grownBy w7 u7.ownBlock → Row w7 Y5 (bs pp) ∧ ∀ a, Y5 = some a → a.block < w7.heap.size) := fun w7 hg7 => by
            refine ⟨HR5.out.kept hg7.size fun ad ea hl => hg7.block _ hl fun e => ?_, fun a ea => Nat.lt_of_lt_of_le (HY5.out a ea).2 hg7.size⟩
            obtain ⟨ca0, m0, _⟩ := HTT.out.all
            have := (own_lt m0 e.symm).2
            have := (HY5.out ad ea).1
            omega
          clear hca hput hX hp5 hr5 hY5 hb5 hb6 hgc
          go_wp2_with (at_builtin; refine wpList_append_el elem48 rfl (.tmp 39) (.tmp 41) rfl Bb u7 L.length ca rfl HCA.out _ 1 1 [.int .i64 f, .int .i64 t, .slice Y5 pp.length c5] rfl rfl HX6.out (by simp [Value.oneCell']) (by unfold maxLen; omega) (by omega) HSZ.out ?_; intro A7 c7 w7 ho7 hg7 hv7; have HM7 := Lib.hid (HPUT.out _ _ ho7 hg7 hv7); obtain ⟨hX7, hs7⟩ := HGU.out w7 hg7; have HRK7 := Lib.hid (HRK.out w7 hg7); have y0 := three_cell0 hX7; have y1 := three_cell1 hX7; have y2 := three_cell2 hX7; clear ho7 hg7 hv7)
          have HPO : Hid (Calls Try.prog 21 #[.pointer (some ⟨bb, 0, none⟩), .slice (some ⟨w7.heap.size, 0, none⟩) 1 1] (w7.alloc (.cells #[.int .i64 f, .int .i64 t, .slice Y5 pp.length c5] 37)) fun e w' => e = .returned (.int .i64 ([((f, t, pp) : L3)].filter (postB 4)).length) ∧ ∃ v', M1 w Ba ba mba Bb bb mbb (L ++ [((f, t, pp) : L3)]) (L.filter (postB 4) ++ [((f, t, pp) : L3)].filter (postB 4)) (.slice A7 (L.length + 1) c7) v' w') := by
            have hb8 : Below w7.heap.size w7 (w7.alloc (.cells #[.int .i64 f, .int .i64 t, .slice Y5 pp.length c5] 37)) := (Below.refl _ _).alloc (Nat.le_refl _) _
            have hFl := List.length_filter_le (postB 4) L
            exact (HM7.out.go hb8).post (heap_alloc_new w7 _) (HM7.out.b.fresh _ (Nat.le_refl _)) HP5.out (HRK7.out.1.below hb8) (fun a ea => ⟨HNB.out a ea, Nat.lt_of_lt_of_le (HRK7.out.2 a ea) hb8.size⟩) (by have := HPP.out.1; omega) (by omega)
          have HFA := Lib.hid (filter_add L ((f, t, pp) : L3))
          have hg1 := filter_one ((f, t, pp) : L3)
          have hF1 := List.length_filter_le (postB 4) L
          have HLA : Hid ((L.filter (postB 4) ++ [((f, t, pp) : L3)].filter (postB 4)).length = (L.filter (postB 4)).length + ([((f, t, pp) : L3)].filter (postB 4)).length) := List.length_append ..
          have HPT : Hid (∀ l ∈ L ++ [((f, t, pp) : L3)], l.2.2.length ≤ 4200 ∧ Bytes8 l.2.2) := fun l hl => by
            rcases List.mem_append.1 hl with h | h
            · exact H8.out l h
            · rw [List.mem_singleton.1 h]; exact HPP.out
          obtain ⟨G, hG⟩ : ∃ x, x = [((f, t, pp) : L3)].filter (postB 4) := ⟨_, rfl⟩
          rw [← hG] at HPO HFA HLA hg1
          obtain ⟨F, hF⟩ : ∃ x, x = L.filter (postB 4) := ⟨_, rfl⟩
          rw [← hF] at HPO HFA HLA hF1 ⊢
          clear hG hF hX7 HPUT HNB HRK HRK7 HM7 HGU HX6 HSZ HCA HY5 HR5
          refine (HPO.out).mono ?_
          rintro e w9 ⟨rfl, v9, hM9⟩
          have HM9 := Lib.hid hM9
          clear hM9 HPO
          go_wp2_with fail
          go_roundw
          case rel =>
            refine ⟨k + 1, L ++ [(f, t, pp)], v9, by omega, by go_num, by simp; omega, HPT.out, ?_, by rw [HFA.out]; exact HM9.out⟩
            rw [HFA.out, HLA.out]
            go_num
          case measure => simp [intOf]; omega
      · have i2 : ¬ (k : Int) < 20 := by omega
        have HT' := Lib.hid (HTT.out.go (W := wr.alloc (.cells #[.int .i64 f, .int .i64 t, .slice Y p.length cy] 40)) ((Below.refl _ _).alloc (Nat.le_refl _) _))
        go_wp2_with fail
        go_roundw
        case rel => exact ⟨k + 1, L, v, by omega, by go_num, by omega, H8.out, rfl, HT'.out⟩
        case measure => simp [intOf]; omega
    · have i1 : ¬ (k : Int) < (n : Int) := by omega
      have hL20 : L.length ≤ 20 := by omega
      obtain ⟨A6, c6, rfl, hC⟩ := hT.last (fun l hl => by have := (H8.out l hl).1; omega) (by omega)
      have HF8 : Hid (∀ l ∈ L.filter (postB 4), l.2.2.length ≤ 70368744177664 ∧ Bytes8 l.2.2) := fun l hl => by
        have := H8.out l (List.mem_filter.1 hl).1
        exact ⟨by omega, this.2⟩
      have hFl := List.length_filter_le (postB 4) L
      obtain ⟨F, hF⟩ : ∃ x, x = L.filter (postB 4) := ⟨_, rfl⟩
      rw [← hF] at hC HF8 hFl ⊢
      have HC := Lib.hid hC
      have HTB := Lib.hid hT.below
      clear hC hT H8 hF
      go_wp2_with fail
      refine (HC.out).mono ?_
      rintro e w5 ⟨rfl, ⟨va, hNA⟩, hNB, hb5⟩
      have HNA := Lib.hid hNA
      have HNB := Lib.hid hNB
      have HB5 := Lib.hid hb5
      have HLA := Lib.hid (letters_any hNA (by omega) (fun l hl => (HF8.out l hl).1))
      have hee : ((F.length : Int) == (F.length : Int)) = true := by simp
      clear HC hNA hNB hb5
      go_wp2_with fail
      refine (HLA.out).mono ?_
      rintro e w6 ⟨⟨A1, c1, rfl, hc1, hI1⟩, hb6⟩
      have HB6 := Lib.hid hb6
      have HBA := Lib.hid (back_any A1 c1 F w6 hI1 (by omega))
      clear HLA hb6 hI1 hc1
      go_wp2_with fail
      refine (HBA.out).mono ?_
      rintro e w7 ⟨⟨A2, c2, rfl, hc2, hI2⟩, hb7⟩
      have HB7 := Lib.hid hb7
      have HI2 := Lib.hid hI2
      have HLB := Lib.hid (letters_any ((HNB.out.below HB6.out).below hb7) (by omega) (fun l hl => (HF8.out l hl).1))
      clear HBA hb7 hI2 hc2
      go_wp2_with fail
      refine (HLB.out).mono ?_
      rintro e w8 ⟨⟨A3, c3, rfl, hc3, hI3⟩, hb8⟩
      have HB8 := Lib.hid hb8
      have HBB := Lib.hid (back_any A3 c3 F w8 hI3 (by omega))
      clear HLB hb8 hI3 hc3
      go_wp2_with fail
      refine (HBB.out).mono ?_
      rintro e w9 ⟨⟨A4, c4, rfl, hc4, hI4⟩, hb9⟩
      have HB9 := Lib.hid hb9
      have HSM := Lib.hid (same13_any A2 A4 c2 c4 F w9 ((HI2.out.below HB8.out).below hb9) hI4 (fun l hl => (HF8.out l hl).2) (by omega))
      clear HBB hb9 hI4 hc4
      go_wp2_with fail
      refine (HSM.out).mono ?_
      rintro e w10 ⟨rfl, hb10⟩
      have HB10 := Lib.hid hb10
      have HLN := Lib.hid (len_any (((((HNA.out.below HB6.out).below HB7.out).below HB8.out).below HB9.out).below hb10))
      have HBF : Hid (Below w.heap.size w w10) := by
        have k5 := HB5.out
        have k6 := k5.trans (HB6.out.mono k5.size)
        have k7 := k6.trans (HB7.out.mono k6.size)
        have k8 := k7.trans (HB8.out.mono k7.size)
        have k9 := k8.trans (HB9.out.mono k8.size)
        exact k9.trans (hb10.mono k9.size)
      clear HSM hb10
      go_wp2_with fail
      refine (HLN.out).mono ?_
      rintro e w11 ⟨rfl, hw⟩
      have hw := hw.symm
      subst hw
      clear HLN
      go_wp2_with fail
      go_ret
      exact ⟨rfl, HBF.out⟩

end Go.Proofs.Ytalifbajihkenaa
