/-
  The document's graph: Cut.
-/
import Derived.Test.YtdfmgfclcbeeiaaGRef2
namespace Go.Proofs.Ytdfmgfclcbeeiaa
open Go.RowKit Go.Maps Go.Sort
set_option linter.unusedSimpArgs false
set_option linter.unusedVariables false

section
variable {w w' : World} {B x : Nat} {vN vE : Value} {N : List Int} {E : List Edg} {y a b : Int}

set_option maxRecDepth 100000 in
set_option maxHeartbeats 4000000 in
theorem rcut_any (h : RG w B x vN vE N E) (hG : GoodE N E) (hB : B ≤ w.heap.size) (hl : N.length ≤ 1000000) (hE : E.length ≤ 1000000) :
    Calls Try.prog 31 #[.pointer (some ⟨x, 0, none⟩), .int .u64 a, .int .u64 b] w (LayG w B x vN N E (both (fE E) a b 0) (cutR N E a b)) := by
  have HF := Lib.hid (rfind_any h (by omega) (by omega) a b)
  have HNO : Hid (∀ r w1, r ≠ 0 → Below w.heap.size w w1 → LayG w B x vN N E (both (fE E) a b 0) r (.returned (.int .i64 r)) w1) := fun r w1 hr hb => LayG.no h hG hB _ hr hb
  by_cases h0 : endsR N a b = 0
  · by_cases hz : fE E a b = 0
    · have HV : Hid (cutR N E a b = 6) := by show _ = _; unfold cutR; rw [if_pos h0, if_neg (by rw [hz]; decide), if_neg (by rw [hz]; decide)]
      rw [HV.out]
      have HH0 := Lib.hid h0
      have HZ := Lib.hid hz
      clear h h0 hz hG hB
      go_enter Try.func31, Try.ntmps31
      go_wp2_with fail
      refine (HF.out).mono ?_
      rintro e w1 ⟨i, rfl, hat, hb1⟩
      rw [HH0.out] at hat ⊢
      obtain rfl := (hat rfl).zero HZ.out
      have HK := Lib.hid (HNO.out 6 w1 (by decide) hb1)
      clear hat hb1
      go_wp2_with fail
      go_ret
      exact HK.out
    · have HZ := Lib.hid hz
      have HH0 := Lib.hid h0
      have HV : Hid (cutR N E a b = if fE E a b = 1 then 0 else if fE E a b = 2 then 10 else 6) := by show _ = _; unfold cutR; rw [if_pos h0]
      have HGG := Lib.hid hG
      have HR : Hid (∀ w1, Below w.heap.size w w1 → RG w1 B x vN vE N E) := fun w1 hb1 => h.below hb1
      have HBB := Lib.hid hB
      obtain ⟨A0, c0, hA0, hnc0, _, hrow⟩ := Edges.of_own h.edges
      have HEL : Hid (∀ w1, Below w.heap.size w w1 → Edges w1 A0 E) := fun w1 hb1 => hrow.below hb1
      have HAB := Lib.hid (endsR_ne h0).1
      obtain ⟨lc, hlc0⟩ : ∃ lc, lc = E.length := ⟨_, rfl⟩
      rw [← hlc0] at hA0 hnc0
      subst hA0
      have HLC : Hid (E.length = lc) := hlc0.symm
      clear h h0 hz hG hB hrow hlc0
      go_enter Try.func31, Try.ntmps31
      go_wp2_with fail
      refine (HF.out).mono ?_
      rintro e w1 ⟨i, rfl, hat, hb1⟩
      rw [HH0.out] at hat ⊢
      obtain ⟨k, hk, rfl, hlk⟩ := (hat rfl).more HZ.out
      obtain ⟨ad, rfl, _, q0, q1, q2⟩ := HEL.out w1 hb1 k hk
      have hR1 := HR.out w1 hb1
      have c1 := hR1.cell1
      have hfE := fE_at HGG.out hk hlk
      have HG2 := Lib.hid (HGG.out.cut k)
      have HF2 := Lib.hid (fE_cut HGG.out HAB.out hk hlk)
      have HB1 := Lib.hid hb1
      have i1 : (k : Int) < (lc : Int) := by have := HLC.out; omega
      have i0 : ¬ (k : Int) < 0 := by omega
      cases hq : (E[k]'hk).2.2 with
      | true =>
        rw [hq] at q2 hfE
        have HV2 : Hid (cutR N E a b = 10) := by show _ = _; rw [HV.out, hfE]; rfl
        have HKK : Hid (LayG w B x vN N E (both (fE E) a b 0) (cutR N E a b) (.returned (.int .i64 10)) w1) := by show LayG _ _ _ _ _ _ _ _ _ _; rw [HV2.out]; exact HNO.out 10 w1 (by decide) hb1
        clear hat hlk hb1 hR1 hfE hq q0 q1
        go_wp2_with fail
        go_ret
        exact HKK.out
      | false =>
        rw [hq] at q2 hfE
        have HV2 : Hid (cutR N E a b = 0) := by show _ = _; rw [HV.out, hfE]; rfl
        have HKL : Hid (k < lc) := by show _ < _; have := HLC.out; omega
        have ho1 := hR1.edges
        rw [HLC.out] at ho1
        have HO1 := Lib.hid ho1
        have HR1 := Lib.hid hR1
        have HC1 : Hid (∀ W, Below w1.heap.size w1 W → W.cell? ⟨x, 1, none⟩ = some (.slice (some ad) lc c0) ∧ W.frozen? ⟨x, 1, none⟩ = false) := fun W hW => ⟨(HR1.out.below hW).cell1, (HR1.out.below hW).free 1⟩
        have hb0 : Below w1.heap.size w1 w1.drew := (Below.refl _ _).drew
        have hba : Below w1.heap.size w1 (w1.drew.alloc (.cells #[] 50)) := hb0.alloc (Nat.le_refl _) _
        have HOa : Hid ((w1.drew.alloc (.cells #[] 50)).ownsRow w1.heap.size 50 3 (.slice (some ⟨w1.heap.size, 0, none⟩) 0 0) 0 []) := World.ownsRow_lit w1.drew #[] 0 (Nat.le_refl _) (by decide) rfl
        have HSRC : Hid (∀ W, Below w1.heap.size w1 W → ∀ j u, (flatE E)[j]? = some u → W.cell? (ad.add j) = some u) := fun W hW j u hj => by
          rcases HO1.out.2 with ⟨h1, _⟩ | ⟨g, cap, cur, e, _⟩
          · cases h1
          · injection e with e _ _
            injection e with e
            subst e
            have h9 := HO1.out.cells (g := g) rfl j u hj
            exact (hW.cell (by
              rw [Addr.add_lit]
              have := own_lt HO1.out (g := g) rfl
              exact this.2)).trans h9
        have HN1 : Hid (∀ W, Below w1.heap.size w1 W → ∀ j u, (flatE (E.take k))[j]? = some u → ∃ ad', (some ad : Option Addr) = some ad' ∧ W.cell? (ad'.add j) = some u) := fun W hW j u hj => by
          refine ⟨_, rfl, HSRC.out W hW j u ?_⟩
          rw [flatE_take, List.getElem?_take] at hj
          split at hj
          · exact hj
          · cases hj
        have HN2 : Hid (∀ W, Below w1.heap.size w1 W → ∀ j u, (flatE (E.drop (k + 1)))[j]? = some u → ∃ ad', (some (ad.add ((k + 1) * 3)) : Option Addr) = some ad' ∧ W.cell? (ad'.add j) = some u) := fun W hW j u hj => by
          refine ⟨_, rfl, ?_⟩
          rw [flatE_drop, List.getElem?_drop] at hj
          rw [add_add]
          exact HSRC.out W hW _ u hj
        have HT1 : Hid ((flatE (E.take k)).length = k * 3 ∧ ∀ u ∈ flatE (E.take k), u.oneCell' = true) := ⟨by rw [flatE_len, List.length_take]; have := HLC.out; have := HKL.out; omega, flatE_one _⟩
        have HT2 : Hid ((flatE (E.drop (k + 1))).length = (lc - (k + 1)) * 3 ∧ ∀ u ∈ flatE (E.drop (k + 1)), u.oneCell' = true) := ⟨by rw [flatE_len, List.length_drop, HLC.out], flatE_one _⟩
        have HFIN : Hid (∀ A9 n9 c9 (w9 : World), n9 = k + (lc - (k + 1)) → w9.ownsRow w1.heap.size 50 3 (.slice A9 n9 c9) n9 (flatE (E.take k) ++ flatE (E.drop (k + 1))) → Below w1.heap.size w1 w9 →
            LayG w B x vN N E (both (fE E) a b 0) (cutR N E a b) (.returned (.int .i64 0)) (w9.setCell ⟨x, 1, none⟩ (.slice A9 n9 c9))) := fun A9 n9 c9 w9 hn9 ho9 hb9 => by
          subst hn9
          have hs1 := HB1.out.size
          have hBs := HBB.out
          have hlen : (E.eraseIdx k).length = k + (lc - (k + 1)) := by rw [List.length_eraseIdx, if_pos (by have := HLC.out; have := HKL.out; omega)]; have := HLC.out; have := HKL.out; omega
          have ho9' : w9.ownsRow B 50 3 (.slice A9 (k + (lc - (k + 1))) c9) (E.eraseIdx k).length (flatE (E.eraseIdx k)) := by
            rw [hlen, List.eraseIdx_eq_take_drop_succ, flatE_append]
            exact own_lower ho9 (by omega)
          have hR9 := HR1.out.below hb9
          rw [HV2.out]
          exact ⟨_, ⟨rfl, (RKept.of_below (HB1.out.trans (hb9.mono hs1)) hBs).trans (hR9.kept1 _ 1), _, hR9.setE ho9'⟩, HG2.out, by rw [hlen]; have := HLC.out; omega, fun _ => HF2.out, fun h => absurd rfl h⟩
        have i3 : (0 : Int) ≤ (k : Int) := by omega
        have i4 : (k : Int) ≤ (c0 : Int) := by omega
        have i5 : (lc : Int) ≤ (c0 : Int) := by omega
        have i6 : (0 : Int) ≤ (k : Int) + 1 := by omega
        have i7 : (k : Int) + 1 ≤ (lc : Int) := by omega
        have i8 : (k : Int) ≤ (lc : Int) := by omega
        have iw : IntKind.i64.wrap ((k : Int) + 1) = (k : Int) + 1 := by rw [IntKind.wrap_i64]; have := HLC.out; omega
        have hlm : lc ≤ 1000000 := by have := HLC.out; omega
        have hkm : k ≤ 1000000 := by omega
        have p1 := (HC1.out _ hb0).1
        have p2 := (HC1.out _ hba).1
        have p3 : ((w1.alloc (.cells #[] 50)).drew).cell? ⟨x, 1, none⟩ = some (.slice (some ad) lc c0) := p2
        clear hat hlk hb1 hR1 hfE hq q0 q1 ho1
        by_cases hce : c0 = k + 1
        · obtain rfl : lc = k + 1 := by have := HKL.out; omega
          subst hce
          have HD0 : Hid (flatE (E.drop (k + 1)) = []) := List.eq_nil_of_length_eq_zero (by rw [HT2.out.1]; omega)
          have hn0 : Hid (k = k + (k + 1 - (k + 1))) := by show _ = _; omega
          have j1 : (k : Int) ≤ (k : Int) + 1 := by omega
          clear i1 i4 i5 i7 i8 hnc0
          go_wp2_with fail
          go_region_law
            (first
              | (refine step_append_el0 elem28 (by rfl) (.tmp 30) (.tmp 36) (by rfl) w1.heap.size (.slice (some ⟨w1.heap.size, 0, none⟩) 0 0) (by rfl) HOa.out (some ad) k (k + 1) (flatE (E.take k)) (by rfl) HT1.out.1 (HN1.out _ hba) HT1.out.2 (by unfold maxLen; omega) (by omega) hba.size ?_; intro A7 c7 w7 ho7 hg7 ha7; have hb7 : Below w1.heap.size w1 w7 := hba.grown hg7 hba.size (fun g' e => by have e' : some w1.heap.size = some g' := e; injection e' with e'; omega); have hx7 := (HC1.out _ hb7).1)
              | (refine step_append_el elem28 (by rfl) (.tmp 37) (.tmp 44) (by rfl) w1.heap.size (.slice A7 k c7) k (flatE (E.take k)) (by rfl) ho7 (some ad) 0 _ [] (by rfl) rfl (fun j u hj => by simp at hj) (fun u hu => by cases hu) (by unfold maxLen; omega) (by omega) hb7.size ?_; intro A9 c9 w9 ho9 hg9 ha9; have hb9 : Below w1.heap.size w1 w9 := hb7.grown hg9 hb7.size (fun g' e => (own_lt ho7 e).1); have hx9 := (HC1.out _ hb9).1; have hf9 := (HC1.out _ hb9).2)
              | fail)
          all_goals
            have HG9 := Lib.hid (HFIN.out A9 k c9 w9 hn0.out (by rw [HD0.out]; exact ho9) hb9)
            clear ho9 hg9 ha9 hb9 ho7 hg7 ha7 hb7 hx7 hx9 hf9
            go_wp2_with fail
            go_ret
            exact HG9.out
        · go_wp2_with fail
          go_region_law
            (first
              | (refine step_append_el0 elem28 (by rfl) (.tmp 30) (.tmp 36) (by rfl) w1.heap.size (.slice (some ⟨w1.heap.size, 0, none⟩) 0 0) (by rfl) HOa.out (some ad) k c0 (flatE (E.take k)) (by rfl) HT1.out.1 (HN1.out _ hba) HT1.out.2 (by unfold maxLen; omega) (by omega) hba.size ?_; intro A7 c7 w7 ho7 hg7 ha7; have hb7 : Below w1.heap.size w1 w7 := hba.grown hg7 hba.size (fun g' e => by have e' : some w1.heap.size = some g' := e; injection e' with e'; omega); have hx7 := (HC1.out _ hb7).1)
              | (refine step_append_el elem28 (by rfl) (.tmp 37) (.tmp 44) (by rfl) w1.heap.size (.slice A7 k c7) k (flatE (E.take k)) (by rfl) ho7 (some (ad.add ((k + 1) * 3))) (lc - (k + 1)) (c0 - (k + 1)) (flatE (E.drop (k + 1))) (by rfl) HT2.out.1 (HN2.out _ hb7) HT2.out.2 (by unfold maxLen; omega) (by omega) hb7.size ?_; intro A9 c9 w9 ho9 hg9 ha9; have hb9 : Below w1.heap.size w1 w9 := hb7.grown hg9 hb7.size (fun g' e => (own_lt ho7 e).1); have hx9 := (HC1.out _ hb9).1; have hf9 := (HC1.out _ hb9).2)
              | fail)
          all_goals
            have HG9 := Lib.hid (HFIN.out A9 (k + (lc - (k + 1))) c9 w9 rfl ho9 hb9)
            clear ho9 hg9 ha9 hb9 ho7 hg7 ha7 hb7 hx7 hx9 hf9
            go_wp2_with fail
            go_ret
            exact HG9.out
  · have HV : Hid (cutR N E a b = endsR N a b) := by show _ = _; unfold cutR; rw [if_neg h0]
    rw [HV.out]
    obtain ⟨r, hr⟩ : ∃ r, r = endsR N a b := ⟨_, rfl⟩
    rw [← hr] at h0 ⊢
    have HR := Lib.hid hr
    have h1 : (r == 0) = false := by simpa using h0
    have HRR := Lib.hid h0
    clear h hG hB hr h0
    go_enter Try.func31, Try.ntmps31
    go_wp2_with fail
    refine (HF.out).mono ?_
    rintro e w1 ⟨i, rfl, _, hb1⟩
    rw [← HR.out]
    have HK := Lib.hid (HNO.out r w1 HRR.out hb1)
    clear hb1
    go_wp2_with fail
    go_ret
    exact HK.out
end

end Go.Proofs.Ytdfmgfclcbeeiaa
