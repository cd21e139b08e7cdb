/-
  What BestPlays does where there is no List: it returns true, and turns nothing that was there.
-/
import Derived.Test.YtfhnhfppamnjhaaPlays
namespace Go.Proofs.Ytfhnhfppamnjhaa
open Go.RowKit Go.Maps

set_option maxHeartbeats 400000 in
theorem full_nil_q (w : World) : Calls Try.prog 19 #[.pointer none] w fun e w' => e = .returned (.bool false) ∧ ∃ m, w' = w.drewN m := by
  go_enter Try.func19, Try.ntmps19
  go_wp2_with fail
  go_quiet (fail)
  go_wp2_with fail
  go_ret
  exact ⟨rfl, _, rfl⟩

set_option maxRecDepth 100000 in
set_option maxHeartbeats 4000000 in
theorem law_plays_nil (S : Nat → Prop) (most : Int) (A : Option Addr) (c : Nat) (ps : List (List Hit)) (w : World) (hm : most < 1 ∨ 256 < most) (h : ListsAt S w A ps) (hl : ps.length ≤ 9223372036854775807) (hok : ∀ l ∈ ps, OkHits l) :
    Calls Try.prog 3 #[.int .i64 most, .slice A ps.length c] w fun e w' => e = .returned (.bool true) ∧ Below w.heap.size w w' := by
  have HAW := Lib.hid (awake_any w)
  have HNEW : Hid (∀ W, Calls Try.prog 10 #[.int .i64 most] W fun e w' => e = .returned (.tuple #[.pointer none, .int .i64 1]) ∧ W = w') := fun W => new_bad most W hm
  have HAT := Lib.hid h
  have HOK := Lib.hid hok
  clear h hok
  by_cases hm1 : most < 1
  case' pos =>
    have i1 : ¬ (1 : Int) ≤ most := by omega
  case' neg =>
    have i1 : (1 : Int) ≤ most := by omega
    have i2 : ¬ most ≤ (256 : Int) := by omega
  all_goals
    go_enter Try.func3, Try.ntmps3
    go_wp2_with fail
    refine (HAW.out).mono ?_
    rintro e w1 ⟨rfl, hb1⟩
    go_wp2_with fail
    refine (HNEW.out w1).mono ?_
    rintro e w2 ⟨rfl, rfl⟩
    have HB1 := Lib.hid hb1
    clear hb1
    go_wp2_with fail
    go_loopw [60] (fun i wr => ∃ k : Nat, k ≤ ps.length ∧ k ≤ 20 ∧ i = .int .i64 k ∧ Below w.heap.size w wr) (fun i _ => ps.length - (intOf i).toNat)
    case atStart => exact ⟨0, Nat.zero_le _, Nat.zero_le _, rfl, HB1.out⟩
    case round =>
      obtain ⟨k, hk, hk20, rfl, hBr⟩ := hrel
      rcases Nat.lt_or_ge k ps.length with c9 | c9
      · by_cases hk2 : k < 20
        · have j1 : (k : Int) < (ps.length : Int) := by omega
          have j2 : ¬ (20 : Int) ≤ (k : Int) := by omega
          obtain ⟨ad, X, cp, rfl, _, _, g0, hatp⟩ := (HAT.out.below hBr) k c9
          obtain ⟨o1, o2, o3⟩ := HOK.out _ (List.getElem_mem c9)
          have HCUT := Lib.hid (cutHits_any _ X cp 12 ps[k] wr hatp o1 o2 (by decide))
          have HWF := Lib.hid (cut_wf o3 12)
          have HLL := Lib.hid (cut_len ps[k] 12)
          have HID := Lib.hid (cut_idem (x := ps[k]))
          have HBR := Lib.hid hBr
          clear hBr hatp o1 o2 o3
          generalize (ps[k].take 12).map cutHit = qs at *
          generalize ps[k].length = pl at *
          go_wp2_with fail
          refine (HCUT.out).mono ?_
          rintro e w5 ⟨vp, rfl, Op, hb5⟩
          obtain ⟨Ap, cq, rfl, hcq, hatp⟩ := Op.hits
          have hll := HLL.out
          have HATP : Hid (HitsAt (fun _ => True) w5 Ap qs) := hatp.mono fun _ _ _ => trivial
          have hcm := cutHitsF_any _ Ap cq 12 qs w5 hatp (by omega) (fun o ho => by have := (HWF.out o ho).2.2; omega) (by decide)
          rw [HID.out] at hcm
          have HCM := Lib.hid hcm
          have HB5 := Lib.hid hb5
          clear Op hb5 HCUT hatp hcm
          go_wp2_with fail
          refine (HCM.out).mono ?_
          rintro e w6 ⟨vm, rfl, Om, hb6⟩
          obtain ⟨Am, cm, rfl, hcm, hatm⟩ := Om.hits
          have hz5 := HB5.out.size
          have hz6 := hb6.size
          have hz0 := HBR.out.size
          have HFL := Lib.hid Om.flip
          have HATM : Hid (HitsAt (fun _ => True) w6 Am qs) := hatm.mono fun _ _ _ => trivial
          have HATP6 : Hid (HitsAt (fun _ => True) w6 Ap qs) := HATP.out.below hb6
          have HB06 : Hid (Below w.heap.size w w6) := (HBR.out.trans (HB5.out.mono HBR.out.size)).trans (hb6.mono (by have := HBR.out.size; omega))
          have HV1K : Hid (∀ x ∈ qs, x.2.2.length ≤ 1000) := fun x hx => (HWF.out x hx).2.2
          clear Om hatm hb6 HCM HATP HB5 HBR HID
          go_wp2_with fail
          go_loopw [11, 73] (fun n i wr => ∃ j : Nat, j ≤ qs.length ∧ i = .int .i64 j ∧ n = .int .i64 0 ∧ Below w6.heap.size w6 wr) (fun _ i _ => qs.length - (intOf i).toNat)
          case atStart => exact ⟨0, Nat.zero_le _, rfl, rfl, Below.refl _ _⟩
          case round =>
            obtain ⟨j, hj, rfl, rfl, hBj⟩ := hrel
            by_cases hjl : j < qs.length
            · have q1 : (j : Int) < (qs.length : Int) := by omega
              obtain ⟨bd, rfl, hbd, hbdl, b0, b1, Y, dy, b2, hdy, hrow⟩ := (HATP6.out.below hBj) j hjl
              have HADD := Lib.hid (refAdd_nil _ qs[j].1 qs[j].2.1 Y qs[j].2.2.length dy (wr.alloc (.cells #[.int .u64 qs[j].1, .int .u64 qs[j].2.1, .slice Y qs[j].2.2.length dy] 36)) rfl)
              have HBJ : Hid (Below w6.heap.size w6 (wr.alloc (.cells #[.int .u64 qs[j].1, .int .u64 qs[j].2.1, .slice Y qs[j].2.2.length dy] 36))) := hBj.alloc hBj.size _
              clear hBj hrow hdy
              generalize qs[j].1 = ki at *
              generalize qs[j].2.1 = kd at *
              generalize qs[j].2.2.length = kl at *
              go_wp2_with fail
              refine (HADD.out).mono ?_
              rintro e w7 ⟨rfl, hb7⟩
              have HB7 : Hid (Below w6.heap.size w6 w7) := HBJ.out.trans (hb7.mono HBJ.out.size)
              clear hb7
              go_wp2_with fail
              go_roundw
              case rel => exact ⟨j + 1, by omega, by go_num, rfl, HB7.out⟩
              case measure => simp [intOf]; omega
            · obtain rfl : j = qs.length := by omega
              have q1 : ¬ ((qs.length : Int) < (qs.length : Int)) := by omega
              have HSM := Lib.hid (sameHits_any _ _ Am Ap cm cq qs wr (HATM.out.below hBj) (HATP6.out.below hBj) (by omega) HV1K.out)
              have HADD := Lib.hid (add_nil Am qs.length cm wr)
              have HBJ := Lib.hid hBj
              clear hBj
              go_wp2_with fail
              refine (HADD.out).mono ?_
              rintro e w8 ⟨rfl, rfl⟩
              go_wp2_with fail
              refine (HSM.out).mono ?_
              rintro e w9 ⟨rfl, hb9⟩
              have HB69 : Hid (Below w6.heap.size w6 w9) := HBJ.out.trans (hb9.mono HBJ.out.size)
              have HFL9 : Hid (Flip w5.heap.size w6.heap.size w9 Am qs) := HFL.out.kept (fun g h1 h2 => HB69.out.block g h2)
              have HB9 : Hid (Below w.heap.size w w9) := HB06.out.trans (HB69.out.mono HB06.out.size)
              clear hb9 HSM HADD HBJ HB69
              go_wp2_with fail
              go_loopw [96] (fun i wr => ∃ a : Nat, a ≤ qs.length ∧ i = .int .i64 a ∧ Flip w5.heap.size w6.heap.size wr Am qs ∧ Fz w5.heap.size w6.heap.size w9 wr) (fun i _ => qs.length - (intOf i).toNat)
              case atStart => exact ⟨0, Nat.zero_le _, rfl, HFL9.out, Fz.refl _ _ _⟩
              case round =>
                obtain ⟨a, ha, rfl, hFl, hFz⟩ := hrel
                by_cases hal : a < qs.length
                · have t1 : (a : Int) < (qs.length : Int) := by omega
                  obtain ⟨g, X9, d9, hA9, l1, l2, l3, l4⟩ := hFl a hal
                  subst hA9
                  have HFl := Lib.hid hFl
                  have HFz := Lib.hid hFz
                  have hvl : (qs[a]).2.2.length ≤ 1000 := HV1K.out _ (List.getElem_mem hal)
                  have HLEN : Hid (∀ (W : World), Flip w5.heap.size w6.heap.size W (some ⟨g, 0, none⟩) qs → ∃ X d, W.cell? ⟨g, a * 3 + 2, none⟩ = some (.slice X (qs[a]).2.2.length d) ∧ ∀ j, j < (qs[a]).2.2.length → ∃ q n, X = some ⟨q, 0, none⟩ ∧ w5.heap.size ≤ q ∧ q < w6.heap.size ∧ q ≠ g ∧ W.cell? ⟨q, j, none⟩ = some (.int .i32 n) ∧ W.frozen? ⟨q, j, none⟩ = false) := fun W hW => by
                    obtain ⟨g', X, d, e, _, _, m3, m4⟩ := hW a hal
                    injection e with e
                    injection e with e _ _
                    subst e
                    exact ⟨X, d, m3, m4⟩
                  clear hFl hFz l4
                  generalize (qs[a]).2.2.length = vl at *
                  go_wp2_with fail
                  obtain ⟨wo, hwo⟩ : ∃ x, x = wr := ⟨_, rfl⟩
                  subst hwo
                  go_loopw [105] (fun i wr => ∃ j : Nat, j ≤ vl ∧ i = .int .i64 j ∧ Flip w5.heap.size w6.heap.size wr (some ⟨g, 0, none⟩) qs ∧ Fz w5.heap.size w6.heap.size w9 wr) (fun i _ => vl - (intOf i).toNat)
                  case atStart => exact ⟨0, Nat.zero_le _, rfl, HFl.out, HFz.out⟩
                  case round =>
                    obtain ⟨j, hj, rfl, hFl, hFz⟩ := hrel
                    by_cases hjl : j < vl
                    · have t2 : (j : Int) < (vl : Int) := by omega
                      obtain ⟨X, d, m3, m4⟩ := HLEN.out wr hFl
                      obtain ⟨q, n, rfl, n1, n2, n3, n4, n5⟩ := m4 j hjl
                      have HFl2 := Lib.hid hFl
                      have HFz2 := Lib.hid hFz
                      have HN4 := Lib.hid n4
                      clear hFl hFz m4
                      go_wp2_with fail
                      exact ⟨⟨j + 1, by omega, by go_num, HFl2.out.set rfl n3 HN4.out, HFz2.out.set n1 n2 _ _⟩, by simp [intOf]; omega⟩
                    · have t2 : ¬ (j : Int) < (vl : Int) := by omega
                      have HFl2 := Lib.hid hFl
                      have HFz2 := Lib.hid hFz
                      clear hFl hFz
                      go_wp2_with fail
                      exact ⟨⟨a + 1, by omega, by go_num, HFl2.out, HFz2.out⟩, by simp [intOf]; omega⟩
                · have t1 : ¬ (a : Int) < (qs.length : Int) := by omega
                  have HBN : Hid (Below w.heap.size w wr) := HB9.out.trans ⟨hFz.os, hFz.tape, hFz.output, by rw [hFz.size]; exact Nat.le_refl _, fun g hg => hFz.block g (by have := HB9.out.size; omega)⟩
                  have HRH := Lib.hid (refHits_nil wr)
                  have HHN := Lib.hid (hits_nil wr)
                  have HWN := Lib.hid (worst_nil wr)
                  clear hFl hFz HFL9 HB9
                  go_wp2_with fail
                  refine (HRH.out).mono ?_
                  rintro e w11 ⟨rfl, rfl⟩
                  go_wp2_with fail
                  refine (HHN.out).mono ?_
                  rintro e w12 ⟨rfl, rfl⟩
                  go_wp2_with fail
                  refine (HWN.out).mono ?_
                  rintro e w13 ⟨rfl, hb13⟩
                  obtain ⟨w14, hw14⟩ : ∃ x, x = w13.alloc (.cells #[.int .u64 0, .int .u64 0, .slice none 0 0] 36) := ⟨_, rfl⟩
                  have HB14 : Hid (Below w.heap.size w w14) := by
                    rw [hw14]
                    have h1 := HBN.out.trans (hb13.mono HBN.out.size)
                    exact h1.alloc h1.size _
                  have HLN : Hid (∀ n, Calls Try.prog 18 #[.pointer none] (w14.drewN n) fun e w' => e = .returned (.int .i64 0) ∧ ∃ m, w' = w14.drewN m) := fun n => (len_nil (w14.drewN n)).mono fun e w' ⟨e1, e2⟩ => ⟨e1, n, e2.symm⟩
                  have HFU : Hid (∀ n, Calls Try.prog 19 #[.pointer none] (w14.drewN n) fun e w' => e = .returned (.bool false) ∧ ∃ m, w' = w14.drewN m) := fun n => (full_nil_q (w14.drewN n)).mono fun e w' ⟨e1, m, e2⟩ => ⟨e1, n + m, by rw [e2, World.drewN_drewN]⟩
                  have HSM1 : Hid (∀ n, Calls Try.prog 14 #[.slice none 0 0, .slice none 0 0] (w14.drewN n) fun e w' => e = .returned (.bool true) ∧ ∃ m, w' = w14.drewN m) := fun n => (sameHits_q0 none none 0 0 (w14.drewN n)).mono fun e w' ⟨e1, e2⟩ => ⟨e1, n, e2.symm⟩
                  have HW14 := Lib.hid hw14
                  clear hw14 hb13 HRH HHN HWN HBN
                  go_wp2_with fail
                  rw [← HW14.out]
                  go_quiet (first | (go_at_call 14; exact HSM1.out _) | (go_at_call 18; exact HLN.out _) | (go_at_call 19; exact HFU.out _))
                  go_wp2_with fail
                  obtain ⟨w15, hw15⟩ : ∃ x, x = w14.drewN nq := ⟨_, rfl⟩
                  have HB15 : Hid (Below w.heap.size w w15) := by rw [hw15]; exact below_drewN HB14.out nq
                  rw [← hw15]
                  clear hw15
                  go_loopw [176] (fun i wr => i = .int .i64 0 ∧ wr = w15) (fun _ _ => 0)
                  case atStart => exact ⟨rfl, rfl⟩
                  case round =>
                    obtain ⟨rfl, rfl⟩ := hrel
                    go_wp2_with fail
                    exact ⟨⟨k + 1, by omega, by omega, by go_num, HB15.out⟩, by simp [intOf]; omega⟩
        · have j1 : (k : Int) < (ps.length : Int) := by omega
          have j2 : (20 : Int) ≤ (k : Int) := by omega
          obtain ⟨ad, X, cp, rfl, _, _, g0, _⟩ := (HAT.out.below hBr) k c9
          have HBR := Lib.hid hBr
          clear hBr
          generalize ps[k].length = pl at *
          go_wp2_with fail
          go_ret
          exact ⟨rfl, HBR.out⟩
      · have j1 : ¬ (k : Int) < (ps.length : Int) := by omega
        have HBR := Lib.hid hBr
        clear hBr
        go_wp2_with fail
        go_ret
        exact ⟨rfl, HBR.out⟩

end Go.Proofs.Ytfhnhfppamnjhaa
