/-
  The law Sides, walked.
-/
import Derived.Test.YtdfmgfclcbeeiaaSidesM
namespace Go.Proofs.Ytdfmgfclcbeeiaa
open Go.RowKit Go.Maps Go.Sort
set_option linter.unusedSimpArgs false
set_option linter.unusedVariables false

set_option maxRecDepth 100000 in
set_option maxHeartbeats 8000000 in
theorem law_sides (A : Option Addr) (os : List OpG) (c : Nat) (w : World) (hat : OpsAt w A os) (hl : os.length ≤ 9223372036854775807) (hwf : OpsWf os) :
    Calls Try.prog 6 #[.slice A os.length c] w fun e w' => e = .returned (.bool true) ∧ Below w.heap.size w w' := by
  have HAT := Lib.hid hat
  have HWF := Lib.hid hwf
  have HAW := Lib.hid (awake_any w)
  obtain ⟨n, hn⟩ : ∃ n, n = os.length := ⟨_, rfl⟩
  rw [← hn] at hl ⊢
  have HN : Hid (os.length = n) := hn.symm
  clear hat hwf hn
  go_enter Try.func6, Try.ntmps6
  go_wp2_with fail
  refine (HAW.out).mono ?_
  rintro e w1 ⟨rfl, hb1⟩
  have HB1 := Lib.hid hb1
  have HNW := Lib.hid (new_nil w1)
  clear hb1
  go_wp2_with fail
  refine (HNW.out).mono ?_
  rintro e w2 ⟨rfl, hg2, hb2⟩
  have HT0 := Lib.hid (TwoS.start HB1.out hg2 hb2)
  obtain ⟨b, hbq⟩ : ∃ b, b = w1.heap.size + 1 := ⟨_, rfl⟩
  obtain ⟨mb, hmq⟩ : ∃ mb, mb = w1.heap.size := ⟨_, rfl⟩
  obtain ⟨B, hBq⟩ : ∃ B, B = w1.heap.size := ⟨_, rfl⟩
  obtain ⟨x, hxq⟩ : ∃ x, x = w2.heap.size := ⟨_, rfl⟩
  have HT1 : Hid (TwoS w B b mb x 0 [] [] (w2.alloc (.cells #[.slice none 0 0, .slice none 0 0] 30))) := by show TwoS _ _ _ _ _ _ _ _ _; rw [hbq, hmq, hBq, hxq]; exact HT0.out
  rw [← hbq]
  have HXQ := Lib.hid hxq
  clear hbq hmq hBq hg2 hb2 HT0 hxq
  go_wp2_with fail
  rw [← HXQ.out]
  go_loopw [5, 6, 21] (fun _ _ i wr => ∃ (k : Nat) (N : List Int) (E : List Edg), k ≤ n ∧ i = .int .i64 k ∧ TwoS w B b mb x (min k 60) N E wr) (fun _ _ i _ => n - (intOf i).toNat)
  case atStart => exact ⟨0, [], [], Nat.zero_le _, rfl, HT1.out⟩
  case round =>
    obtain ⟨k, N, E, hk, rfl, hT⟩ := hrel
    by_cases hlt : k < n
    · have hlt' : k < os.length := by rw [HN.out]; exact hlt
      obtain ⟨ad, rfl, _, q0, q1, q2⟩ := (HAT.out.below hT.below) k hlt'
      have hof := HWF.out _ (List.getElem_mem hlt')
      have i1 : (k : Int) < (n : Int) := by omega
      by_cases h60 : k < 60
      · have i2 : (k : Int) < 60 := by omega
        have hm1 : min k 60 = k := by omega
        have hm2 : min (k + 1) 60 = k + 1 := by omega
        rw [hm1] at hT
        have HM2 := Lib.hid hm2
        have HD := Lib.hid (hT.doo (by omega) hof (W := wr.alloc (.cells #[.int .u8 (os[k]'hlt').1, .int .u64 (os[k]'hlt').2.1, .int .u64 (os[k]'hlt').2.2] 34)) ((Below.refl _ _).alloc (Nat.le_refl _) _))
        clear hT hm1 hm2 hof
        generalize (os[k]'hlt').1 = z0 at *
        generalize (os[k]'hlt').2.1 = z1 at *
        generalize (os[k]'hlt').2.2 = z2 at *
        go_wp2_with fail
        refine (HD.out).mono ?_
        rintro e w3 ⟨rfl, ⟨N', E', hT'⟩, _⟩
        have HT' : Hid (TwoS w B b mb x (min (k + 1) 60) N' E' w3) := by show TwoS _ _ _ _ _ _ _ _ _; rw [HM2.out]; exact hT'
        clear hT'
        go_wp2_with fail
        go_roundw
        case rel => exact ⟨k + 1, N', E', by omega, by go_num, HT'.out⟩
        case measure => simp [intOf]; omega
      · have i2 : ¬ (k : Int) < 60 := by omega
        have HT' : Hid (TwoS w B b mb x (min (k + 1) 60) N E (wr.alloc (.cells #[.int .u8 (os[k]'hlt').1, .int .u64 (os[k]'hlt').2.1, .int .u64 (os[k]'hlt').2.2] 34))) := by
          have := (hT.more (L' := min (k + 1) 60) (by omega)).go (W := wr.alloc (.cells #[.int .u8 (os[k]'hlt').1, .int .u64 (os[k]'hlt').2.1, .int .u64 (os[k]'hlt').2.2] 34)) ((Below.refl _ _).alloc (Nat.le_refl _) _)
          exact this
        clear hT hof
        generalize (os[k]'hlt').1 = z0 at *
        generalize (os[k]'hlt').2.1 = z1 at *
        generalize (os[k]'hlt').2.2 = z2 at *
        go_wp2_with fail
        go_roundw
        case rel => exact ⟨k + 1, N, E, by omega, by go_num, HT'.out⟩
        case measure => simp [intOf]; omega
    · have i1 : ¬ (k : Int) < (n : Int) := by omega
      have HT : Hid (TwoS w B b mb x 60 N E wr) := hT.more (by omega)
      clear hT
      have HKY := Lib.hid (HT.out.keys (by omega) (Below.refl _ _))
      obtain ⟨W1, rfl⟩ : ∃ y, y = wr := ⟨wr, rfl⟩
      go_wp2_with fail
      refine (HKY.out).mono ?_
      rintro e w4 ⟨A4, c4, m4, ks, rfl, hm4, hc4, hl4, hr4, hri4, _, hb4⟩
      have hke := keys_eq HT.out hri4
      subst hke
      have HM4 := Lib.hid hm4
      have HR4 := Lib.hid hr4
      have HB4 := Lib.hid hb4
      clear HKY hm4 hr4 hri4 hb4
      go_wp2_with fail
      go_loopw [7, 8, 11, 39] (fun s7 s8 _ i wx => ∃ j : Nat, j ≤ m4 ∧ i = .int .i64 j ∧ s7 = .int .i64 (sumL (fun k => (nearL E k false).length) (ks.take j) : Nat) ∧ s8 = .int .i64 (sumL (fun k => (nearL E k true).length) (ks.take j) : Nat) ∧ sumL (fun k => (nearL E k false).length) (ks.take j) ≤ j * 1000 ∧ sumL (fun k => (nearL E k true).length) (ks.take j) ≤ j * 1000 ∧ Below w4.heap.size w4 wx) (fun _ _ _ i _ => m4 - (intOf i).toNat)
      case atStart => exact ⟨0, Nat.zero_le _, rfl, rfl, rfl, by simp [sumL], by simp [sumL], Below.refl _ _⟩
      case round =>
        obtain ⟨j, hj, rfl, rfl, rfl, hs7, hs8, hbx⟩ := hrel
        by_cases hjl : j < m4
        · have hj' : j < ks.length := by rw [HM4.out]; exact hjl
          obtain ⟨ad4, rfl, _, hcj⟩ := (HR4.out.below hbx) j (by rw [us_len]; exact hj')
          rw [us_at hj'] at hcj
          have t1 : (j : Int) < (m4 : Int) := by omega
          obtain ⟨W2, rfl⟩ : ∃ y, y = wr := ⟨wr, rfl⟩
          have HB2 : Hid (Below W1.heap.size W1 W2) := HB4.out.trans (hbx.mono HB4.out.size)
          have HTK := Lib.hid (take_snoc ks j hj')
          obtain ⟨p, hp⟩ : ∃ p, p = ks.getD j 0 := ⟨_, rfl⟩
          have HPN : Hid (p ∈ ks) := by show p ∈ ks; rw [hp]; exact getD_mem hj'
          have HPU := Lib.hid (HT.out.u64 p HPN.out)
          rw [← hp] at hcj HTK
          have HNR := Lib.hid (HT.out.near (a := p) (by omega) HB2.out HPU.out)
          have HBX := Lib.hid hbx
          have HS7 : Hid (sumL (fun k => (nearL E k false).length) (ks.take (j + 1)) = sumL (fun k => (nearL E k false).length) (ks.take j) + (nearL E p false).length) := by show _ = _; rw [HTK.out, sumL_snoc]
          have HS8 : Hid (sumL (fun k => (nearL E k true).length) (ks.take (j + 1)) = sumL (fun k => (nearL E k true).length) (ks.take j) + (nearL E p true).length) := by show _ = _; rw [HTK.out, sumL_snoc]
          generalize sumL (fun k => (nearL E k false).length) (ks.take j) = S7 at *
          generalize sumL (fun k => (nearL E k true).length) (ks.take j) = S8 at *
          have t7 : (S7 : Int) ≤ 1000000 := by omega
          have t8 : (S8 : Int) ≤ 1000000 := by omega
          clear hp hbx hj'
          go_wp2_with fail
          refine (HNR.out).mono ?_
          rintro e w5 ⟨A5, c5, m5, ys, rfl, hm5, hc5, hl5, hr5, hri5, _, hb5⟩
          have HM5 : Hid (m5 = (nearL E p false).length) := by show _ = _; rw [← hm5]; exact near_len HT.out.good hri5
          have HB25 := Lib.hid hb5
          have HB5 : Hid (Below W1.heap.size W1 w5) := HB2.out.trans (hb5.mono HB2.out.size)
          have HSO := Lib.hid (HT.out.soft (a := p) (by omega) HB5.out HPU.out)
          clear hm5 hr5 hri5 hb5 HNR
          go_wp2_with fail
          refine (HSO.out).mono ?_
          rintro e w6 ⟨A6, c6, m6, z6, rfl, hm6, hc6, hl6, hr6, hri6, _, hb6⟩
          have HM6 : Hid (m6 = (nearL E p true).length) := by show _ = _; rw [← hm6]; exact soft_len HT.out.good hri6
          have HBN : Hid (Below w4.heap.size w4 w6) := by
            have h1 := HBX.out.size
            have h2 := HB25.out.size
            exact (HBX.out.trans (HB25.out.mono h1)).trans (hb6.mono (by omega))
          clear hm6 hr6 hri6 hb6 HSO
          go_wp2_with fail
          go_roundw
          case rel => exact ⟨j + 1, by omega, by go_num, by rw [HS7.out, ← HM5.out]; go_num, by rw [HS8.out, ← HM6.out]; go_num, by rw [HS7.out, ← HM5.out]; omega, by rw [HS8.out, ← HM6.out]; omega, HBN.out⟩
          case measure => simp [intOf]; omega
        · have t1 : ¬ (j : Int) < (m4 : Int) := by omega
          obtain ⟨W2, rfl⟩ : ∃ y, y = wr := ⟨wr, rfl⟩
          have hb2 : Below W1.heap.size W1 W2 := HB4.out.trans (hbx.mono HB4.out.size)
          have hnd : ks.Nodup := HT.out.rise.imp fun h => by omega
          rw [List.take_of_length_le (by rw [HM4.out]; omega), degrees false ks hnd E HT.out.good, (ok_len E).1, degrees true ks hnd E HT.out.good]
          obtain ⟨S8, hS8⟩ : ∃ S, S = (E.filter (okE true)).length := ⟨_, rfl⟩
          rw [← hS8]
          have HSE : Hid (S8 + needs E = E.length) := by show _ = _; rw [hS8]; exact (ok_len E).2
          obtain ⟨vN, vE, hR⟩ := (HT.out.go hb2).r
          have c1 := hR.cell1
          obtain ⟨A6, c6, rfl, hc6, _, hE6⟩ := Edges.of_own hR.edges
          have HE6 := Lib.hid hE6
          have hEl := HT.out.el
          obtain ⟨m, hm⟩ : ∃ m, m = E.length := ⟨_, rfl⟩
          rw [← hm] at c1 hc6 hEl ⊢
          have HM : Hid (E.length = m) := hm.symm
          have HB2 := Lib.hid hb2
          have HC1 : Hid (∀ W, Below W2.heap.size W2 W → W.cell? ⟨x, 1, none⟩ = some (.slice A6 m c6)) := fun W hW => by have := (hR.below hW).cell1; rw [← hm] at this; exact this
          clear hbx hb2 hnd hS8 hR hE6 hm hs7 hs8
          go_wp2_with fail
          go_loopw [9, 13, 61] (fun s9 _ i wx => ∃ q : Nat, q ≤ m ∧ i = .int .i64 q ∧ s9 = .int .i64 (needs (E.take q) : Nat) ∧ Below W2.heap.size W2 wx) (fun _ _ i _ => m - (intOf i).toNat)
          case atStart => exact ⟨0, Nat.zero_le _, rfl, rfl, Below.refl _ _⟩
          case round =>
            obtain ⟨q, hq, rfl, rfl, hbx⟩ := hrel
            by_cases hql : q < m
            · have hq' : q < E.length := by rw [HM.out]; exact hql
              obtain ⟨ad6, rfl, _, p0, p1, p2⟩ := (HE6.out.below hbx) q hq'
              have t2 : (q : Int) < (m : Int) := by omega
              have HNS : Hid (needs (E.take (q + 1)) = needs (E.take q) + if (E[q]'hq').2.2 then 1 else 0) := by show _ = _; rw [take_succ_edge hq', needs_snoc]
              have hnq : needs (E.take q) ≤ 1000 := Nat.le_trans (needs_le _) (by rw [List.length_take]; omega)
              have HBN : Hid (Below W2.heap.size W2 (wr.alloc (.cells #[.int .u64 (E[q]'hq').1, .int .u64 (E[q]'hq').2.1, .bool (E[q]'hq').2.2] 50))) := hbx.alloc hbx.size _
              generalize needs (E.take q) = nq at *
              generalize (E[q]'hq').1 = z0 at *
              generalize (E[q]'hq').2.1 = z1 at *
              generalize (E[q]'hq').2.2 = z2 at *
              clear hbx hq'
              cases z2
              · go_wp2_with fail
                go_roundw
                case rel => exact ⟨q + 1, by omega, by go_num, by rw [HNS.out]; rfl, HBN.out⟩
                case measure => simp [intOf]; omega
              · go_wp2_with fail
                go_roundw
                case rel => exact ⟨q + 1, by omega, by go_num, by rw [HNS.out]; go_num, HBN.out⟩
                case measure => simp [intOf]; omega
            · have t2 : ¬ (q : Int) < (m : Int) := by omega
              rw [List.take_of_length_le (by rw [HM.out]; omega)]
              have c2 := HC1.out _ hbx
              have hse := HSE.out
              rw [HM.out] at hse
              obtain ⟨k9, hk9⟩ : ∃ k9, k9 = needs E := ⟨_, rfl⟩
              rw [← hk9] at hse ⊢
              have u1 : ((m : Int) - (k9 : Int)) = (S8 : Int) := by omega
              have HU := Lib.hid hse
              have HFIN : Hid (Below w.heap.size w wr) := HT.out.below.trans ((HB2.out.trans (hbx.mono HB2.out.size)).mono HT.out.below.size)
              have u2 : (m : Int) ≤ 1000 := by omega
              have u3 : (k9 : Int) ≤ 1000 := by omega
              clear hbx hk9 hse c1
              go_wp2_with fail
              go_ret
              exact ⟨rfl, HFIN.out⟩

end Go.Proofs.Ytdfmgfclcbeeiaa
