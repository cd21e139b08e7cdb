/-
  The law Both, walked.
-/
import Derived.Test.YtdfmgfclcbeeiaaGLaw1
namespace Go.Proofs.Ytdfmgfclcbeeiaa
open Go.RowKit Go.Maps Go.Sort
set_option linter.unusedSimpArgs false
set_option linter.unusedVariables false

set_option maxRecDepth 100000 in
set_option maxHeartbeats 8000000 in
theorem law_both (A : Option Addr) (os : List OpG) (c : Nat) (w : World) (hat : OpsAt w A os) (hl : os.length ≤ 9223372036854775807) (hwf : OpsWf os) :
    Calls Try.prog 4 #[.slice A os.length c] w fun e w' => e = .returned (.bool true) ∧ Below w.heap.size w w' := by
  have HAT := Lib.hid hat
  have HWF := Lib.hid hwf
  have HAW := Lib.hid (awake_any w)
  obtain ⟨n, hn⟩ : ∃ n, n = os.length := ⟨_, rfl⟩
  rw [← hn] at hl ⊢
  have HN : Hid (os.length = n) := hn.symm
  clear hat hwf hn
  go_enter Try.func4, Try.ntmps4
  go_wp2_with fail
  refine (HAW.out).mono ?_
  rintro e w1 ⟨rfl, hb1⟩
  have HB1 := Lib.hid hb1
  have HNW := Lib.hid (new_nil w1)
  clear hb1
  go_wp2_with fail
  refine (HNW.out).mono ?_
  rintro e w2 ⟨rfl, hg2, hb2⟩
  have HT0 := Lib.hid (TwoS.start HB1.out hg2 hb2)
  obtain ⟨b, hbq⟩ : ∃ b, b = w1.heap.size + 1 := ⟨_, rfl⟩
  obtain ⟨mb, hmq⟩ : ∃ mb, mb = w1.heap.size := ⟨_, rfl⟩
  obtain ⟨B, hBq⟩ : ∃ B, B = w1.heap.size := ⟨_, rfl⟩
  obtain ⟨x, hxq⟩ : ∃ x, x = w2.heap.size := ⟨_, rfl⟩
  have HT1 : Hid (TwoS w B b mb x 0 [] [] (w2.alloc (.cells #[.slice none 0 0, .slice none 0 0] 30))) := by show TwoS _ _ _ _ _ _ _ _ _; rw [hbq, hmq, hBq, hxq]; exact HT0.out
  rw [← hbq]
  have HXQ := Lib.hid hxq
  clear hbq hmq hBq hg2 hb2 HT0 hxq
  go_wp2_with fail
  rw [← HXQ.out]
  go_loopw [5, 6, 20] (fun _ _ i wr => ∃ (k : Nat) (N : List Int) (E : List Edg), k ≤ n ∧ i = .int .i64 k ∧ TwoS w B b mb x (min k 60) N E wr) (fun _ _ i _ => n - (intOf i).toNat)
  case atStart => exact ⟨0, [], [], Nat.zero_le _, rfl, HT1.out⟩
  case round =>
    obtain ⟨k, N, E, hk, rfl, hT⟩ := hrel
    by_cases hlt : k < n
    · have hlt' : k < os.length := by rw [HN.out]; exact hlt
      obtain ⟨ad, rfl, _, q0, q1, q2⟩ := (HAT.out.below hT.below) k hlt'
      have hof := HWF.out _ (List.getElem_mem hlt')
      have i1 : (k : Int) < (n : Int) := by omega
      by_cases h60 : k < 60
      · have i2 : (k : Int) < 60 := by omega
        have hm1 : min k 60 = k := by omega
        have hm2 : min (k + 1) 60 = k + 1 := by omega
        rw [hm1] at hT
        have HM2 := Lib.hid hm2
        have HD := Lib.hid (hT.doo (by omega) hof (W := wr.alloc (.cells #[.int .u8 (os[k]'hlt').1, .int .u64 (os[k]'hlt').2.1, .int .u64 (os[k]'hlt').2.2] 34)) ((Below.refl _ _).alloc (Nat.le_refl _) _))
        clear hT hm1 hm2 hof
        generalize (os[k]'hlt').1 = z0 at *
        generalize (os[k]'hlt').2.1 = z1 at *
        generalize (os[k]'hlt').2.2 = z2 at *
        go_wp2_with fail
        refine (HD.out).mono ?_
        rintro e w3 ⟨rfl, ⟨N', E', hT'⟩, _⟩
        have HT' : Hid (TwoS w B b mb x (min (k + 1) 60) N' E' w3) := by show TwoS _ _ _ _ _ _ _ _ _; rw [HM2.out]; exact hT'
        clear hT'
        go_wp2_with fail
        go_roundw
        case rel => exact ⟨k + 1, N', E', by omega, by go_num, HT'.out⟩
        case measure => simp [intOf]; omega
      · have i2 : ¬ (k : Int) < 60 := by omega
        have HT' : Hid (TwoS w B b mb x (min (k + 1) 60) N E (wr.alloc (.cells #[.int .u8 (os[k]'hlt').1, .int .u64 (os[k]'hlt').2.1, .int .u64 (os[k]'hlt').2.2] 34))) := by
          have := (hT.more (L' := min (k + 1) 60) (by omega)).go (W := wr.alloc (.cells #[.int .u8 (os[k]'hlt').1, .int .u64 (os[k]'hlt').2.1, .int .u64 (os[k]'hlt').2.2] 34)) ((Below.refl _ _).alloc (Nat.le_refl _) _)
          exact this
        clear hT hof
        generalize (os[k]'hlt').1 = z0 at *
        generalize (os[k]'hlt').2.1 = z1 at *
        generalize (os[k]'hlt').2.2 = z2 at *
        go_wp2_with fail
        go_roundw
        case rel => exact ⟨k + 1, N, E, by omega, by go_num, HT'.out⟩
        case measure => simp [intOf]; omega
    · have i1 : ¬ (k : Int) < (n : Int) := by omega
      have HT : Hid (TwoS w B b mb x 60 N E wr) := hT.more (by omega)
      clear hT
      have HKY := Lib.hid (HT.out.keys (by omega) (Below.refl _ _))
      obtain ⟨W1, rfl⟩ : ∃ y, y = wr := ⟨wr, rfl⟩
      go_wp2_with fail
      refine (HKY.out).mono ?_
      rintro e w4 ⟨A4, c4, m4, ks, rfl, hm4, hc4, hl4, hr4, hri4, _, hb4⟩
      have HKE := Lib.hid (keys_eq HT.out hri4)
      have HM4 := Lib.hid hm4
      have HR4 := Lib.hid hr4
      have HB4 := Lib.hid hb4
      clear HKY hm4 hr4 hri4 hb4
      go_wp2_with fail
      go_loopw [8, 10, 12, 38, 46, 79] (fun _ _ _ i _ _ wx => ∃ j : Nat, j ≤ m4 ∧ i = .int .i64 j ∧ Below w4.heap.size w4 wx) (fun _ _ _ i _ _ _ => m4 - (intOf i).toNat)
      case atStart => exact ⟨0, Nat.zero_le _, rfl, Below.refl _ _⟩
      case round =>
        obtain ⟨j, hj, rfl, hbx⟩ := hrel
        by_cases hjl : j < m4
        · have hj' : j < ks.length := by rw [HM4.out]; exact hjl
          obtain ⟨ad4, rfl, _, hcj⟩ := (HR4.out.below hbx) j (by rw [us_len]; exact hj')
          rw [us_at hj'] at hcj
          have t1 : (j : Int) < (m4 : Int) := by omega
          obtain ⟨W2, rfl⟩ : ∃ y, y = wr := ⟨wr, rfl⟩
          have HB2 : Hid (Below W1.heap.size W1 W2) := HB4.out.trans (hbx.mono HB4.out.size)
          obtain ⟨p, hp⟩ : ∃ p, p = ks.getD j 0 := ⟨_, rfl⟩
          have HPN : Hid (p ∈ N) := by show p ∈ N; rw [hp, ← HKE.out]; exact getD_mem hj'
          have HPU := Lib.hid (HT.out.u64 p HPN.out)
          rw [← hp] at hcj
          have HNR := Lib.hid (HT.out.near (a := p) (by omega) HB2.out HPU.out)
          have HBX := Lib.hid hbx
          clear hp hbx hj'
          go_wp2_with fail
          refine (HNR.out).mono ?_
          rintro e w5 ⟨A5, c5, m5, ys, rfl, hm5, hc5, hl5, hr5, hri5, _, hb5⟩
          have HM5 := Lib.hid hm5
          have HR5 := Lib.hid hr5
          have HI5 := Lib.hid hri5
          have HB5 : Hid (Below W2.heap.size W2 w5) := hb5
          clear hm5 hr5 hri5 hb5 HNR
          go_wp2_with fail
          go_loopw [10, 46] (fun _ i wx => ∃ q : Nat, q ≤ m5 ∧ i = .int .i64 q ∧ Below w5.heap.size w5 wx) (fun _ i _ => m5 - (intOf i).toNat)
          case atStart => exact ⟨0, Nat.zero_le _, rfl, Below.refl _ _⟩
          case round =>
            obtain ⟨q, hq, rfl, hbx⟩ := hrel
            by_cases hql : q < m5
            · have hq' : q < ys.length := by rw [HM5.out]; exact hql
              obtain ⟨ad5, rfl, _, hcq⟩ := (HR5.out.below hbx) q (by rw [us_len]; exact hq')
              rw [us_at hq'] at hcq
              have t2 : (q : Int) < (m5 : Int) := by omega
              obtain ⟨W3, rfl⟩ : ∃ y, y = wr := ⟨wr, rfl⟩
              have HB53 := Lib.hid hbx
              have HB3 : Hid (Below W1.heap.size W1 W3) := (HB2.out.trans (HB5.out.mono HB2.out.size)).trans (hbx.mono (by have := HB2.out.size; have := HB5.out.size; omega))
              obtain ⟨s, hs⟩ : ∃ s, s = ys.getD q 0 := ⟨_, rfl⟩
              have HSE : Hid (fE E p s ≠ 0) := by show fE E p s ≠ 0; rw [hs]; exact (HI5.out.2 _).1 (getD_mem hq')
              have HSU : Hid (U64 s) := HT.out.u64 s (fE_nodes HT.out.good HSE.out).2.1
              have hps : (p == s) = false := by simpa using (fE_nodes HT.out.good HSE.out).2.2
              have HSYM : Hid (fE E s p = fE E p s) := fE_sym E s p
              rw [← hs] at hcq
              have HN2 := Lib.hid (HT.out.near (a := s) (by omega) HB3.out HSU.out)
              clear hs hbx hq'
              go_wp2_with fail
              refine (HN2.out).mono ?_
              rintro e w6 ⟨A6, c6, m6, z6, rfl, hm6, hc6, hl6, hr6, hri6, _, hb6⟩
              have hin := in_any A6 c6 m6 z6 p w6 hm6 hr6 (by omega)
              rw [rise_has hri6 (show fE E s p ≠ 0 by rw [HSYM.out]; exact HSE.out)] at hin
              have HIN := Lib.hid hin
              have HB6 : Hid (Below W1.heap.size W1 w6) := HB3.out.trans (hb6.mono HB3.out.size)
              have HB36 := Lib.hid hb6
              have HSO := Lib.hid (HT.out.soft (a := p) (by omega) HB6.out HPU.out)
              clear hm6 hr6 hri6 hb6 hin HN2
              go_wp2_with fail
              refine (HIN.out).mono ?_
              rintro e wq ⟨rfl, hwq⟩
              have hwq := hwq.symm
              subst hwq
              go_wp2_with fail
              refine (HSO.out).mono ?_
              rintro e w7 ⟨A7, c7, m7, z7, rfl, hm7, hc7, hl7, hr7, hri7, _, hb7⟩
              have HI1 := Lib.hid (in_any A7 c7 m7 z7 s w7 hm7 hr7 (by omega))
              have HR7 := Lib.hid hri7
              have HB7 : Hid (Below W1.heap.size W1 w7) := HB6.out.trans (hb7.mono HB6.out.size)
              have HB67 := Lib.hid hb7
              have HSO2 := Lib.hid (HT.out.soft (a := s) (by omega) HB7.out HSU.out)
              clear hm7 hr7 hri7 hb7 HSO HIN
              go_wp2_with fail
              refine (HI1.out).mono ?_
              rintro e wq ⟨rfl, hwq⟩
              have hwq := hwq.symm
              subst hwq
              go_wp2_with fail
              refine (HSO2.out).mono ?_
              rintro e w8 ⟨A8, c8, m8, z8, rfl, hm8, hc8, hl8, hr8, hri8, _, hb8⟩
              have hin2 := in_any A8 c8 m8 z8 p w8 hm8 hr8 (by omega)
              rw [← rise_eqv HR7.out hri8 (y := s) (z := p) (by rw [HSYM.out])] at hin2
              have HI2 := Lib.hid hin2
              have HBN : Hid (Below w5.heap.size w5 w8) := by
                have h1 := HB53.out.size
                have h2 := HB36.out.size
                have h3 := HB67.out.size
                exact ((HB53.out.trans (HB36.out.mono h1)).trans (HB67.out.mono (by omega))).trans (hb8.mono (by omega))
              obtain ⟨hv, hhv⟩ : ∃ hv, hv = hasN z7 s := ⟨_, rfl⟩
              rw [← hhv] at HI2 ⊢
              clear hm8 hr8 hri8 hb8 hin2 HSO2 HI1 hhv
              go_wp2_with fail
              refine (HI2.out).mono ?_
              rintro e wq ⟨rfl, hwq⟩
              have hwq := hwq.symm
              subst hwq
              cases hv
              all_goals
                go_wp2_with fail
                go_roundw
                case rel => exact ⟨q + 1, by omega, by go_num, HBN.out⟩
                case measure => simp [intOf]; omega
            · have t2 : ¬ (q : Int) < (m5 : Int) := by omega
              obtain ⟨W3, rfl⟩ : ∃ y, y = wr := ⟨wr, rfl⟩
              have HB53 := Lib.hid hbx
              have HB3 : Hid (Below W1.heap.size W1 W3) := (HB2.out.trans (HB5.out.mono HB2.out.size)).trans (hbx.mono (by have := HB2.out.size; have := HB5.out.size; omega))
              have HRE := Lib.hid (HT.out.reach (a := p) (by omega) HB3.out HPU.out)
              clear hbx
              go_wp2_with fail
              refine (HRE.out).mono ?_
              rintro e w6 ⟨A6, c6, m6, rs, rfl, hm6, hc6, hl6, hr6, hri6, _, hb6⟩
              have HM6 := Lib.hid hm6
              have HR6 := Lib.hid hr6
              have HI6 := Lib.hid hri6
              have HB6 : Hid (Below W3.heap.size W3 w6) := hb6
              clear hm6 hr6 hri6 hb6 HRE
              go_wp2_with fail
              go_loopw [12, 79] (fun _ i wx => ∃ q : Nat, q ≤ m6 ∧ i = .int .i64 q ∧ Below w6.heap.size w6 wx) (fun _ i _ => m6 - (intOf i).toNat)
              case atStart => exact ⟨0, Nat.zero_le _, rfl, Below.refl _ _⟩
              case round =>
                obtain ⟨g, hg, rfl, hbx⟩ := hrel
                by_cases hgl : g < m6
                · have hg' : g < rs.length := by rw [HM6.out]; exact hgl
                  obtain ⟨ad6, rfl, _, hcg⟩ := (HR6.out.below hbx) g (by rw [us_len]; exact hg')
                  rw [us_at hg'] at hcg
                  have t3 : (g : Int) < (m6 : Int) := by omega
                  obtain ⟨W4, rfl⟩ : ∃ y, y = wr := ⟨wr, rfl⟩
                  have HB64 := Lib.hid hbx
                  have HB4x : Hid (Below W1.heap.size W1 W4) := (HB3.out.trans (HB6.out.mono HB3.out.size)).trans (hbx.mono (by have := HB3.out.size; have := HB6.out.size; omega))
                  obtain ⟨s, hs⟩ : ∃ s, s = rs.getD g 0 := ⟨_, rfl⟩
                  have HSW : Hid (p ∈ N ∧ Way (fun a c => fE E a c ≠ 0) p s) := by show _ ∧ _; rw [hs]; exact (HI6.out.2 _).1 (getD_mem hg')
                  have HSN : Hid (s ∈ N) := reach_in HT.out.good HSW.out.1 HSW.out.2
                  have HSU : Hid (U64 s) := HT.out.u64 s HSN.out
                  have HBK : Hid (Way (fun a c => fE E a c ≠ 0) s p) := HSW.out.2.symm (fun a c hh => by rw [fE_sym]; exact hh)
                  rw [← hs] at hcg
                  have HR2 := Lib.hid (HT.out.reach (a := s) (by omega) HB4x.out HSU.out)
                  clear hs hbx hg'
                  go_wp2_with fail
                  refine (HR2.out).mono ?_
                  rintro e w7 ⟨A7, c7, m7, z7, rfl, hm7, hc7, hl7, hr7, hri7, _, hb7⟩
                  have hin := in_any A7 c7 m7 z7 p w7 hm7 hr7 (by omega)
                  rw [rise_has hri7 (show s ∈ N ∧ Way (fun a c => fE E a c ≠ 0) s p from ⟨HSN.out, HBK.out⟩)] at hin
                  have HIN := Lib.hid hin
                  have HBN : Hid (Below w6.heap.size w6 w7) := HB64.out.trans (hb7.mono HB64.out.size)
                  clear hm7 hr7 hri7 hb7 hin HR2
                  go_wp2_with fail
                  refine (HIN.out).mono ?_
                  rintro e wq ⟨rfl, hwq⟩
                  have hwq := hwq.symm
                  subst hwq
                  go_wp2_with fail
                  go_roundw
                  case rel => exact ⟨g + 1, by omega, by go_num, HBN.out⟩
                  case measure => simp [intOf]; omega
                · have t3 : ¬ (g : Int) < (m6 : Int) := by omega
                  have HBN : Hid (Below w4.heap.size w4 wr) := by
                    have h1 := HBX.out.size
                    have h2 := HB5.out.size
                    have h3 := HB53.out.size
                    have h4 := HB6.out.size
                    exact (((HBX.out.trans (HB5.out.mono h1)).trans (HB53.out.mono (by omega))).trans (HB6.out.mono (by omega))).trans (hbx.mono (by omega))
                  clear hbx
                  go_wp2_with fail
                  go_roundw
                  case rel => exact ⟨j + 1, by omega, by go_num, HBN.out⟩
                  case measure => simp [intOf]; omega
        · have t1 : ¬ (j : Int) < (m4 : Int) := by omega
          have HFIN : Hid (Below w.heap.size w wr) := HT.out.below.trans ((HB4.out.trans (hbx.mono HB4.out.size)).mono HT.out.below.size)
          clear hbx
          go_wp2_with fail
          go_ret
          exact ⟨rfl, HFIN.out⟩

end Go.Proofs.Ytdfmgfclcbeeiaa
