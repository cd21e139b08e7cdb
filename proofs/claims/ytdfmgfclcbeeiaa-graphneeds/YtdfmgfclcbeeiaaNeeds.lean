/-
  The law Needs, walked.
-/
import Derived.Test.YtdfmgfclcbeeiaaCutS
namespace Go.Proofs.Ytdfmgfclcbeeiaa
open Go.RowKit Go.Maps Go.Sort
set_option linter.unusedSimpArgs false
set_option linter.unusedVariables false

set_option maxRecDepth 100000 in
set_option maxHeartbeats 8000000 in
theorem law_needs (A : Option Addr) (os : List OpG) (c : Nat) (A2 : Option Addr) (cuts : List OpG) (c2 : Nat) (w : World) (hat : OpsAt w A os) (hl : os.length ≤ 9223372036854775807) (hwf : OpsWf os) (hat2 : OpsAt w A2 cuts) (hl2 : cuts.length ≤ 9223372036854775807) (hwf2 : OpsWf cuts) :
    Calls Try.prog 5 #[.slice A os.length c, .slice A2 cuts.length c2] w fun e w' => e = .returned (.bool true) ∧ Below w.heap.size w w' := by
  have HAT2 := Lib.hid hat2
  have HWF2 := Lib.hid hwf2
  obtain ⟨n2, hn2⟩ : ∃ n2, n2 = cuts.length := ⟨_, rfl⟩
  rw [← hn2] at hl2 ⊢
  have HN2 : Hid (cuts.length = n2) := hn2.symm
  clear hat2 hwf2 hn2
  have HAT := Lib.hid hat
  have HWF := Lib.hid hwf
  have HAW := Lib.hid (awake_any w)
  obtain ⟨n, hn⟩ : ∃ n, n = os.length := ⟨_, rfl⟩
  rw [← hn] at hl ⊢
  have HN : Hid (os.length = n) := hn.symm
  clear hat hwf hn
  go_enter Try.func5, Try.ntmps5
  go_wp2_with fail
  refine (HAW.out).mono ?_
  rintro e w1 ⟨rfl, hb1⟩
  have HB1 := Lib.hid hb1
  have HNW := Lib.hid (new_nil w1)
  clear hb1
  go_wp2_with fail
  refine (HNW.out).mono ?_
  rintro e w2 ⟨rfl, hg2, hb2⟩
  have HT0 := Lib.hid (TwoS.start HB1.out hg2 hb2)
  obtain ⟨b, hbq⟩ : ∃ b, b = w1.heap.size + 1 := ⟨_, rfl⟩
  obtain ⟨mb, hmq⟩ : ∃ mb, mb = w1.heap.size := ⟨_, rfl⟩
  obtain ⟨B, hBq⟩ : ∃ B, B = w1.heap.size := ⟨_, rfl⟩
  obtain ⟨x, hxq⟩ : ∃ x, x = w2.heap.size := ⟨_, rfl⟩
  have HT1 : Hid (TwoS w B b mb x 0 [] [] (w2.alloc (.cells #[.slice none 0 0, .slice none 0 0] 30))) := by show TwoS _ _ _ _ _ _ _ _ _; rw [hbq, hmq, hBq, hxq]; exact HT0.out
  rw [← hbq]
  have HXQ := Lib.hid hxq
  clear hbq hmq hBq hg2 hb2 HT0 hxq
  go_wp2_with fail
  rw [← HXQ.out]
  go_loopw [7, 8, 22] (fun _ _ i wr => ∃ (k : Nat) (N : List Int) (E : List Edg), k ≤ n ∧ i = .int .i64 k ∧ TwoS w B b mb x (min k 60) N E wr) (fun _ _ i _ => n - (intOf i).toNat)
  case atStart => exact ⟨0, [], [], Nat.zero_le _, rfl, HT1.out⟩
  case round =>
    obtain ⟨k, N, E, hk, rfl, hT⟩ := hrel
    by_cases hlt : k < n
    · have hlt' : k < os.length := by rw [HN.out]; exact hlt
      obtain ⟨ad, rfl, _, q0, q1, q2⟩ := (HAT.out.below hT.below) k hlt'
      have hof := HWF.out _ (List.getElem_mem hlt')
      have i1 : (k : Int) < (n : Int) := by omega
      by_cases h60 : k < 60
      · have i2 : (k : Int) < 60 := by omega
        have hm1 : min k 60 = k := by omega
        have hm2 : min (k + 1) 60 = k + 1 := by omega
        rw [hm1] at hT
        have HM2 := Lib.hid hm2
        have HD := Lib.hid (hT.doo (by omega) hof (W := wr.alloc (.cells #[.int .u8 (os[k]'hlt').1, .int .u64 (os[k]'hlt').2.1, .int .u64 (os[k]'hlt').2.2] 34)) ((Below.refl _ _).alloc (Nat.le_refl _) _))
        clear hT hm1 hm2 hof
        generalize (os[k]'hlt').1 = z0 at *
        generalize (os[k]'hlt').2.1 = z1 at *
        generalize (os[k]'hlt').2.2 = z2 at *
        go_wp2_with fail
        refine (HD.out).mono ?_
        rintro e w3 ⟨rfl, ⟨N', E', hT'⟩, _⟩
        have HT' : Hid (TwoS w B b mb x (min (k + 1) 60) N' E' w3) := by show TwoS _ _ _ _ _ _ _ _ _; rw [HM2.out]; exact hT'
        clear hT'
        go_wp2_with fail
        go_roundw
        case rel => exact ⟨k + 1, N', E', by omega, by go_num, HT'.out⟩
        case measure => simp [intOf]; omega
      · have i2 : ¬ (k : Int) < 60 := by omega
        have HT' : Hid (TwoS w B b mb x (min (k + 1) 60) N E (wr.alloc (.cells #[.int .u8 (os[k]'hlt').1, .int .u64 (os[k]'hlt').2.1, .int .u64 (os[k]'hlt').2.2] 34))) := by
          have := (hT.more (L' := min (k + 1) 60) (by omega)).go (W := wr.alloc (.cells #[.int .u8 (os[k]'hlt').1, .int .u64 (os[k]'hlt').2.1, .int .u64 (os[k]'hlt').2.2] 34)) ((Below.refl _ _).alloc (Nat.le_refl _) _)
          exact this
        clear hT hof
        generalize (os[k]'hlt').1 = z0 at *
        generalize (os[k]'hlt').2.1 = z1 at *
        generalize (os[k]'hlt').2.2 = z2 at *
        go_wp2_with fail
        go_roundw
        case rel => exact ⟨k + 1, N, E, by omega, by go_num, HT'.out⟩
        case measure => simp [intOf]; omega
    · have i1 : ¬ (k : Int) < (n : Int) := by omega
      have HT : Hid (TwoS w B b mb x 60 N E wr) := hT.more (by omega)
      clear hT
      obtain ⟨W1, rfl⟩ : ∃ y, y = wr := ⟨wr, rfl⟩
      have HC0 := Lib.hid HT.out.cutS
      go_wp2_with fail
      go_loopw [9, 10, 39] (fun _ _ i wx => ∃ j : Nat, j ≤ n2 ∧ i = .int .i64 j ∧ CutS w B b mb x N E wx) (fun _ _ i _ => n2 - (intOf i).toNat)
      case atStart => exact ⟨0, Nat.zero_le _, rfl, HC0.out⟩
      case round =>
        obtain ⟨j, hj, rfl, hC⟩ := hrel
        by_cases hjl : j < n2
        · have hj' : j < cuts.length := by rw [HN2.out]; exact hjl
          obtain ⟨ad2, rfl, _, q0, q1, q2⟩ := (HAT2.out.below hC.below) j hj'
          have hof := HWF2.out _ (List.getElem_mem hj')
          have t1 : (j : Int) < (n2 : Int) := by omega
          have HCA := Lib.hid (hC.go (W := wr.alloc (.cells #[.int .u8 (cuts[j]'hj').1, .int .u64 (cuts[j]'hj').2.1, .int .u64 (cuts[j]'hj').2.2] 34)) ((Below.refl _ _).alloc (Nat.le_refl _) _))
          have HCU := Lib.hid (hC.cut (W := wr.alloc (.cells #[.int .u8 (cuts[j]'hj').1, .int .u64 (cuts[j]'hj').2.1, .int .u64 (cuts[j]'hj').2.2] 34)) ((Below.refl _ _).alloc (Nat.le_refl _) _) hof.2.1 hof.2.2)
          clear hC hof
          generalize (cuts[j]'hj').1 = z0 at *
          generalize (cuts[j]'hj').2.1 = z1 at *
          generalize (cuts[j]'hj').2.2 = z2 at *
          by_cases h60 : j < 60
          · have i2 : (j : Int) < 60 := by omega
            go_wp2_with fail
            refine (HCU.out).mono ?_
            rintro e w3 ⟨⟨r, rfl⟩, hC3⟩
            have HC3 := Lib.hid hC3
            clear hC3
            go_wp2_with fail
            go_roundw
            case rel => exact ⟨j + 1, by omega, by go_num, HC3.out⟩
            case measure => simp [intOf]; omega
          · have i2 : ¬ (j : Int) < 60 := by omega
            go_wp2_with fail
            go_roundw
            case rel => exact ⟨j + 1, by omega, by go_num, HCA.out⟩
            case measure => simp [intOf]; omega
        · have t1 : ¬ (j : Int) < (n2 : Int) := by omega
          obtain ⟨W2, rfl⟩ : ∃ y, y = wr := ⟨wr, rfl⟩
          have HC := Lib.hid hC
          obtain ⟨vN, vE, hR⟩ := hC.r
          have c0 := hR.cell0
          obtain ⟨A6, c6, rfl, hc6, hr6⟩ := Row.of_own hR.nodes
          have HR6 := Lib.hid hr6
          have hnl := hC.nl
          obtain ⟨m, hm⟩ : ∃ m, m = N.length := ⟨_, rfl⟩
          rw [← hm] at c0 hc6 hnl
          have HM : Hid (N.length = m) := hm.symm
          clear hC hR hr6 hm
          go_wp2_with fail
          go_loopw [12, 14, 58, 66] (fun _ _ i _ wx => ∃ q : Nat, q ≤ m ∧ i = .int .i64 q ∧ Below W2.heap.size W2 wx) (fun _ _ i _ _ => m - (intOf i).toNat)
          case atStart => exact ⟨0, Nat.zero_le _, rfl, Below.refl _ _⟩
          case round =>
            obtain ⟨q, hq, rfl, hbx⟩ := hrel
            by_cases hql : q < m
            · have hq' : q < N.length := by rw [HM.out]; exact hql
              obtain ⟨ad6, rfl, _, hcq⟩ := (HR6.out.below hbx) q (by rw [us_len]; exact hq')
              rw [us_at hq'] at hcq
              have t2 : (q : Int) < (m : Int) := by omega
              obtain ⟨W3, rfl⟩ : ∃ y, y = wr := ⟨wr, rfl⟩
              have HB3 := Lib.hid hbx
              obtain ⟨s, hs⟩ : ∃ s, s = N.getD q 0 := ⟨_, rfl⟩
              have HSN : Hid (s ∈ N) := by show s ∈ N; rw [hs]; exact getD_mem hq'
              have HSU := Lib.hid (HC.out.u64 s HSN.out)
              rw [← hs] at hcq
              have HDR := Lib.hid (HC.out.dreach hbx HSN.out)
              clear hs hbx hq'
              go_wp2_with fail
              refine (HDR.out).mono ?_
              rintro e w7 ⟨A7, c7, m7, rs, rfl, hm7, hl7, hr7, hw7, hb7⟩
              have HM7 := Lib.hid hm7
              have HR7 := Lib.hid hr7
              have HW7 := Lib.hid hw7
              have HB7 : Hid (Below W2.heap.size W2 w7) := HB3.out.trans (hb7.mono HB3.out.size)
              clear hm7 hr7 hw7 hb7 HDR
              go_wp2_with fail
              go_loopw [14, 66] (fun _ i wx => ∃ g : Nat, g ≤ m7 ∧ i = .int .i64 g ∧ Below w7.heap.size w7 wx) (fun _ i _ => m7 - (intOf i).toNat)
              case atStart => exact ⟨0, Nat.zero_le _, rfl, Below.refl _ _⟩
              case round =>
                obtain ⟨g, hg, rfl, hbx⟩ := hrel
                by_cases hgl : g < m7
                · have hg' : g < rs.length := by rw [HM7.out]; exact hgl
                  obtain ⟨ad7, rfl, _, hcg⟩ := (HR7.out.below hbx) g (by rw [us_len]; exact hg')
                  rw [us_at hg'] at hcg
                  have t3 : (g : Int) < (m7 : Int) := by omega
                  obtain ⟨W4, rfl⟩ : ∃ y, y = wr := ⟨wr, rfl⟩
                  have HB74 := Lib.hid hbx
                  have HB4 : Hid (Below W2.heap.size W2 W4) := HB7.out.trans (hbx.mono HB7.out.size)
                  obtain ⟨t, ht⟩ : ∃ t, t = rs.getD g 0 := ⟨_, rfl⟩
                  have HTW : Hid (Way (RE E true) s t) := by show Way _ _ _; rw [ht]; exact HW7.out _ (getD_mem hg')
                  rw [← ht] at hcg
                  obtain ⟨f, hf, hcall⟩ := HC.out.reach HB4.out HSU.out
                  have HRC := Lib.hid hcall
                  have HFF := Lib.hid hf
                  clear ht hbx hg' hcall hf
                  go_wp2_with fail
                  refine (HRC.out).mono ?_
                  rintro e w8 ⟨A8, c8, m8, z8, rfl, hm8, hc8, hl8, hr8, hri8, _, hb8⟩
                  have hin := in_any A8 c8 m8 z8 t w8 hm8 hr8 (by omega)
                  rw [rise_has hri8 (show s ∈ N ∧ Way (fun p q => f p q ≠ 0) s t from ⟨HSN.out, HTW.out.mono HFF.out⟩)] at hin
                  have HIN := Lib.hid hin
                  have HBN : Hid (Below w7.heap.size w7 w8) := HB74.out.trans (hb8.mono HB74.out.size)
                  clear hm8 hr8 hri8 hb8 hin HRC
                  go_wp2_with fail
                  refine (HIN.out).mono ?_
                  rintro e wq ⟨rfl, hwq⟩
                  have hwq := hwq.symm
                  subst hwq
                  go_wp2_with fail
                  go_roundw
                  case rel => exact ⟨g + 1, by omega, by go_num, HBN.out⟩
                  case measure => simp [intOf]; omega
                · have t3 : ¬ (g : Int) < (m7 : Int) := by omega
                  have HBN : Hid (Below W2.heap.size W2 wr) := HB7.out.trans (hbx.mono HB7.out.size)
                  clear hbx
                  go_wp2_with fail
                  go_roundw
                  case rel => exact ⟨q + 1, by omega, by go_num, HBN.out⟩
                  case measure => simp [intOf]; omega
            · have t2 : ¬ (q : Int) < (m : Int) := by omega
              have HFIN : Hid (Below w.heap.size w wr) := (HC.out.go hbx).below
              clear hbx
              go_wp2_with fail
              go_ret
              exact ⟨rfl, HFIN.out⟩

end Go.Proofs.Ytdfmgfclcbeeiaa
