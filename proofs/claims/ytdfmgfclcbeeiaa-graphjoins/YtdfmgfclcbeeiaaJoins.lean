/-
  The law Joins, walked.
-/
import Derived.Test.YtdfmgfclcbeeiaaJoinM
namespace Go.Proofs.Ytdfmgfclcbeeiaa
open Go.RowKit Go.Maps Go.Sort
set_option linter.unusedSimpArgs false
set_option linter.unusedVariables false

set_option maxRecDepth 100000 in
set_option maxHeartbeats 8000000 in
theorem law_joins (A : Option Addr) (os : List OpG) (c : Nat) (a b' : Int) (w : World) (hat : OpsAt w A os) (hl : os.length ≤ 9223372036854775807) (hwf : OpsWf os) (ha : U64 a) (hb' : U64 b') :
    Calls Try.prog 7 #[.slice A os.length c, .int .u64 a, .int .u64 b'] w fun e w' => e = .returned (.bool true) ∧ Below w.heap.size w w' := by
  have HAU : Hid (U64 a) := ha
  have HBU : Hid (U64 b') := hb'
  have HAT := Lib.hid hat
  have HWF := Lib.hid hwf
  have HAW := Lib.hid (awake_any w)
  obtain ⟨n, hn⟩ : ∃ n, n = os.length := ⟨_, rfl⟩
  rw [← hn] at hl ⊢
  have HN : Hid (os.length = n) := hn.symm
  clear hat hwf hn
  go_enter Try.func7, Try.ntmps7
  go_wp2_with fail
  refine (HAW.out).mono ?_
  rintro e w1 ⟨rfl, hb1⟩
  have HB1 := Lib.hid hb1
  have HNW := Lib.hid (new_nil w1)
  clear hb1
  go_wp2_with fail
  refine (HNW.out).mono ?_
  rintro e w2 ⟨rfl, hg2, hb2⟩
  have HT0 := Lib.hid (TwoS.start HB1.out hg2 hb2)
  obtain ⟨b, hbq⟩ : ∃ b, b = w1.heap.size + 1 := ⟨_, rfl⟩
  obtain ⟨mb, hmq⟩ : ∃ mb, mb = w1.heap.size := ⟨_, rfl⟩
  obtain ⟨B, hBq⟩ : ∃ B, B = w1.heap.size := ⟨_, rfl⟩
  obtain ⟨x, hxq⟩ : ∃ x, x = w2.heap.size := ⟨_, rfl⟩
  have HT1 : Hid (TwoS w B b mb x 0 [] [] (w2.alloc (.cells #[.slice none 0 0, .slice none 0 0] 30))) := by show TwoS _ _ _ _ _ _ _ _ _; rw [hbq, hmq, hBq, hxq]; exact HT0.out
  rw [← hbq]
  have HXQ := Lib.hid hxq
  clear hbq hmq hBq hg2 hb2 HT0 hxq
  go_wp2_with fail
  rw [← HXQ.out]
  go_loopw [9, 10, 24] (fun _ _ i wr => ∃ (k : Nat) (N : List Int) (E : List Edg), k ≤ n ∧ i = .int .i64 k ∧ TwoS w B b mb x (min k 60) N E wr) (fun _ _ i _ => n - (intOf i).toNat)
  case atStart => exact ⟨0, [], [], Nat.zero_le _, rfl, HT1.out⟩
  case round =>
    obtain ⟨k, N, E, hk, rfl, hT⟩ := hrel
    by_cases hlt : k < n
    · have hlt' : k < os.length := by rw [HN.out]; exact hlt
      obtain ⟨ad, rfl, _, q0, q1, q2⟩ := (HAT.out.below hT.below) k hlt'
      have hof := HWF.out _ (List.getElem_mem hlt')
      have i1 : (k : Int) < (n : Int) := by omega
      by_cases h60 : k < 60
      · have i2 : (k : Int) < 60 := by omega
        have hm1 : min k 60 = k := by omega
        have hm2 : min (k + 1) 60 = k + 1 := by omega
        rw [hm1] at hT
        have HM2 := Lib.hid hm2
        have HD := Lib.hid (hT.doo (by omega) hof (W := wr.alloc (.cells #[.int .u8 (os[k]'hlt').1, .int .u64 (os[k]'hlt').2.1, .int .u64 (os[k]'hlt').2.2] 34)) ((Below.refl _ _).alloc (Nat.le_refl _) _))
        clear hT hm1 hm2 hof
        generalize (os[k]'hlt').1 = z0 at *
        generalize (os[k]'hlt').2.1 = z1 at *
        generalize (os[k]'hlt').2.2 = z2 at *
        go_wp2_with fail
        refine (HD.out).mono ?_
        rintro e w3 ⟨rfl, ⟨N', E', hT'⟩, _⟩
        have HT' : Hid (TwoS w B b mb x (min (k + 1) 60) N' E' w3) := by show TwoS _ _ _ _ _ _ _ _ _; rw [HM2.out]; exact hT'
        clear hT'
        go_wp2_with fail
        go_roundw
        case rel => exact ⟨k + 1, N', E', by omega, by go_num, HT'.out⟩
        case measure => simp [intOf]; omega
      · have i2 : ¬ (k : Int) < 60 := by omega
        have HT' : Hid (TwoS w B b mb x (min (k + 1) 60) N E (wr.alloc (.cells #[.int .u8 (os[k]'hlt').1, .int .u64 (os[k]'hlt').2.1, .int .u64 (os[k]'hlt').2.2] 34))) := by
          have := (hT.more (L' := min (k + 1) 60) (by omega)).go (W := wr.alloc (.cells #[.int .u8 (os[k]'hlt').1, .int .u64 (os[k]'hlt').2.1, .int .u64 (os[k]'hlt').2.2] 34)) ((Below.refl _ _).alloc (Nat.le_refl _) _)
          exact this
        clear hT hof
        generalize (os[k]'hlt').1 = z0 at *
        generalize (os[k]'hlt').2.1 = z1 at *
        generalize (os[k]'hlt').2.2 = z2 at *
        go_wp2_with fail
        go_roundw
        case rel => exact ⟨k + 1, N, E, by omega, by go_num, HT'.out⟩
        case measure => simp [intOf]; omega
    · have i1 : ¬ (k : Int) < (n : Int) := by omega
      have HT : Hid (TwoS w B b mb x 60 N E wr) := hT.more (by omega)
      clear hT
      obtain ⟨W1, rfl⟩ : ∃ y, y = wr := ⟨wr, rfl⟩
      have HPC := Lib.hid (HT.out.reach (a := a) (by omega) (Below.refl _ _) HAU.out)
      go_wp2_with fail
      refine (HPC.out).mono ?_
      rintro e w4 ⟨Ap, cp, mp, zp, rfl, hmp, hcp, hlp, hrp, hrip, hop, hb4⟩
      have HMP := Lib.hid hmp
      have HPI := Lib.hid hrip
      have HOP := Lib.hid hop
      have HB4 := Lib.hid hb4
      have HQC := Lib.hid (HT.out.reach (a := b') (by omega) hb4 HBU.out)
      clear hmp hrp hrip hop hb4 HPC
      go_wp2_with fail
      refine (HQC.out).mono ?_
      rintro e w5 ⟨Aq, cq, mq, zq, rfl, hmq, hcq, hlq, hrq, hriq, hoq, hb5⟩
      have HMQ := Lib.hid hmq
      have HQI := Lib.hid hriq
      have HOQ := Lib.hid hoq
      have HB45 := Lib.hid hb5
      have HB5 : Hid (Below W1.heap.size W1 w5) := HB4.out.trans (hb5.mono HB4.out.size)
      have HBI := Lib.hid (cbind_any ((HT.out.go HB5.out).g) HAU.out HBU.out (by omega))
      clear hmq hrq hriq hoq hb5 HQC
      go_wp2_with fail
      by_cases hab : a = b'
      · have HV : Hid (bindR N E a b' = 1) := by show _ = _; unfold bindR endsR; rw [if_pos hab, if_neg (by decide)]
        rw [HV.out] at HBI
        refine (HBI.out).mono ?_
        rintro e w6 ⟨rfl, _, hck⟩
        have HFN : Hid (Below w.heap.size w w6) := (HT.out.go HB5.out).below.trans (hck.below.mono HT.out.low)
        subst hab
        clear hck HBI
        go_wp2_with fail
        go_ret
        exact ⟨rfl, HFN.out⟩
      · have hab2 : (a == b') = false := by simpa using hab
        by_cases h0 : endsR N a b' = 0
        · obtain ⟨hr07, hom⟩ := bind_one (E := E) h0
          have HAN : Hid (a ∈ N) := (endsR_ne h0).2.1
          have HBN : Hid (b' ∈ N) := (endsR_ne h0).2.2
          obtain ⟨f', hf'⟩ : ∃ f', f' = (if bindR N E a b' = 0 then both (fE E) a b' 2 else fE E) := ⟨_, rfl⟩
          rw [← hf'] at HBI hom
          have HOM := Lib.hid hom
          have HFC : Hid (∀ u v, f' u v ≠ 0 → v ∈ N) := fun u v huv => by
            rcases (hom u v).1 huv with h1 | ⟨_, rfl⟩ | ⟨_, rfl⟩
            · exact (fE_nodes HT.out.good h1).2.1
            · exact HBN.out
            · exact HAN.out
          obtain ⟨r, hr⟩ : ∃ r, r = bindR N E a b' := ⟨_, rfl⟩
          rw [← hr] at HBI hr07
          clear hf' hom hr hab hab2
          have HNL : Hid (N.length ≤ 60) := HT.out.nl
          rcases hr07 with rfl | rfl
          all_goals
            refine (HBI.out).mono ?_
            rintro e w6 ⟨rfl, hg6, hck⟩
            have HG6 := Lib.hid hg6
            have HCK6 := Lib.hid hck
            have HRA := Lib.hid (hg6.rows (by omega) (by have := HNL.out; omega) HFC.out HAU.out)
            clear hg6 hck HBI
            go_wp2_with fail
            refine (HRA.out).mono ?_
            rintro e w7 ⟨Al, cl, ml, za, rfl, hml, hcl, hll, hrl, hril, hol, hb7⟩
            have HML := Lib.hid hml
            have HZI := Lib.hid hril
            have HOL := Lib.hid hol
            have HRL := Lib.hid hrl
            have HG7 := Lib.hid (HG6.out.below hb7)
            have HB56 := Lib.hid HCK6.out.below
            have HB7 := Lib.hid hb7
            have hop7 : w7.ownsRow W1.heap.size 31 1 (.slice Ap mp cp) mp (us zp) := own_below (HCK6.out.own (own_below HOP.out HB45.out)) hb7
            have hoq7 := own_below (HCK6.out.own HOQ.out) hb7
            obtain ⟨Aq', cq', hqe, _, hrq7⟩ := Row.of_own hoq7
            injection hqe with q1 q2 q3
            subst q1 q3
            have HRQ7 : Hid (∀ j u, (us zq)[j]? = some u → ∃ ad, Aq = some ad ∧ w7.cell? (ad.add j) = some u) := fun j u hj => by
              obtain ⟨ad, e, _, hc⟩ := hrq7 j (List.getElem?_eq_some_iff.1 hj).1
              exact ⟨ad, e, hc.trans hj⟩
            have HS7 : Hid (W1.heap.size ≤ w7.heap.size) := by
              have h1 := HB5.out.size
              have h2 := HCK6.out.below.size
              have h3 := hb7.size
              show _ ≤ _
              omega
            have HLQ : Hid ((us zq).length = mq * 1) := by show _ = _; rw [us_len, HMQ.out]; omega
            clear hml hrl hril hol hb7 hoq7 hrq7 HRA q2
            go_wp2_with (first
              | (at_builtin; refine wpList_append_el elem22 rfl (.tmp 79) (.tmp 80) rfl W1.heap.size (.slice Ap mp cp) mp (us zp) rfl hop7 Aq mq cq (us zq) rfl HLQ.out HRQ7.out (us_one zq) (by unfold maxLen; omega) (by omega) HS7.out ?_; intro A8 c8 w8 ho8 hg8 ha8; have HO8 := Lib.hid ho8; have HG8 := Lib.hid (HG7.out.grown31 hop7 hg8); have HGR := Lib.hid hg8; clear ho8 hg8 ha8)
              | fail)
            have HRL8 : Hid (Row w8 Al (us za)) := by
              have h1 : w8.ownsRow w6.heap.size 31 1 (.slice Al ml cl) ml (us za) := own_kept HOL.out HGR.out (fun g e e' => by
                have k1 := (own_lt HOL.out e).1
                have k2 := (own_lt (own_below (HCK6.out.own (own_below HOP.out HB45.out)) (Below.refl _ _)) e').2
                omega)
              obtain ⟨A', c', e', _, hrow⟩ := Row.of_own h1
              injection e' with e1 _ e3
              subst e1
              exact hrow
            obtain ⟨A9, c9, hse, _, hr8⟩ := Row.of_own HO8.out
            injection hse with q1 q2 q3
            subst q1 q3
            have HR8 := Lib.hid hr8
            have HLEN : Hid ((us zp ++ us zq).length = mp + mq) := by show _ = _; rw [List.length_append, us_len, us_len, HMP.out, HMQ.out]
            have HBW8 : Hid (Below w.heap.size w w8) := by
              have h1 := (HT.out.go HB5.out).below.trans (HCK6.out.below.mono HT.out.low)
              have h2 := h1.trans (HB7.out.mono h1.size)
              exact h2.grown HGR.out h2.size (fun g e => by have := (own_lt hop7 e).1; have := HT.out.below.size; omega)
            have hmpq : mp + mq ≤ 2000 := by omega
            clear hr8 q2 hop7
            go_wp2_with fail
            go_loop [16, 83] (fun _ i => ∃ j : Nat, j ≤ mp + mq ∧ i = .int .i64 j) (fun _ i => mp + mq - (intOf i).toNat)
            case atStart => exact ⟨0, Nat.zero_le _, rfl⟩
            case round =>
              obtain ⟨j, hj, rfl⟩ := hrel
              by_cases hjl : j < mp + mq
              · obtain ⟨ad8, rfl, _, hcj⟩ := HR8.out j (by rw [HLEN.out]; exact hjl)
                have hjz : j < (zp ++ zq).length := by rw [List.length_append, HMP.out, HMQ.out]; exact hjl
                rw [show us zp ++ us zq = us (zp ++ zq) by simp [us], us_at hjz] at hcj
                have t1 : (j : Int) < (mp : Int) + (mq : Int) := by omega
                obtain ⟨s, hs⟩ : ∃ s, s = (zp ++ zq).getD j 0 := ⟨_, rfl⟩
                have hsm : s ∈ zp ++ zq := by rw [hs]; exact getD_mem hjz
                rw [← hs] at hcj
                have hin := in_any Al cl ml za s w8 HML.out HRL8.out (by omega)
                rw [rise_has HZI.out (show a ∈ N ∧ Way (fun u v => f' u v ≠ 0) a s from by
                  rcases List.mem_append.1 hsm with h1 | h1
                  · exact ⟨HAN.out, HOM.out.left ((HPI.out.2 s).1 h1).2⟩
                  · exact ⟨HAN.out, HOM.out.right ((HQI.out.2 s).1 h1).2⟩)] at hin
                have HIN := Lib.hid hin
                clear hs hsm hin hjz
                go_wp2_with fail
                refine (HIN.out).mono ?_
                rintro e wq ⟨rfl, hwq⟩
                have hwq := hwq.symm
                subst hwq
                go_wp2_with fail
                go_round
                case rel => exact ⟨j + 1, by omega, by go_num⟩
                case measure => simp [intOf]; omega
              · have t1 : ¬ (j : Int) < (mp : Int) + (mq : Int) := by omega
                have HKY := Lib.hid (HG8.out.krow (by omega) (by have := HNL.out; omega))
                have HLE : Hid (ml ≤ mp + mq) := by
                  show _ ≤ _
                  rw [← HML.out, ← HMP.out, ← HMQ.out, ← List.length_append]
                  refine nodup_le za (zp ++ zq) (HZI.out.1.imp fun h => by omega) fun z hz => ?_
                  rcases HOM.out.one ((HZI.out.2 z).1 hz).2 with h1 | h1
                  · exact List.mem_append.2 (.inl ((HPI.out.2 z).2 ⟨HAN.out, h1⟩))
                  · exact List.mem_append.2 (.inr ((HQI.out.2 z).2 ⟨HBN.out, h1⟩))
                have hle9 : (ml : Int) ≤ (mp : Int) + (mq : Int) := by have := HLE.out; omega
                go_wp2_with fail
                refine (HKY.out).mono ?_
                rintro e w9 ⟨Ak, ck, mk, zk, rfl, hmk, hck, hlk, hrk, hrik, _, hb9⟩
                have hin := in_any Ak ck mk zk 1125899906842624 w9 hmk hrk (by omega)
                have hkn : hasN zk 1125899906842624 = hasN N 1125899906842624 := rise_eqv hrik (q := fun z => z ∈ N) ⟨HT.out.rise, fun _ => Iff.rfl⟩ Iff.rfl
                rw [hkn] at hin
                have HG9a := Lib.hid (HG8.out.below hb9)
                have HRL9a := Lib.hid (HRL8.out.below hb9)
                have HBW9a := Lib.hid (HBW8.out.trans (hb9.mono HBW8.out.size))
                have HOL9 : Hid (∃ B9, w9.ownsRow B9 31 1 (.slice Al ml cl) ml (us za)) := by
                  have h1 : w8.ownsRow w6.heap.size 31 1 (.slice Al ml cl) ml (us za) := own_kept HOL.out HGR.out (fun g e e' => by
                    have k1 := (own_lt HOL.out e).1
                    have k2 := (own_lt (own_below (HCK6.out.own (own_below HOP.out HB45.out)) (Below.refl _ _)) e').2
                    omega)
                  exact ⟨_, own_below h1 hb9⟩
                cases hhk : hasN N 1125899906842624 with
                | true =>
                  rw [hhk] at hin
                  have HIN := Lib.hid hin
                  have HG9 : Hid (GS w9 B b mb N f' 200) := HG9a.out.more (by omega)
                  have HN9 : Hid (N.length ≤ 1000) := by have := HNL.out; show _ ≤ _; omega
                  have HFC9 : Hid (∀ u v, f' u v ≠ 0 → v ∈ N) := HFC.out
                  have HBN9 : Hid (b' ∈ N) := HBN.out
                  have HRL9 : Hid (Row w9 Al (us za)) := HRL9a.out
                  have HBW9 : Hid (Below w.heap.size w w9) := HBW9a.out
                  clear hmk hrk hrik hb9 hin hkn hhk HKY
                  go_wp2_with fail
                  refine (HIN.out).mono ?_
                  rintro e wq ⟨rfl, hwq⟩
                  have hwq := hwq.symm
                  subst hwq
                  have HRB := Lib.hid (HG9.out.rows (by omega) HN9.out HFC9.out HBU.out)
                  go_wp2_with fail
                  refine (HRB.out).mono ?_
                  rintro e wA ⟨AA, cA, mA, zA, rfl, hmA, hcA, hlA, hrA, hriA, _, hbA⟩
                  have hzA : zA = za := rise_one (p := fun z => a ∈ N ∧ Way (fun u v => f' u v ≠ 0) a z) ⟨hriA.1, fun z => (hriA.2 z).trans (by have := HOM.out.same z; constructor; exact fun h => ⟨HAN.out, this.2 h.2⟩; exact fun h => ⟨HBN9.out, this.1 h.2⟩)⟩ HZI.out
                  subst hzA
                  have hrl := (HRL9.out.below hbA)
                  have hmm : mA = ml := by rw [← hmA, HML.out]
                  subst hmm
                  have HSN := Lib.hid (sameNums_yes Al AA cl cA mA zA wA hmA hrl hrA (by omega))
                  have HFN : Hid (Below w.heap.size w wA) := HBW9.out.trans (hbA.mono HBW9.out.size)
                  clear hmA hrA hriA hbA hrl HRB
                  go_wp2_with fail
                  refine (HSN.out).mono ?_
                  rintro e wB ⟨rfl, hbB⟩
                  have HFN2 := Lib.hid (HFN.out.trans (hbB.mono HFN.out.size))
                  clear hbB
                  go_wp2_with fail
                  go_ret
                  exact ⟨rfl, HFN2.out⟩
                | false =>
                  rw [hhk] at hin
                  have HIN := Lib.hid hin
                  have HKN : Hid (1125899906842624 ∉ N) := hasN_not.1 hhk
                  have hadd := cadd_any (y := 1125899906842624) HG9a.out (by unfold U64; omega) (by omega)
                  have e1 : addR N 1125899906842624 = 0 := by unfold addR; rw [hhk]; rfl
                  rw [e1] at hadd
                  have HAD := Lib.hid hadd
                  have HAM : Hid (∀ z, z ∈ addN N 1125899906842624 ↔ z = 1125899906842624 ∨ z ∈ N) := fun z => by unfold addN; rw [hhk, if_neg (by decide)]; exact putL_mem _ _ _
                  clear hmk hrk hrik hb9 hin hkn hhk HKY hadd e1
                  go_wp2_with fail
                  refine (HIN.out).mono ?_
                  rintro e wq ⟨rfl, hwq⟩
                  have hwq := hwq.symm
                  subst hwq
                  go_wp2_with fail
                  refine (HAD.out).mono ?_
                  rintro e wC ⟨rfl, hgC, hckC⟩
                  obtain ⟨N9, hN9⟩ : ∃ N9, N9 = addN N 1125899906842624 := ⟨_, rfl⟩
                  rw [← hN9] at hgC HAM
                  have HN9 : Hid (N9.length ≤ 1000) := by have := addN_len N 1125899906842624; have := HNL.out; show _ ≤ _; rw [hN9]; omega
                  have HFC9 : Hid (∀ u v, f' u v ≠ 0 → v ∈ N9) := fun u v huv => (HAM.out v).2 (.inr (HFC.out u v huv))
                  have HGC : Hid (GS wC B b mb N9 f' 200) := hgC.more (by omega)
                  have HCKC := Lib.hid hckC
                  have HRK := Lib.hid (HGC.out.rows (by omega) HN9.out HFC9.out (y := 1125899906842624) (by unfold U64; omega))
                  clear hgC hckC hN9 HAD
                  go_wp2_with fail
                  refine (HRK.out).mono ?_
                  rintro e wD ⟨AD, cD, mD, zD, rfl, hmD, hcD, hlD, hrD, hriD, _, hbD⟩
                  have hm1 : zD.length = 1 := rise_single hriD (y := 1125899906842624) fun z => by
                    constructor
                    · rintro ⟨_, hw⟩
                      refine hw.closed (fun z => z = 1125899906842624) rfl fun u v hu huv => ?_
                      subst hu
                      exfalso
                      rcases (HOM.out _ _).1 huv with h1 | ⟨h1, _⟩ | ⟨h1, _⟩
                      · exact HKN.out (fE_nodes HT.out.good h1).1
                      · exact HKN.out (h1 ▸ HAN.out)
                      · exact HKN.out (h1 ▸ HBN.out)
                    · rintro rfl
                      exact ⟨(HAM.out _).2 (.inl rfl), .here⟩
                  rw [hm1] at hmD
                  subst hmD
                  have HG9 : Hid (GS wD B b mb N9 f' 200) := HGC.out.below hbD
                  have HBN9 : Hid (b' ∈ N9) := (HAM.out _).2 (.inr HBN.out)
                  have HRL9 : Hid (Row wD Al (us za)) := by
                    obtain ⟨B9, h1⟩ := HOL9.out
                    obtain ⟨A', c', e', _, hrow⟩ := Row.of_own (own_below (HCKC.out.own h1) hbD)
                    injection e' with e1 _ e3
                    subst e1
                    exact hrow
                  have HBW9 : Hid (Below w.heap.size w wD) := by
                    have h1 := HBW9a.out.trans (HCKC.out.below.mono HT.out.low)
                    exact h1.trans (hbD.mono h1.size)
                  clear hrD hriD hbD hm1 HRK
                  have HRB := Lib.hid (HG9.out.rows (by omega) HN9.out HFC9.out HBU.out)
                  go_wp2_with fail
                  refine (HRB.out).mono ?_
                  rintro e wA ⟨AA, cA, mA, zA, rfl, hmA, hcA, hlA, hrA, hriA, _, hbA⟩
                  have hzA : zA = za := rise_one (p := fun z => a ∈ N ∧ Way (fun u v => f' u v ≠ 0) a z) ⟨hriA.1, fun z => (hriA.2 z).trans (by have := HOM.out.same z; constructor; exact fun h => ⟨HAN.out, this.2 h.2⟩; exact fun h => ⟨HBN9.out, this.1 h.2⟩)⟩ HZI.out
                  subst hzA
                  have hrl := (HRL9.out.below hbA)
                  have hmm : mA = ml := by rw [← hmA, HML.out]
                  subst hmm
                  have HSN := Lib.hid (sameNums_yes Al AA cl cA mA zA wA hmA hrl hrA (by omega))
                  have HFN : Hid (Below w.heap.size w wA) := HBW9.out.trans (hbA.mono HBW9.out.size)
                  clear hmA hrA hriA hbA hrl HRB
                  go_wp2_with fail
                  refine (HSN.out).mono ?_
                  rintro e wB ⟨rfl, hbB⟩
                  have HFN2 := Lib.hid (HFN.out.trans (hbB.mono HFN.out.size))
                  clear hbB
                  go_wp2_with fail
                  go_ret
                  exact ⟨rfl, HFN2.out⟩
        · have h6 : endsR N a b' = 6 := by
            unfold endsR at h0 ⊢
            rw [if_neg hab] at h0 ⊢
            cases h1 : hasN N a <;> cases h2 : hasN N b' <;> rw [h1, h2] at h0 <;> simp at h0 ⊢
          have HV : Hid (bindR N E a b' = 6) := by show _ = _; unfold bindR; rw [if_neg h0, h6]
          rw [HV.out] at HBI
          have hz : mp = 0 ∨ mq = 0 := by
            unfold endsR at h0
            rw [if_neg hab] at h0
            cases h1 : hasN N a with
            | false => exact .inl (by rw [← HMP.out]; exact rise_none HPI.out fun z h => (hasN_not.1 h1) h.1)
            | true =>
              cases h2 : hasN N b' with
              | false => exact .inr (by rw [← HMQ.out]; exact rise_none HQI.out fun z h => (hasN_not.1 h2) h.1)
              | true => rw [h1, h2] at h0; simp at h0
          refine (HBI.out).mono ?_
          rintro e w6 ⟨rfl, _, hck⟩
          have HFN : Hid (Below w.heap.size w w6) := (HT.out.go HB5.out).below.trans (hck.below.mono HT.out.low)
          clear hck HBI h0 h6 hab
          rcases hz with rfl | rfl
          · go_wp2_with fail
            go_ret
            exact ⟨rfl, HFN.out⟩
          · by_cases hmp0 : mp = 0
            · subst hmp0
              go_wp2_with fail
              go_ret
              exact ⟨rfl, HFN.out⟩
            · have hmp1 : ((mp : Int) == 0) = false := by simp; omega
              have hmp2 : (mp == 0) = false := by simpa using hmp0
              clear hmp0
              go_wp2_with fail
              go_ret
              exact ⟨rfl, HFN.out⟩

end Go.Proofs.Ytdfmgfclcbeeiaa
