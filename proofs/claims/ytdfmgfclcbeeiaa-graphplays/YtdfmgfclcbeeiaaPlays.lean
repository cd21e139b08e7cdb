/-
  The law Plays, walked.
-/
import Derived.Test.YtdfmgfclcbeeiaaPlaysM
namespace Go.Proofs.Ytdfmgfclcbeeiaa
open Go.RowKit Go.Maps Go.Sort
set_option linter.unusedSimpArgs false
set_option linter.unusedVariables false

set_option maxRecDepth 100000 in
set_option maxHeartbeats 16000000 in
theorem law_plays (none' : Bool) (A : Option Addr) (l : List Int) (c : Nat) (As : Option Addr) (os : List OpG) (cs : Nat) (w : World) (hr : Row w A (us l)) (hc : l.length ≤ c) (hl : l.length ≤ 9223372036854775807) (hu : ∀ x ∈ l, U64 x) (hat : OpsAt w As os) (hls : os.length ≤ 9223372036854775807) (hwf : OpsWf os) :
    Calls Try.prog 3 #[.bool none', .slice A l.length c, .slice As os.length cs] w fun e w' => e = .returned (.bool true) ∧ Below w.heap.size w w' := by
  have HR := Lib.hid hr
  have HU := Lib.hid hu
  have HAT := Lib.hid hat
  have HWF := Lib.hid hwf
  have HAW := Lib.hid (awake_any w)
  obtain ⟨ns, hns⟩ : ∃ ns, ns = os.length := ⟨_, rfl⟩
  rw [← hns] at hls ⊢
  have HNS : Hid (os.length = ns) := hns.symm
  obtain ⟨n, hn⟩ : ∃ n, n = l.length := ⟨_, rfl⟩
  rw [← hn] at hl hc ⊢
  have HN : Hid (l.length = n) := hn.symm
  obtain ⟨m, hm⟩ : ∃ m, m = min n 10 := ⟨_, rfl⟩
  have e1 : min (n : Int) 10 = (m : Int) := by omega
  have hmn : m ≤ n := by omega
  have hm30 : m ≤ 10 := by omega
  obtain ⟨ks, hks⟩ : ∃ ks, ks = l.take m := ⟨_, rfl⟩
  have HKL : Hid (ks.length = m) := by show _ = _; rw [hks, List.length_take]; have := HN.out; omega
  have HKU : Hid (∀ x ∈ ks, U64 x) := fun x hx => HU.out x (by rw [hks] at hx; exact List.mem_of_mem_take hx)
  have HKR : Hid (∀ W, Below w.heap.size w W → ∀ j u, (us ks)[j]? = some u → ∃ ad, A = some ad ∧ W.cell? (ad.add j) = some u) := fun W hW j u hj => by
    rw [hks] at hj
    unfold us at hj
    rw [List.map_take, List.getElem?_take] at hj
    split at hj
    · obtain ⟨ad, e, _, hcc⟩ := (HR.out.below hW) j (List.getElem?_eq_some_iff.1 hj).1
      exact ⟨ad, e, hcc.trans hj⟩
    · cases hj
  have HUL : Hid ((us ks).length = m * 1) := by show _ = _; rw [us_len, HKL.out]; omega
  have HCX : Hid (∀ (W0 : World) (z0 z1 z2 : Int), ((W0.alloc (.cells #[.int .u8 z0, .int .u64 z1, .int .u64 z2] 34)).drew).cell? ⟨W0.heap.size, 0, none⟩ = some (.int .u8 z0) ∧ ((W0.alloc (.cells #[.int .u8 z0, .int .u64 z1, .int .u64 z2] 34)).drew).cell? ⟨W0.heap.size, 1, none⟩ = some (.int .u64 z1) ∧ ((W0.alloc (.cells #[.int .u8 z0, .int .u64 z1, .int .u64 z2] 34)).drew).cell? ⟨W0.heap.size, 2, none⟩ = some (.int .u64 z2)) := fun W0 z0 z1 z2 => box_cells (box_new W0 z0 z1 z2)
  have i1 : (0 : Int) ≤ (m : Int) := by omega
  have i2 : (m : Int) ≤ (c : Int) := by omega
  have i3 : (m : Int) ≤ (n : Int) := by omega
  have i4 : (n : Int) ≤ (c : Int) := by omega
  clear hr hu hn hm hks hat hwf hns
  go_enter Try.func3, Try.ntmps3
  go_wp2_with fail
  refine (HAW.out).mono ?_
  rintro e w1 ⟨rfl, hb1⟩
  have HB1 := Lib.hid hb1
  have hb1a : Below w.heap.size w (w1.alloc (.cells #[] 31)) := hb1.alloc hb1.size _
  have HO1 : Hid ((w1.alloc (.cells #[] 31)).ownsRow w1.heap.size 31 1 (.slice (some ⟨w1.heap.size, 0, none⟩) 0 0) 0 []) := World.ownsRow_lit w1 #[] 0 (Nat.le_refl _) (by decide) rfl
  have HS1 : Hid (w1.heap.size ≤ (w1.alloc (.cells #[] 31)).heap.size) := by show _ ≤ _; simp
  have HKR1 := Lib.hid (HKR.out _ hb1a)
  have HB1A := Lib.hid hb1a
  clear hb1 hb1a HKR
  go_wp2_with (first
    | (at_builtin; refine wpList_append_el elem22 rfl (.tmp 15) (.tmp 20) rfl w1.heap.size (.slice (some ⟨w1.heap.size, 0, none⟩) 0 0) 0 [] rfl HO1.out A m c (us ks) rfl HUL.out HKR1.out (us_one ks) (by unfold maxLen; omega) (by omega) HS1.out ?_; intro A2 c2 w2 ho2 hg2 ha2; have HB2 : Hid (Below w.heap.size w w2) := HB1A.out.grown hg2 HB1A.out.size (fun g e => by have := (own_lt HO1.out e).1; have := HB1.out.size; omega); have HS2 : Hid (w1.heap.size ≤ w2.heap.size) := (by have h1 := hg2.size; simp at h1; show _ ≤ _; omega); rw [Nat.zero_add, List.nil_append] at ho2; have HO2 := Lib.hid ho2; clear ho2 hg2 ha2)
    | fail)
  have HNA : Hid (Calls Try.prog 10 #[.slice A2 m c2] w2 fun e w' => e = .returned (.pointer (some ⟨w2.heap.size + 1, 0, none⟩)) ∧ GS w' w2.heap.size (w2.heap.size + 1) w2.heap.size ks (fE []) ks.length ∧ Below w2.heap.size w2 w') := new_own w2 w1.heap.size _ ks (by rw [HKL.out]; exact HO2.out) HKU.out (by rw [HKL.out]; omega)
  refine (HNA.out).mono ?_
  rintro e w3 ⟨rfl, hg3, hb3⟩
  have HAS : Hid (AddS w w2.heap.size (w2.heap.size + 1) w2.heap.size w3.heap.size w1.heap.size (.slice A2 m c2) ks 0 (w3.alloc (.cells #[.slice none 0 0, .slice none 0 0] 30))) := by
    have hb3a : Below w2.heap.size w2 (w3.alloc (.cells #[.slice none 0 0, .slice none 0 0] 30)) := hb3.alloc hb3.size _
    refine ⟨(hg3.more (by rw [HKL.out]; omega)).below ((Below.refl _ _).alloc (Nat.le_refl _) _), ⟨[], rg_new w3 _ hb3.size, by simp, by simp, by simp⟩, ?_, HB2.out.size, hb3a.size, HB2.out.trans (hb3a.mono HB2.out.size)⟩
    rw [HKL.out]
    exact own_below HO2.out hb3a
  obtain ⟨b, hbq⟩ : ∃ b, b = w2.heap.size + 1 := ⟨_, rfl⟩
  obtain ⟨x, hxq⟩ : ∃ x, x = w3.heap.size := ⟨_, rfl⟩
  obtain ⟨mb, hmq⟩ : ∃ mb, mb = w2.heap.size := ⟨_, rfl⟩
  obtain ⟨B, hBq⟩ : ∃ B, B = w2.heap.size := ⟨_, rfl⟩
  replace HAS : Hid (AddS w B b mb x w1.heap.size (.slice A2 m c2) ks 0 (w3.alloc (.cells #[.slice none 0 0, .slice none 0 0] 30))) := by show AddS _ _ _ _ _ _ _ _ _ _; rw [hbq, hxq, hmq, hBq]; exact HAS.out
  rw [← hbq]
  have HXQ := Lib.hid hxq
  clear hg3 hb3 hbq hmq hBq hxq HNA
  go_wp2_with fail
  rw [← HXQ.out]
  go_loopw [10, 28] (fun _ i wx => ∃ j : Nat, j ≤ m ∧ i = .int .i64 j ∧ AddS w B b mb x w1.heap.size (.slice A2 m c2) ks j wx) (fun _ i _ => m - (intOf i).toNat)
  case atStart => exact ⟨0, Nat.zero_le _, rfl, HAS.out⟩
  case round =>
    obtain ⟨j, hj, rfl, hM⟩ := hrel
    by_cases hjl : j < m
    · have hj' : j < ks.length := by rw [HKL.out]; exact hjl
      obtain ⟨A3, c3, hae, hc3, hrow3⟩ := Row.of_own hM.row
      obtain ⟨ad3, hA3, _, hcj⟩ := hrow3 j (by rw [us_len]; exact hj')
      rw [us_at hj'] at hcj
      injection hae with q1 q2 q3
      subst q1 q3 hA3
      have t1 : (j : Int) < (m : Int) := by omega
      have HST := Lib.hid (hM.step hj' (by rw [HKL.out]; omega))
      generalize ks.getD j 0 = p at *
      clear hM hrow3 hj' q2
      go_wp2_with fail
      refine (HST.out).mono ?_
      rintro e w5 ⟨⟨r, rfl⟩, hM5⟩
      have HM5 := Lib.hid hM5
      clear hM5 HST
      go_wp2_with fail
      go_roundw
      case rel => exact ⟨j + 1, by omega, by go_num, HM5.out⟩
      case measure => simp [intOf]; omega
    · have t1 : ¬ (j : Int) < (m : Int) := by omega
      obtain rfl : j = m := by omega
      rw [← HKL.out] at hM
      obtain ⟨N0, hT0⟩ := hM.two (by rw [HKL.out]; omega) HKU.out
      obtain ⟨W1, rfl⟩ : ∃ y, y = wr := ⟨wr, rfl⟩
      have HT0 := Lib.hid hT0
      clear hM hT0
      cases none' with
      | true =>
        have HSP0 : Hid (SP0 w (10 + min 0 60) W1) := HT0.out.below
        have HSB : Hid (∀ L wx, SP0 w L wx → Below w.heap.size w wx) := fun L wx h => h
        have HDF : Hid (∀ k W0 (o : OpG), k < 60 → SP0 w (10 + min k 60) W0 → ((0 ≤ o.1 ∧ o.1 < 256) ∧ U64 o.2.1 ∧ U64 o.2.2) → Calls Try.prog 12 #[.pointer none, .pointer none, .agg #[.int .u8 o.1, .int .u64 o.2.1, .int .u64 o.2.2]] ((W0.alloc (.cells #[.int .u8 o.1, .int .u64 o.2.1, .int .u64 o.2.2] 34)).drew) (DoR (SP0 w) (.pointer none) (.pointer none) k W0.heap.size o.1 o.2.1 o.2.2)) := fun k W0 o _ h ho => doR_nil h ho
        have HGO : Hid (∀ L wd we, SP0 w L wd → Below wd.heap.size wd we → SP0 w L we) := fun L wd we h hb => h.trans (hb.mono h.size)
        have HEX : Hid (∀ L wx, SP0 w L wx → ∀ W, Below wx.heap.size wx W → Below w.heap.size w W) := fun L wx h W hb => h.trans (hb.mono h.size)
        go_wp2_with fail
        go_loopw [11, 12, 39] (fun _ _ i wx => ∃ k : Nat, k ≤ ns ∧ i = .int .i64 k ∧ SP0 w (10 + min k 60) wx) (fun _ _ i _ => ns - (intOf i).toNat)
        case atStart => exact ⟨0, Nat.zero_le _, rfl, HSP0.out⟩
        case round =>
          obtain ⟨k, hk, rfl, hT⟩ := hrel
          obtain ⟨W0, rfl⟩ : ∃ y, y = wr := ⟨wr, rfl⟩
          by_cases hlt : k < ns
          · have hlt' : k < os.length := by rw [HNS.out]; exact hlt
            have hbw := HSB.out _ _ hT
            obtain ⟨ad, rfl, _, q0, q1, q2⟩ := (HAT.out.below hbw) k hlt'
            have hof := HWF.out _ (List.getElem_mem hlt')
            have i1 : (k : Int) < (ns : Int) := by omega
            have HT := Lib.hid hT
            by_cases h60 : k < 60
            · have i2 : ¬ (60 : Int) ≤ (k : Int) := by omega
              have i3 : (k : Int) < 60 := by omega
              have HDO := Lib.hid (HDF.out k W0 _ h60 hT hof)
              clear hT hof hbw
              generalize (os[k]'hlt').1 = z0 at *
              generalize (os[k]'hlt').2.1 = z1 at *
              generalize (os[k]'hlt').2.2 = z2 at *
              have hc0 : ((W0.alloc (.cells #[.int .u8 z0, .int .u64 z1, .int .u64 z2] 34)).drew).cell? ⟨W0.heap.size, 0, none⟩ = some (.int .u8 z0) ∧ ((W0.alloc (.cells #[.int .u8 z0, .int .u64 z1, .int .u64 z2] 34)).drew).cell? ⟨W0.heap.size, 1, none⟩ = some (.int .u64 z1) ∧ ((W0.alloc (.cells #[.int .u8 z0, .int .u64 z1, .int .u64 z2] 34)).drew).cell? ⟨W0.heap.size, 2, none⟩ = some (.int .u64 z2) := HCX.out W0 z0 z1 z2
              go_wp2_with fail
              go_region_held3 (fun W => W.cell? ⟨W0.heap.size, 0, none⟩ = some (.int .u8 z0) ∧ W.cell? ⟨W0.heap.size, 1, none⟩ = some (.int .u64 z1) ∧ W.cell? ⟨W0.heap.size, 2, none⟩ = some (.int .u64 z2)) (first | exact hc0 | exact HKS _ (by assumption) | fail)
                (first
                  | (go_at_call 12; (with_reducible refine Calls.mono (HDO.out) ?_); rintro e wd ⟨rfl, hSP, hCS, hAK⟩; have hBz0 := Below.refl wd.heap.size wd; obtain ⟨L1, L2, L3, hv, hask⟩ := hAK; have hlen := hask.len; have HKS := hCS)
                  | (have hq := hrd3; go_at_call 17; (with_reducible refine Calls.mono (hask.reach _ hBd3) ?_); rintro e wz3 ⟨Az3, cz3, rfl, hz3, hzb3⟩; have hR13 := hz3; have hR23 := hrd3.below hzb3; have hB3 := hBd3.trans (hzb3.mono hBd3.size))
                  | (have hq := hrc3; go_at_call 18; (with_reducible refine Calls.mono (hask.dreach _ hBc3) ?_); rintro e wz3 ⟨Az3, cz3, rfl, hz3, hzb3⟩; have hR23 := hz3; have hR13 := hrc3.below hzb3; have hB3 := hBc3.trans (hzb3.mono hBc3.size))
                  | (have hq := hBz2; go_at_call 17; (with_reducible refine Calls.mono (hask.reach _ hBz2) ?_); rintro e wy3 ⟨Ay3, cy3, rfl, hrc3, hyb3⟩; have hBc3 := hBz2.trans (hyb3.mono hBz2.size))
                  | (have hq := hBz2; go_at_call 18; (with_reducible refine Calls.mono (hask.dreach _ hBz2) ?_); rintro e wy3 ⟨Ay3, cy3, rfl, hrd3, hyb3⟩; have hBd3 := hBz2.trans (hyb3.mono hBz2.size))
                  | (have hq := hB3; go_at_call 13; (with_reducible refine Calls.mono (sameNums_yes _ _ _ _ _ L3 _ rfl hR13 hR23 (Nat.le_trans hlen.2.2 (by decide))) ?_); rintro e wx3 ⟨rfl, hxb3⟩; have hBz3 := hB3.trans (hxb3.mono hB3.size))
                  | (have hq := hrd2; go_at_call 16; (with_reducible refine Calls.mono (hask.soft _ hBd2) ?_); rintro e wz2 ⟨Az2, cz2, rfl, hz2, hzb2⟩; have hR12 := hz2; have hR22 := hrd2.below hzb2; have hB2 := hBd2.trans (hzb2.mono hBd2.size))
                  | (have hq := hrc2; go_at_call 15; (with_reducible refine Calls.mono (hask.dsoft _ hBc2) ?_); rintro e wz2 ⟨Az2, cz2, rfl, hz2, hzb2⟩; have hR22 := hz2; have hR12 := hrc2.below hzb2; have hB2 := hBc2.trans (hzb2.mono hBc2.size))
                  | (have hq := hBz1; go_at_call 16; (with_reducible refine Calls.mono (hask.soft _ hBz1) ?_); rintro e wy2 ⟨Ay2, cy2, rfl, hrc2, hyb2⟩; have hBc2 := hBz1.trans (hyb2.mono hBz1.size))
                  | (have hq := hBz1; go_at_call 15; (with_reducible refine Calls.mono (hask.dsoft _ hBz1) ?_); rintro e wy2 ⟨Ay2, cy2, rfl, hrd2, hyb2⟩; have hBd2 := hBz1.trans (hyb2.mono hBz1.size))
                  | (have hq := hB2; go_at_call 13; (with_reducible refine Calls.mono (sameNums_yes _ _ _ _ _ L2 _ rfl hR12 hR22 (Nat.le_trans hlen.2.1 (by decide))) ?_); rintro e wx2 ⟨rfl, hxb2⟩; have hBz2 := hB2.trans (hxb2.mono hB2.size))
                  | (have hq := hrd1; go_at_call 14; (with_reducible refine Calls.mono (hask.near _ hBd1) ?_); rintro e wz1 ⟨Az1, cz1, rfl, hz1, hzb1⟩; have hR11 := hz1; have hR21 := hrd1.below hzb1; have hB1 := hBd1.trans (hzb1.mono hBd1.size))
                  | (have hq := hrc1; go_at_call 15; (with_reducible refine Calls.mono (hask.dnear _ hBc1) ?_); rintro e wz1 ⟨Az1, cz1, rfl, hz1, hzb1⟩; have hR21 := hz1; have hR11 := hrc1.below hzb1; have hB1 := hBc1.trans (hzb1.mono hBc1.size))
                  | (have hq := hBz0; go_at_call 14; (with_reducible refine Calls.mono (hask.near _ hBz0) ?_); rintro e wy1 ⟨Ay1, cy1, rfl, hrc1, hyb1⟩; have hBc1 := hBz0.trans (hyb1.mono hBz0.size))
                  | (have hq := hBz0; go_at_call 15; (with_reducible refine Calls.mono (hask.dnear _ hBz0) ?_); rintro e wy1 ⟨Ay1, cy1, rfl, hrd1, hyb1⟩; have hBd1 := hBz0.trans (hyb1.mono hBz0.size))
                  | (have hq := hB1; go_at_call 13; (with_reducible refine Calls.mono (sameNums_yes _ _ _ _ _ L1 _ rfl hR11 hR21 (Nat.le_trans hlen.1 (by decide))) ?_); rintro e wx1 ⟨rfl, hxb1⟩; have hBz1 := hB1.trans (hxb1.mono hB1.size))
                  | (have hq := hBz3; go_at_call 19; (with_reducible refine Calls.mono (hask.has _ hBz3) ?_); rintro e w' ⟨rfl, rfl⟩)
                  | (have hq := hBz3; go_at_call 20; (with_reducible refine Calls.mono (hask.dhas _ hBz3) ?_); rintro e w' ⟨rfl, rfl⟩)
                  | fail)
              all_goals
                have HN := Lib.hid (HGO.out _ _ _ hSP hBz3)
                clear hBz0 hBz1 hBz2 hBz3 hSP hask HKS hlen hc0
                cases hv
                all_goals
                  go_wp2_with fail
                  go_roundw
                  case rel => exact ⟨k + 1, by omega, by go_num, HN.out⟩
                  case measure => simp [intOf]; omega
            · have i2 : (60 : Int) ≤ (k : Int) := by omega
              have HFX := Lib.hid (HEX.out _ _ (HT.out) (W0.alloc (.cells #[.int .u8 (os[k]'hlt').1, .int .u64 (os[k]'hlt').2.1, .int .u64 (os[k]'hlt').2.2] 34)) ((Below.refl _ _).alloc (Nat.le_refl _) _))
              clear hT hof hbw
              generalize (os[k]'hlt').1 = z0 at *
              generalize (os[k]'hlt').2.1 = z1 at *
              generalize (os[k]'hlt').2.2 = z2 at *
              go_wp2_with fail
              have HKN := Lib.hid (keys_nil (W0.alloc (.cells #[.int .u8 z0, .int .u64 z1, .int .u64 z2] 34)))
              have HLN := Lib.hid (len_nil9 (W0.alloc (.cells #[.int .u8 z0, .int .u64 z1, .int .u64 z2] 34)))
              refine (HKN.out).mono ?_
              rintro e wq ⟨rfl, hwq⟩
              have hwq := hwq.symm
              subst hwq
              go_wp2_with fail
              refine (HLN.out).mono ?_
              rintro e wq ⟨rfl, hwq⟩
              have hwq := hwq.symm
              subst hwq
              go_wp2_with fail
              go_ret
              exact ⟨rfl, HFX.out⟩
          · have i1 : ¬ (k : Int) < (ns : Int) := by omega
            have HFX := Lib.hid (HEX.out _ _ hT W0 (Below.refl _ _))
            clear hT
            go_wp2_with fail
            have HKN := Lib.hid (keys_nil (W0))
            have HLN := Lib.hid (len_nil9 (W0))
            refine (HKN.out).mono ?_
            rintro e wq ⟨rfl, hwq⟩
            have hwq := hwq.symm
            subst hwq
            go_wp2_with fail
            refine (HLN.out).mono ?_
            rintro e wq ⟨rfl, hwq⟩
            have hwq := hwq.symm
            subst hwq
            go_wp2_with fail
            go_ret
            exact ⟨rfl, HFX.out⟩
      | false =>
        have HSP0 : Hid (SP2 w B b mb x (10 + min 0 60) W1) := ⟨_, _, HT0.out⟩
        have HSB : Hid (∀ L wx, SP2 w B b mb x L wx → Below w.heap.size w wx) := fun L wx ⟨_, _, h⟩ => h.below
        have HDF : Hid (∀ k W0 (o : OpG), k < 60 → SP2 w B b mb x (10 + min k 60) W0 → ((0 ≤ o.1 ∧ o.1 < 256) ∧ U64 o.2.1 ∧ U64 o.2.2) → Calls Try.prog 12 #[.pointer (some ⟨b, 0, none⟩), .pointer (some ⟨x, 0, none⟩), .agg #[.int .u8 o.1, .int .u64 o.2.1, .int .u64 o.2.2]] ((W0.alloc (.cells #[.int .u8 o.1, .int .u64 o.2.1, .int .u64 o.2.2] 34)).drew) (DoR (SP2 w B b mb x) (.pointer (some ⟨b, 0, none⟩)) (.pointer (some ⟨x, 0, none⟩)) k W0.heap.size o.1 o.2.1 o.2.2)) := fun k W0 o h60 h ho => doR_two h60 h ho
        have HGO : Hid (∀ L wd we, SP2 w B b mb x L wd → Below wd.heap.size wd we → SP2 w B b mb x L we) := fun L wd we ⟨N, E, h⟩ hb => ⟨N, E, h.go hb⟩
        have HEX : Hid (∀ L wx, SP2 w B b mb x (10 + min L 60) wx → ∀ W, Below wx.heap.size wx W → SP2 w B b mb x 70 W) := fun L wx ⟨N, E, h⟩ W hb => ⟨N, E, (h.go hb).more (by omega)⟩
        go_wp2_with fail
        go_loopw [11, 12, 39] (fun _ _ i wx => ∃ k : Nat, k ≤ ns ∧ i = .int .i64 k ∧ SP2 w B b mb x (10 + min k 60) wx) (fun _ _ i _ => ns - (intOf i).toNat)
        case atStart => exact ⟨0, Nat.zero_le _, rfl, HSP0.out⟩
        case round =>
          obtain ⟨k, hk, rfl, hT⟩ := hrel
          obtain ⟨W0, rfl⟩ : ∃ y, y = wr := ⟨wr, rfl⟩
          by_cases hlt : k < ns
          · have hlt' : k < os.length := by rw [HNS.out]; exact hlt
            have hbw := HSB.out _ _ hT
            obtain ⟨ad, rfl, _, q0, q1, q2⟩ := (HAT.out.below hbw) k hlt'
            have hof := HWF.out _ (List.getElem_mem hlt')
            have i1 : (k : Int) < (ns : Int) := by omega
            have HT := Lib.hid hT
            by_cases h60 : k < 60
            · have i2 : ¬ (60 : Int) ≤ (k : Int) := by omega
              have i3 : (k : Int) < 60 := by omega
              have HDO := Lib.hid (HDF.out k W0 _ h60 hT hof)
              clear hT hof hbw
              generalize (os[k]'hlt').1 = z0 at *
              generalize (os[k]'hlt').2.1 = z1 at *
              generalize (os[k]'hlt').2.2 = z2 at *
              have hc0 : ((W0.alloc (.cells #[.int .u8 z0, .int .u64 z1, .int .u64 z2] 34)).drew).cell? ⟨W0.heap.size, 0, none⟩ = some (.int .u8 z0) ∧ ((W0.alloc (.cells #[.int .u8 z0, .int .u64 z1, .int .u64 z2] 34)).drew).cell? ⟨W0.heap.size, 1, none⟩ = some (.int .u64 z1) ∧ ((W0.alloc (.cells #[.int .u8 z0, .int .u64 z1, .int .u64 z2] 34)).drew).cell? ⟨W0.heap.size, 2, none⟩ = some (.int .u64 z2) := HCX.out W0 z0 z1 z2
              go_wp2_with fail
              go_region_held3 (fun W => W.cell? ⟨W0.heap.size, 0, none⟩ = some (.int .u8 z0) ∧ W.cell? ⟨W0.heap.size, 1, none⟩ = some (.int .u64 z1) ∧ W.cell? ⟨W0.heap.size, 2, none⟩ = some (.int .u64 z2)) (first | exact hc0 | exact HKS _ (by assumption) | fail)
                (first
                  | (go_at_call 12; (with_reducible refine Calls.mono (HDO.out) ?_); rintro e wd ⟨rfl, hSP, hCS, hAK⟩; have hBz0 := Below.refl wd.heap.size wd; obtain ⟨L1, L2, L3, hv, hask⟩ := hAK; have hlen := hask.len; have HKS := hCS)
                  | (have hq := hrd3; go_at_call 17; (with_reducible refine Calls.mono (hask.reach _ hBd3) ?_); rintro e wz3 ⟨Az3, cz3, rfl, hz3, hzb3⟩; have hR13 := hz3; have hR23 := hrd3.below hzb3; have hB3 := hBd3.trans (hzb3.mono hBd3.size))
                  | (have hq := hrc3; go_at_call 18; (with_reducible refine Calls.mono (hask.dreach _ hBc3) ?_); rintro e wz3 ⟨Az3, cz3, rfl, hz3, hzb3⟩; have hR23 := hz3; have hR13 := hrc3.below hzb3; have hB3 := hBc3.trans (hzb3.mono hBc3.size))
                  | (have hq := hBz2; go_at_call 17; (with_reducible refine Calls.mono (hask.reach _ hBz2) ?_); rintro e wy3 ⟨Ay3, cy3, rfl, hrc3, hyb3⟩; have hBc3 := hBz2.trans (hyb3.mono hBz2.size))
                  | (have hq := hBz2; go_at_call 18; (with_reducible refine Calls.mono (hask.dreach _ hBz2) ?_); rintro e wy3 ⟨Ay3, cy3, rfl, hrd3, hyb3⟩; have hBd3 := hBz2.trans (hyb3.mono hBz2.size))
                  | (have hq := hB3; go_at_call 13; (with_reducible refine Calls.mono (sameNums_yes _ _ _ _ _ L3 _ rfl hR13 hR23 (Nat.le_trans hlen.2.2 (by decide))) ?_); rintro e wx3 ⟨rfl, hxb3⟩; have hBz3 := hB3.trans (hxb3.mono hB3.size))
                  | (have hq := hrd2; go_at_call 16; (with_reducible refine Calls.mono (hask.soft _ hBd2) ?_); rintro e wz2 ⟨Az2, cz2, rfl, hz2, hzb2⟩; have hR12 := hz2; have hR22 := hrd2.below hzb2; have hB2 := hBd2.trans (hzb2.mono hBd2.size))
                  | (have hq := hrc2; go_at_call 15; (with_reducible refine Calls.mono (hask.dsoft _ hBc2) ?_); rintro e wz2 ⟨Az2, cz2, rfl, hz2, hzb2⟩; have hR22 := hz2; have hR12 := hrc2.below hzb2; have hB2 := hBc2.trans (hzb2.mono hBc2.size))
                  | (have hq := hBz1; go_at_call 16; (with_reducible refine Calls.mono (hask.soft _ hBz1) ?_); rintro e wy2 ⟨Ay2, cy2, rfl, hrc2, hyb2⟩; have hBc2 := hBz1.trans (hyb2.mono hBz1.size))
                  | (have hq := hBz1; go_at_call 15; (with_reducible refine Calls.mono (hask.dsoft _ hBz1) ?_); rintro e wy2 ⟨Ay2, cy2, rfl, hrd2, hyb2⟩; have hBd2 := hBz1.trans (hyb2.mono hBz1.size))
                  | (have hq := hB2; go_at_call 13; (with_reducible refine Calls.mono (sameNums_yes _ _ _ _ _ L2 _ rfl hR12 hR22 (Nat.le_trans hlen.2.1 (by decide))) ?_); rintro e wx2 ⟨rfl, hxb2⟩; have hBz2 := hB2.trans (hxb2.mono hB2.size))
                  | (have hq := hrd1; go_at_call 14; (with_reducible refine Calls.mono (hask.near _ hBd1) ?_); rintro e wz1 ⟨Az1, cz1, rfl, hz1, hzb1⟩; have hR11 := hz1; have hR21 := hrd1.below hzb1; have hB1 := hBd1.trans (hzb1.mono hBd1.size))
                  | (have hq := hrc1; go_at_call 15; (with_reducible refine Calls.mono (hask.dnear _ hBc1) ?_); rintro e wz1 ⟨Az1, cz1, rfl, hz1, hzb1⟩; have hR21 := hz1; have hR11 := hrc1.below hzb1; have hB1 := hBc1.trans (hzb1.mono hBc1.size))
                  | (have hq := hBz0; go_at_call 14; (with_reducible refine Calls.mono (hask.near _ hBz0) ?_); rintro e wy1 ⟨Ay1, cy1, rfl, hrc1, hyb1⟩; have hBc1 := hBz0.trans (hyb1.mono hBz0.size))
                  | (have hq := hBz0; go_at_call 15; (with_reducible refine Calls.mono (hask.dnear _ hBz0) ?_); rintro e wy1 ⟨Ay1, cy1, rfl, hrd1, hyb1⟩; have hBd1 := hBz0.trans (hyb1.mono hBz0.size))
                  | (have hq := hB1; go_at_call 13; (with_reducible refine Calls.mono (sameNums_yes _ _ _ _ _ L1 _ rfl hR11 hR21 (Nat.le_trans hlen.1 (by decide))) ?_); rintro e wx1 ⟨rfl, hxb1⟩; have hBz1 := hB1.trans (hxb1.mono hB1.size))
                  | (have hq := hBz3; go_at_call 19; (with_reducible refine Calls.mono (hask.has _ hBz3) ?_); rintro e w' ⟨rfl, rfl⟩)
                  | (have hq := hBz3; go_at_call 20; (with_reducible refine Calls.mono (hask.dhas _ hBz3) ?_); rintro e w' ⟨rfl, rfl⟩)
                  | fail)
              all_goals
                have HN := Lib.hid (HGO.out _ _ _ hSP hBz3)
                clear hBz0 hBz1 hBz2 hBz3 hSP hask HKS hlen hc0
                cases hv
                all_goals
                  go_wp2_with fail
                  go_roundw
                  case rel => exact ⟨k + 1, by omega, by go_num, HN.out⟩
                  case measure => simp [intOf]; omega
            · have i2 : (60 : Int) ≤ (k : Int) := by omega
              have HFX := Lib.hid (HEX.out _ _ (HT.out) (W0.alloc (.cells #[.int .u8 (os[k]'hlt').1, .int .u64 (os[k]'hlt').2.1, .int .u64 (os[k]'hlt').2.2] 34)) ((Below.refl _ _).alloc (Nat.le_refl _) _))
              clear hT hof hbw
              generalize (os[k]'hlt').1 = z0 at *
              generalize (os[k]'hlt').2.1 = z1 at *
              generalize (os[k]'hlt').2.2 = z2 at *
              go_wp2_with fail
              obtain ⟨N, E, hTX⟩ := HFX.out
              obtain ⟨vN, vE, hRX⟩ := hTX.r
              obtain ⟨AX, cX, hvX, hcX, hrX⟩ := Row.of_own hRX.nodes
              subst hvX
              have HRX := Lib.hid hRX
              have HRW := Lib.hid hrX
              have HTX := Lib.hid hTX
              have HKX := Lib.hid (hTX.keys (by omega) (Below.refl _ _))
              have hnl := hTX.nl
              obtain ⟨mN, hmN⟩ : ∃ mN, mN = N.length := ⟨_, rfl⟩
              have HMN : Hid (N.length = mN) := hmN.symm
              obtain ⟨WX, hWX⟩ : ∃ WX, WX = W0.alloc (.cells #[.int .u8 z0, .int .u64 z1, .int .u64 z2] 34) := ⟨_, rfl⟩
              rw [← hWX] at HRX HRW HTX HKX ⊢
              have HCX2 : Hid (∀ W, Below WX.heap.size WX W → W.cell? ⟨x, 0, none⟩ = some (.slice AX mN cX)) := fun W hW => by rw [hmN]; exact (HRX.out.below hW).cell0
              have c0X := HCX2.out WX.drew ((Below.refl _ _).drew)
              have hbX0 : Below WX.heap.size WX WX.drew := (Below.refl _ _).drew
              have HKX2 : Hid (∀ W, Below WX.heap.size WX W → Calls Try.prog 21 #[.pointer (some ⟨b, 0, none⟩)] W (RowK W fun z => z ∈ N)) := fun W hW => HTX.out.keys (by omega) hW
              have HLX : Hid (∀ W, Below WX.heap.size WX W → Calls Try.prog 22 #[.pointer (some ⟨b, 0, none⟩)] W fun e w' => e = .returned (.int .i64 mN) ∧ w' = W) := fun W hW => by rw [hmN]; exact ((HTX.out.go hW).g).len (HTX.out.rise.imp fun h => by omega)
              have HFW : Hid (∀ W, Below WX.heap.size WX W → Below w.heap.size w W) := fun W hW => (HTX.out.go hW).below
              clear hTX hRX hrX hWX hmN HFX HKX
              go_region_held3 (fun W => W.cell? ⟨x, 0, none⟩ = some (.slice AX mN cX)) (first | exact c0X | exact HCX2.out _ (by assumption) | fail)
                (first
                  | (go_at_call 21; (with_reducible refine Calls.mono (HKX2.out _ hbX0) ?_); rintro e wk ⟨Ak, ck, mk, zk, rfl, hmk, hck, hlk, hrk, hrik, _, hbk⟩; have hbk1 := hbX0.trans (hbk.mono hbX0.size); have hzk := (keys_eq HTX.out hrik).symm; subst hzk; have hmk2 : mN = mk := HMN.out.symm.trans hmk; subst hmk2)
                  | (go_at_call 13; (with_reducible refine Calls.mono (sameNums_yes _ _ _ _ _ N _ hmk hrk (HRW.out.below hbk1) (by omega)) ?_); rintro e ws ⟨rfl, hbs⟩; have hbs1 := hbk1.trans (hbs.mono hbk1.size))
                  | (go_at_call 22; (with_reducible refine Calls.mono (HLX.out _ hbs1) ?_); rintro e wl ⟨rfl, hwl⟩; have hbl1 : Below WX.heap.size WX ws := hbs1; have hwl := hwl.symm; subst hwl)
                  | fail)
              all_goals
                have HFN := Lib.hid (HFW.out _ hbl1)
                clear hbl1
                go_wp2_with fail
                go_ret
                exact ⟨rfl, HFN.out⟩
          · have i1 : ¬ (k : Int) < (ns : Int) := by omega
            have HFX := Lib.hid (HEX.out _ _ hT W0 (Below.refl _ _))
            clear hT
            go_wp2_with fail
            obtain ⟨N, E, hTX⟩ := HFX.out
            obtain ⟨vN, vE, hRX⟩ := hTX.r
            obtain ⟨AX, cX, hvX, hcX, hrX⟩ := Row.of_own hRX.nodes
            subst hvX
            have HRX := Lib.hid hRX
            have HRW := Lib.hid hrX
            have HTX := Lib.hid hTX
            have HKX := Lib.hid (hTX.keys (by omega) (Below.refl _ _))
            have hnl := hTX.nl
            obtain ⟨mN, hmN⟩ : ∃ mN, mN = N.length := ⟨_, rfl⟩
            have HMN : Hid (N.length = mN) := hmN.symm
            obtain ⟨WX, hWX⟩ : ∃ WX, WX = W0 := ⟨_, rfl⟩
            rw [← hWX] at HRX HRW HTX HKX ⊢
            have HCX2 : Hid (∀ W, Below WX.heap.size WX W → W.cell? ⟨x, 0, none⟩ = some (.slice AX mN cX)) := fun W hW => by rw [hmN]; exact (HRX.out.below hW).cell0
            have c0X := HCX2.out WX.drew ((Below.refl _ _).drew)
            have hbX0 : Below WX.heap.size WX WX.drew := (Below.refl _ _).drew
            have HKX2 : Hid (∀ W, Below WX.heap.size WX W → Calls Try.prog 21 #[.pointer (some ⟨b, 0, none⟩)] W (RowK W fun z => z ∈ N)) := fun W hW => HTX.out.keys (by omega) hW
            have HLX : Hid (∀ W, Below WX.heap.size WX W → Calls Try.prog 22 #[.pointer (some ⟨b, 0, none⟩)] W fun e w' => e = .returned (.int .i64 mN) ∧ w' = W) := fun W hW => by rw [hmN]; exact ((HTX.out.go hW).g).len (HTX.out.rise.imp fun h => by omega)
            have HFW : Hid (∀ W, Below WX.heap.size WX W → Below w.heap.size w W) := fun W hW => (HTX.out.go hW).below
            clear hTX hRX hrX hWX hmN HFX HKX
            go_region_held3 (fun W => W.cell? ⟨x, 0, none⟩ = some (.slice AX mN cX)) (first | exact c0X | exact HCX2.out _ (by assumption) | fail)
              (first
                | (go_at_call 21; (with_reducible refine Calls.mono (HKX2.out _ hbX0) ?_); rintro e wk ⟨Ak, ck, mk, zk, rfl, hmk, hck, hlk, hrk, hrik, _, hbk⟩; have hbk1 := hbX0.trans (hbk.mono hbX0.size); have hzk := (keys_eq HTX.out hrik).symm; subst hzk; have hmk2 : mN = mk := HMN.out.symm.trans hmk; subst hmk2)
                | (go_at_call 13; (with_reducible refine Calls.mono (sameNums_yes _ _ _ _ _ N _ hmk hrk (HRW.out.below hbk1) (by omega)) ?_); rintro e ws ⟨rfl, hbs⟩; have hbs1 := hbk1.trans (hbs.mono hbk1.size))
                | (go_at_call 22; (with_reducible refine Calls.mono (HLX.out _ hbs1) ?_); rintro e wl ⟨rfl, hwl⟩; have hbl1 : Below WX.heap.size WX ws := hbs1; have hwl := hwl.symm; subst hwl)
                | fail)
            all_goals
              have HFN := Lib.hid (HFW.out _ hbl1)
              clear hbl1
              go_wp2_with fail
              go_ret
              exact ⟨rfl, HFN.out⟩

end Go.Proofs.Ytdfmgfclcbeeiaa
