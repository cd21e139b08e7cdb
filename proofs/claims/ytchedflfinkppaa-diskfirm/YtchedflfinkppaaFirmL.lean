/-
  The law DiskFirm, walked.
-/
import Derived.Test.YtchedflfinkppaaWasA
import Derived.Test.YtchedflfinkppaaOpen
namespace Go.Proofs.Ytchedflfinkppaa
open Go.RowKit Go.Maps Go.WideMaps Go.Sort Go.Shelf
set_option linter.unusedSimpArgs false
set_option linter.unusedVariables false

set_option maxRecDepth 100000 in
set_option maxHeartbeats 400000 in
theorem same_eqF (S T : Nat → Prop) (A B : Option Addr) (c d : Nat) (l : List Int) (n : Nat) (hn : n = l.length) (w : World) (h1 : Row S w A (u8s l)) (h2 : Row T w B (u8s l)) :
    Calls Try.prog 22 #[.slice A n c, .slice B n d] w fun e w' => e = .returned (.bool true) ∧ w = w' := by
  subst hn
  have r1 := run_str c h1
  have r2 := run_str d h2
  have HE : Hid (((strOf l).toList == (strOf l).toList) = true) := by show _ = _; simp
  go_enter Try.func22, Try.ntmps22
  go_wp2
  go_ret
  exact ⟨by rw [← HE.out]; rfl, rfl⟩

theorem lv_nodup {w0 w : World} {b mb : Nat} {p : Pw} {room : Nat} {E : List Ent} (h : Lv w0 w b mb p room E) : ((abs E).map Prod.fst).Nodup := by
  obtain ⟨D, hD⟩ := h.dsk
  rw [abs_names]
  exact hD.nodup
theorem below_on {w0 w w' : World} {q : Nat} (h : Below w0.heap.size w0 w) (ho : Only q w w') (hq : w0.heap.size ≤ q) : Below w0.heap.size w0 w' :=
  ⟨ho.os.trans h.os, ho.tape.trans h.tape, ho.output.trans h.output, Nat.le_trans h.size ho.size, fun g hg => (ho.block g (Nat.lt_of_lt_of_le hg h.size) (by omega)).trans (h.block g hg)⟩

set_option maxRecDepth 100000 in
set_option maxHeartbeats 4000000 in
theorem law_firm (A B K : Option Addr) (c cb ck : Nat) (os us : List Opn) (keep : List Int) (w : World) (hO : OpsIn w A os) (hl : os.length ≤ 9223372036854775807) (hok : ∀ o ∈ os, OpOk o) (hU : OpsIn w B us) (hul : us.length ≤ 9223372036854775807) (huok : ∀ o ∈ us, OpOk o) (hK : Row (fun g => g < w.heap.size) w K (i64s keep)) (hkc : keep.length ≤ ck) (hkl : keep.length ≤ 9223372036854775807) :
    Calls Try.prog 4 #[.slice A os.length c, .slice B us.length cb, .slice K keep.length ck] w fun e w' => e = .returned (.bool true) ∧ Below w.heap.size w w' := by
  have HO := Lib.hid hO
  have HOK := Lib.hid hok
  have HU := Lib.hid hU
  have HUOK := Lib.hid huok
  have HKR := Lib.hid hK
  have HKC := Lib.hid hkc
  have hmm := @run_makeMap Try.prog
  clear hO hok hU huok hK hkc
  go_enter Try.func4, Try.ntmps4
  go_wp2_with fail
  refine (awake_any w).mono ?_
  rintro e w1 ⟨rfl, hb1⟩
  have HB1 := Lib.hid hb1
  clear hb1
  go_wp2_with fail
  refine (new_lv w w1 5000 HB1.out (by decide)).mono ?_
  rintro e w2 ⟨rfl, h2, _⟩
  obtain ⟨b, hb⟩ : ∃ b, b = w1.heap.size + 1 := ⟨_, rfl⟩
  obtain ⟨mb, hmb⟩ : ∃ mb, mb = w1.heap.size := ⟨_, rfl⟩
  have H2 : Hid (Lv w w2 b mb Pw.fresh 5000 []) := by rw [hb, hmb]; exact h2
  rw [← hb]
  clear h2 hb hmb
  have HRN := Lib.hid (rnew_any 5000 w2 ⟨w.heap.size, fun g => ¬ Of b mb [] g⟩ H2.out.bel.size (fun g hg ho => by have := H2.out.lt ho; omega) (by decide))
  go_wp2_with fail
  refine (HRN.out).mono ?_
  rintro e w3 ⟨rfl, r3, hb3⟩
  obtain ⟨x, hx⟩ : ∃ x, x = w2.heap.size := ⟨_, rfl⟩
  rw [← hx] at r3 ⊢
  have HD3 := Lib.hid (Duo.start H2.out r3 hb3)
  clear r3 hb3 hx H2 HRN
  go_wp2_with fail
  go_loopw [10, 11, 32] (fun _ _ i wr => ∃ (k : Nat), k ≤ os.length ∧ i = .int .i64 k ∧ ∃ E v L p pr, Duo w wr (fun _ => False) b mb x p pr 5000 E v L ∧ Tied (abs E) L ∧ PwEq p pr ∧ Calm p) (fun _ _ i _ => os.length - (intOf i).toNat)
  case atStart => exact ⟨0, Nat.zero_le _, rfl, [], _, [], Pw.fresh, Pw.fresh, HD3.out, Tied.empty, PwEq.refl _, ⟨rfl, rfl⟩⟩
  case round =>
    obtain ⟨k, hk, rfl, E, v, L, p, pr, hD, hT, hP, hC⟩ := hrel
    have HD := Lib.hid hD
    have HT := Lib.hid hT
    have HP := Lib.hid hP
    have HC := Lib.hid hC
    by_cases hlt : k < os.length
    · have i1 : (k : Int) < (os.length : Int) := by omega
      obtain ⟨ad, rfl, hadl, A1, c1, A2, c2, A3, c3, hat, k0, k1, k2, k3, k4, k5, k6⟩ := (HO.out.below hD.bel) k hlt
      have hoko := HOK.out _ (List.getElem_mem hlt)
      generalize os[k] = o at *
      have HAT := Lib.hid hat
      have HOKo := Lib.hid hoko
      have hd8 := hoko.d
      obtain ⟨dd, hdd⟩ : ∃ y, y = o.d := ⟨_, rfl⟩
      rw [← hdd] at k0 hd8
      have HDD := Lib.hid hdd
      obtain ⟨dm, hdm⟩ : ∃ y, y = dd % 11 := ⟨_, rfl⟩
      have d1 : dd.tmod 11 = dm := by rw [Int.tmod_eq_emod_of_nonneg (by omega), hdm]
      have d2 : dd % 11 = dm := hdm.symm
      have HDM : Hid (dm = o.d % 11) := by show _ = _; rw [hdm, hdd]
      have HKEEP : Hid (∀ W, Below wr.heap.size wr W → ∃ E v L p pr, Duo w W (fun _ => False) b mb x p pr 5000 E v L ∧ Tied (abs E) L ∧ PwEq p pr ∧ Calm p) := fun W hW => ⟨E, v, L, p, pr, HD.out.below hW, HT.out, HP.out, HC.out⟩
      have HBN : Hid (Below wr.heap.size wr (wr.alloc (.cells #[.int .u8 dd, .string o.nm, .string o.to, .slice A1 o.ns.length c1, .slice A2 o.ps.length c2, .int .i64 o.n, .slice A3 o.ks.length c3] 34))) := (Below.refl _ _).alloc (Nat.le_refl _) _
      clear hD hT hP hC hat hoko hdd hdm
      by_cases h30 : (k : Int) < 30
      · by_cases h9 : dm = 9
        · have hn9 : (dm != 9) = false := by simp [h9]
          have hn9' : (dm == 9) = true := by simp [h9]
          clear h9
          go_wp2_with fail
          go_roundw
          case rel => exact ⟨k + 1, by omega, by go_num, HKEEP.out _ HBN.out⟩
          case measure => simp [intOf]; omega
        · have hn9 : (dm != 9) = true := by simp [h9]
          have hn9' : (dm == 9) = false := by simp [h9]
          have HNE : Hid (o.d % 11 ≠ 9) := by show _ ≠ _; rw [← HDM.out]; exact h9
          obtain ⟨wa, hwa⟩ : ∃ y, y = wr.alloc (.cells #[.int .u8 dd, .string o.nm, .string o.to, .slice A1 o.ns.length c1, .slice A2 o.ps.length c2, .int .i64 o.n, .slice A3 o.ks.length c3] 34) := ⟨_, rfl⟩
          have hba : Below wr.heap.size wr wa := by rw [hwa]; exact HBN.out
          have HDO : Hid (Calls Try.prog 13 #[.pointer (some ⟨b, 0, none⟩), .pointer (some ⟨x, 0, none⟩), .agg #[.int .u8 dd, .string o.nm, .string o.to, .slice A1 o.ns.length c1, .slice A2 o.ps.length c2, .int .i64 o.n, .slice A3 o.ks.length c3]] wa fun e w' => DoGave w b mb x 5000 p o e w') := by
            rw [HDD.out]
            exact do_any w wa b mb x p pr 5000 E v L _ o A1 c1 A2 c2 A3 c3 (HD.out.below hba) HT.out HP.out (HAT.out.below hba) HOKo.out
          rw [hwa] at HDO
          clear h9 hwa hba
          go_wp2_with fail
          refine (HDO.out).mono ?_
          rintro e w5 ⟨E5, v5, L5, p5, pr5, rfl, g1, g2, g3, g4⟩
          have HG : Hid (∃ E v L p pr, Duo w w5 (fun _ => False) b mb x p pr 5000 E v L ∧ Tied (abs E) L ∧ PwEq p pr ∧ Calm p) := ⟨E5, v5, L5, p5, pr5, g1, g2, g3, g4 HC.out HNE.out⟩
          clear g1 g2 g3 g4
          go_wp2_with fail
          go_roundw
          case rel => exact ⟨k + 1, by omega, by go_num, HG.out⟩
          case measure => simp [intOf]; omega
      · go_wp2_with fail
        go_roundw
        case rel => exact ⟨k + 1, by omega, by go_num, HKEEP.out _ HBN.out⟩
        case measure => simp [intOf]; omega
    · have i1 : ¬ (k : Int) < (os.length : Int) := by omega
      obtain ⟨W0, rfl⟩ : ∃ y, y = wr := ⟨wr, rfl⟩
      have HLV0 := Lib.hid HD.out.lv
      have HN := Lib.hid (names_lv w W0 b mb p 5000 E HLV0.out)
      have hnl := namesA_len (abs E)
      have hn16 : (abs E).length ≤ 16 := HLV0.out.fits.2.2
      obtain ⟨N, hNd⟩ : ∃ y, y = namesA (abs E) := ⟨_, rfl⟩
      rw [← hNd] at HN hnl
      have hnd := calm_down HC.out
      have HNd := Lib.hid hNd
      clear hD hT hP hC hNd
      have hNs := names_small HLV0.out
      rw [← HNd.out] at hNs
      have HNS := Lib.hid hNs
      clear hNs
      have hN16 : N.length ≤ 16 := by omega
      have HNL := Lib.hid hnl
      clear hnl hn16
      by_cases h0 : (0 : Int) < (N.length : Int)
      case' pos =>
        go_wp2_with fail
        refine (HN.out).mono ?_
        rintro e w5 ⟨X5, c5, rfl, q1, q2, hb5⟩
        have hlv5 := HLV0.out.below hb5
        have HLV5 := Lib.hid hlv5
        have hn5 := names_lv w w5 b mb p 5000 E hlv5
        rw [← HNd.out] at hn5
        have HN5 := Lib.hid hn5
        clear hb5 q1 q2 hlv5 hn5
        go_wp2_with fail
        refine (HN5.out).mono ?_
        rintro e w6 ⟨X6, c6, rfl, q1, q2, hb6⟩
        have hf6 := firmAll_lv w w6 b mb p 5000 E X6 c6 N (HLV5.out.below hb6) (HLV5.out.new q2) (by omega) (fun s hs => small_max (Nat.le_trans (HNS.out s hs) (by decide)))
        have hfa : firmAll p (abs E) N = (0, firmA (abs E) N) := by unfold firmAll; rw [if_neg hnd, if_pos (by rw [HNd.out]; exact all_own _)]
        rw [hfa] at hf6
        have HF6 := Lib.hid hf6
        clear hb6 q1 q2 hf6 hfa
        go_wp2_with fail
        refine (HF6.out).mono ?_
        rintro e w7 ⟨rfl, E7, hl7, hc7, ha7⟩
        obtain ⟨p7, hp7⟩ : ∃ y, y = p.spent := ⟨_, rfl⟩
        rw [← hp7] at hl7
        have HL7 := Lib.hid hl7
        have HP7 : Hid (Calm p7) := by rw [hp7]; exact HC.out.spent
        have HFM7 : Hid (∀ a ∈ abs E7, a.2.1.length ≤ a.2.2) := by rw [ha7, HNd.out]; exact firm_own _
        clear hl7 hc7 ha7 hp7 HN5 HLV5 HF6
      case' neg =>
        go_wp2_with fail
        refine (HN.out).mono ?_
        rintro e w7 ⟨X5, c5, rfl, q1, q2, hb5⟩
        obtain ⟨E7, hE7⟩ : ∃ y, y = E := ⟨_, rfl⟩
        obtain ⟨p7, hp7⟩ : ∃ y, y = p := ⟨_, rfl⟩
        have HL7 : Hid (Lv w w7 b mb p7 5000 E7) := by rw [hp7, hE7]; exact HLV0.out.below hb5
        have HP7 : Hid (Calm p7) := by rw [hp7]; exact HC.out
        have HFM7 : Hid (∀ a ∈ abs E7, a.2.1.length ≤ a.2.2) := by
          intro a ha
          rw [hE7] at ha
          have : (abs E).length = 0 := by have := HNL.out; omega
          rw [List.length_eq_zero_iff.1 this] at ha
          cases ha
        clear hb5 q1 q2 hE7 hp7
      all_goals
        clear hnd hN16 HNL
        go_wp2_with fail
        obtain ⟨gm, hgm⟩ : ∃ y, y = w7.heap.size := ⟨_, rfl⟩
        obtain ⟨w8, hw8⟩ : ∃ y, y = w7.alloc (.map #[] 0) := ⟨_, rfl⟩
        have hm8 : w8.ownsMap Try.prog 9 rdS gm 0 (.map []) := by rw [hw8, hgm]; exact World.ownsMap_made _ _ _ _
        have hb8 : RowKit.Below w7.heap.size w7 w8 := by rw [hw8]; exact (Below.refl _ _).alloc (Nat.le_refl _) _
        have hs8 : w8.heap.size = gm + 1 := by rw [hw8, hgm]; simp
        rw [← hw8, ← hgm]
        have HGM := Lib.hid hgm
        have HWS8 : Hid (Was (fun g => ¬ Of b mb E7 g ∧ g ≠ gm) w8 gm 0 (.map []) (NowM (abs E7))) := ⟨hm8, fun x hx => by simp [Maps.has] at hx⟩
        have hl8 := HL7.out.below hb8
        have hnm8 := names_lv w w8 b mb p7 5000 E7 hl8
        have hns7 := names_small HL7.out
        have hn7 : (namesA (abs E7)).length ≤ 16 := by rw [namesA_len]; exact HL7.out.fits.2.2
        obtain ⟨N7, hN7⟩ : ∃ y, y = namesA (abs E7) := ⟨_, rfl⟩
        rw [← hN7] at hnm8 hns7 hn7
        have HN7 := Lib.hid hN7
        have HNM8 := Lib.hid hnm8
        have HNS7 := Lib.hid hns7
        have HB8 := Lib.hid hb8
        have HS8 := Lib.hid hs8
        clear hgm hw8 hm8 hb8 hs8 hl8 hnm8 hns7 hN7
        refine (HNM8.out).mono ?_
        rintro e w9 ⟨X9, c9, rfl, q1, hr9, hb9⟩
        have HR9 : Hid (Row (fun g => g ≠ gm) w9 X9 (strs N7)) := hr9.mono (fun g _ h => by have := HS8.out; omega)
        have HWS9 := Lib.hid (HWS8.out.below hb9)
        have HB9 : Hid (RowKit.Below w7.heap.size w7 w9) := HB8.out.trans (hb9.mono HB8.out.size)
        clear hr9 hb9 q1 HWS8 HNM8
        go_wp2_with fail
        go_loopw [14, 15, 16, 68] (fun _ _ _ i wr => ∃ (k : Nat) (D : DataW Unit), k ≤ N7.length ∧ i = .int .i64 k ∧ Was (fun g => ¬ Of b mb E7 g ∧ g ≠ gm) wr gm k D (NowM (abs E7)) ∧ Row (fun g => g ≠ gm) wr X9 (strs N7) ∧ RowKit.Below w7.heap.size w7 wr) (fun _ _ _ i _ => N7.length - (intOf i).toNat)
        case atStart => exact ⟨0, _, Nat.zero_le _, rfl, HWS9.out, HR9.out, HB9.out⟩
        case round =>
          obtain ⟨k5, D5, hk5, rfl, hm5, hr5, hb5⟩ := hrel
          by_cases hlt5 : k5 < N7.length
          · have i5 : (k5 : Int) < (N7.length : Int) := by omega
            obtain ⟨ad, rfl, _, _, hcs⟩ := hr5 k5 (by rw [strs_len]; exact hlt5)
            rw [strs_at hlt5] at hcs
            have hmem := List.getElem_mem hlt5
            obtain ⟨a5, ha5, hx5⟩ := names_in (A := abs E7) (s := N7[k5]) (by rw [← HN7.out]; exact hmem)
            have hsz : N7[k5].size ≤ maxLen := small_max (Nat.le_trans (HNS7.out _ hmem) (by decide))
            have hl5 := HL7.out.below hb5
            have hrd := read_lv w wr b mb p7 5000 E7 N7[k5] a5 hl5 HP7.out.2 hsz ha5 hx5
            have HRD := Lib.hid hrd
            have HM5 := Lib.hid hm5
            have HR5 := Lib.hid hr5
            have HB5 := Lib.hid hb5
            have HA5 := Lib.hid ha5
            have HX5 := Lib.hid hx5
            have HL5 := Lib.hid hl5
            clear hmem hrd hm5 hr5 hb5 ha5 hx5 hl5
            generalize N7[k5] = s at *
            go_wp2_with fail
            refine (HRD.out).mono ?_
            rintro e w10 ⟨A10, c10, rfl, hc10, hr10, hb10⟩
            have hgw : gm < wr.heap.size := HM5.out.map.lt
            have hr10' : Row (fun g => ¬ Of b mb E7 g ∧ g ≠ gm) w10 A10 (u8s a5.2.1) := hr10.mono (fun g _ h => ⟨HL5.out.notOf h, by omega⟩)
            obtain ⟨wm, hrun, hput, htur⟩ := (HM5.out.below hb10).put (show k5 < maxLen by unfold maxLen; omega) hsz ⟨a5, HA5.out, HX5.out, rfl⟩ hc10 hr10' (fun h => h.2 rfl)
            have hgr := htur.grown
            have HPUT := Lib.hid hput
            have HROW : Hid (Row (fun g => g ≠ gm) wm (some ad) (strs N7)) := (HR5.out.below hb10).kept hgr.size fun g hg hn => hgr.block g hg (by intro e; injection e with e; exact hn (by omega))
            have HBEL : Hid (RowKit.Below w7.heap.size w7 wm) := (HB5.out.trans (hb10.mono HB5.out.size)).grown hgr (HB5.out.trans (hb10.mono HB5.out.size)).size (fun g e => by injection e with e; have := HGM.out; omega)
            clear hput htur hgr hr10 hr10' hb10 hgw HRD
            go_wp2_with fail
            go_roundw
            case rel => exact ⟨k5 + 1, _, by omega, by go_num, HPUT.out, HROW.out, HBEL.out⟩
            case measure => simp [intOf]; omega
          · have i5 : ¬ (k5 : Int) < (N7.length : Int) := by omega
            obtain ⟨w11, rfl⟩ : ∃ y, y = wr := ⟨wr, rfl⟩
            obtain ⟨M, hM⟩ : ∃ y, y = NowM (abs E7) := ⟨_, rfl⟩
            have hfr : Front M (abs E7) := by rw [hM]; exact Front.now HFM7.out
            rw [← hM] at hm5
            have HWS11 := Lib.hid hm5
            have HL11 := Lib.hid (HL7.out.below hb5)
            have HNG : Hid (¬ Of b mb E7 gm) := HL7.out.notOf (Nat.le_of_eq HGM.out.symm)
            have HFR := Lib.hid hfr
            clear hM hfr hm5 hr5 hb5 HWS9 HR9 HB9 HB8 HFM7 HN7 HNS7
            go_wp2_with fail
            go_loopw [17, 18, 86] (fun _ _ i wr => ∃ (k : Nat) (E : List Ent) (p : Pw), k ≤ us.length ∧ i = .int .i64 k ∧ Lv w wr b mb p 5000 E ∧ Calm p ∧ Was (fun g => ¬ Of b mb E g ∧ g ≠ gm) wr gm k5 D5 M ∧ ¬ Of b mb E gm ∧ Front M (abs E)) (fun _ _ i _ => us.length - (intOf i).toNat)
            case atStart => exact ⟨0, E7, p7, Nat.zero_le _, rfl, HL11.out, HP7.out, HWS11.out, HNG.out, HFR.out⟩
            case round =>
              obtain ⟨k6, E, p6, hk6, rfl, hL, hC6, hW6, hg6, hF6⟩ := hrel
              by_cases hlt6 : k6 < us.length
              · have i6 : (k6 : Int) < (us.length : Int) := by omega
                obtain ⟨ad, rfl, hadl, A1, c1, A2, c2, A3, c3, hat, k0, k1, k2, k3, k4, k5', k6'⟩ := (HU.out.below hL.bel) k6 hlt6
                have hok := HUOK.out _ (List.getElem_mem hlt6)
                generalize us[k6] = o at *
                have HL := Lib.hid hL
                have HAT := Lib.hid hat
                have HOKo := Lib.hid hok
                have HC6 := Lib.hid hC6
                have HW6 := Lib.hid hW6
                have HG6 := Lib.hid hg6
                have HF6 := Lib.hid hF6
                clear hL hat hok hC6 hW6 hg6 hF6
                by_cases h20 : (k6 : Int) < 20
                · go_wp2_with fail
                  obtain ⟨wa, hwa⟩ : ∃ x, x = wr.alloc (.cells #[.int .u8 o.d, .string o.nm, .string o.to, .slice A1 o.ns.length c1, .slice A2 o.ps.length c2, .int .i64 o.n, .slice A3 o.ks.length c3] 34) := ⟨_, rfl⟩
                  rw [← hwa]
                  have hLa : Lv w wa b mb p6 5000 E := by rw [hwa]; exact HL.out.alloc _
                  have hba : RowKit.Below wr.heap.size wr wa := by rw [hwa]; exact (Below.refl _ _).alloc (Nat.le_refl _) _
                  have hTa : wa.heap[wr.heap.size]? = some (.cells [.int .u8 o.d, .string o.nm, .string o.to, .slice A1 o.ns.length c1, .slice A2 o.ps.length c2, .int .i64 o.n, .slice A3 o.ks.length c3].toArray 34 (0, 0)) := by rw [hwa]; exact new_at rfl
                  have hata : OpAt (fun g => g < wr.heap.size) wa o A1 c1 A2 c2 A3 c3 := by rw [hwa]; exact HAT.out.below ((Below.refl _ _).alloc (Nat.le_refl _) _)
                  have hsa : wa.heap.size = wr.heap.size + 1 := by rw [hwa]; simp
                  obtain ⟨q, hq⟩ : ∃ q, q = wr.heap.size := ⟨_, rfl⟩
                  have hoq : ¬ Of b mb E q := by rw [hq]; exact HL.out.notOf (Nat.le_refl _)
                  rw [← hq] at hTa hsa hata ⊢
                  have HLa := Lib.hid hLa
                  have HTa := Lib.hid hTa
                  have HOQ := Lib.hid hoq
                  have HFW := Lib.hid (few_any _ o A1 A2 A3 c1 c2 c3 wa hata HOKo.out)
                  have HW : Hid (q = wr.heap.size ∧ wr.heap.size < wa.heap.size) := ⟨hq, by omega⟩
                  have HBA := Lib.hid hba
                  clear hwa hLa hTa hata hoq hq k0 k1 k2 k3 k4 k5' k6' hba
                  refine (HFW.out).mono ?_
                  rintro e w3 ⟨B1, e1', B2, e2', B3, e3', rfl, hat3, hfr3, hb3⟩
                  obtain ⟨o', ho'⟩ : ∃ x, x = fewO o := ⟨_, rfl⟩
                  rw [← ho'] at hat3 hfr3 ⊢
                  have hb12 : o'.nm.size ≤ 12 ∧ o'.ps.length ≤ 4 ∧ (∀ t ∈ o'.ps, t.length ≤ 200) := by
                    rw [ho']
                    exact ⟨cutS_size _, fewPs_len _ _, fewPs_most _ _⟩
                  have hs3 := hb3.size
                  have hT3 : w3.heap[q]? = _ := (hb3.block q (by omega)).trans HTa.out
                  have y0 := sv_cell hT3 0
                  have y1 := sv_cell hT3 1
                  have y2 := sv_cell hT3 2
                  have y3 := sv_cell hT3 3
                  have y4 := sv_cell hT3 4
                  have y5 := sv_cell hT3 5
                  have y6 := sv_cell hT3 6
                  simp only [List.getElem?_cons_zero, List.getElem?_cons_succ] at y0 y1 y2 y3 y4 y5 y6
                  have z0 := sv_free (k := 0) hT3
                  have z1 := sv_free (k := 1) hT3
                  have z2 := sv_free (k := 2) hT3
                  have z3 := sv_free (k := 3) hT3
                  have z4 := sv_free (k := 4) hT3
                  have z5 := sv_free (k := 5) hT3
                  have z6 := sv_free (k := 6) hT3
                  have HT3 := Lib.hid hT3
                  have HAT3 := Lib.hid hat3
                  have HB3 := Lib.hid hb3
                  have H12 := Lib.hid hb12
                  unfold opV
                  clear hT3 hat3 hfr3 hb3 hb12 ho'
                  go_wp2_with fail
                  obtain ⟨w4, hw4⟩ : ∃ x, x = ((((((w3.setCell ⟨q, 0, none⟩ (.int .u8 o'.d)).setCell ⟨q, 1, none⟩ (.string o'.nm)).setCell ⟨q, 2, none⟩ (.string o'.to)).setCell ⟨q, 3, none⟩ (.slice B1 o'.ns.length e1')).setCell ⟨q, 4, none⟩ (.slice B2 o'.ps.length e2')).setCell ⟨q, 5, none⟩ (.int .i64 o'.n)).setCell ⟨q, 6, none⟩ (.slice B3 o'.ks.length e3') := ⟨_, rfl⟩
                  rw [← hw4]
                  obtain ⟨hF4, hO4⟩ := FewS.mk' HLa.out (by have := HW.out.1; have := HL.out.bel.size; omega) (by omega) HOQ.out HB3.out HT3.out HAT3.out hw4
                  have HF4 := Lib.hid hF4
                  have hgw : gm < wr.heap.size := HW6.out.map.lt
                  have hB4 : RowKit.Below wr.heap.size wr w4 := below_on (HBA.out.trans (HB3.out.mono HBA.out.size)) hO4 (Nat.le_of_eq HW.out.1.symm)
                  have HW4 := Lib.hid (HW6.out.below hB4)
                  obtain ⟨x0, x1, x2, x3, x4, x5, x6⟩ := hF4.cells
                  clear hw4 hF4 hO4 hB4 hgw y0 y1 y2 y3 y4 y5 y6 z0 z1 z2 z3 z4 z5 z6 HT3 HAT3 HB3 HTa HFW HLa HOQ hs3
                  refine (write_lv w w4 b mb p6 5000 E o'.nm B2 e2' o'.ps HF4.out.lv (by have := H12.out.1; unfold maxLen; omega) HF4.out.at'.ps (by have := H12.out.2.1; omega) (fun t ht => by have := H12.out.2.2 t ht; omega)).mono ?_
                  rintro e w6 ⟨rfl, E', hL6, hC6', hA6⟩
                  obtain ⟨hW6', hG6'⟩ := HW4.out.off hC6' HG6.out
                  have HREL : Hid (Lv w w6 b mb p6.spent 5000 E' ∧ Calm p6.spent ∧ Was (fun g => ¬ Of b mb E' g ∧ g ≠ gm) w6 gm k5 D5 M ∧ ¬ Of b mb E' gm ∧ Front M (abs E')) := ⟨hL6, HC6.out.spent, hW6', hG6', by rw [hA6]; exact HF6.out.write (lv_nodup HL.out) _ _ _ _⟩
                  clear hL6 hC6' hA6 hW6' hG6'
                  go_wp2_with fail
                  go_roundw
                  case rel => exact ⟨k6 + 1, E', p6.spent, by omega, by go_num, HREL.out⟩
                  case measure => simp [intOf]; omega
                · go_wp2_with fail
                  go_roundw
                  case rel => exact ⟨k6 + 1, E, p6, by omega, by go_num, HL.out.alloc _, HC6.out, HW6.out.below ((Below.refl _ _).alloc (Nat.le_refl _) _), HG6.out, HF6.out⟩
                  case measure => simp [intOf]; omega
              · have i6 : ¬ (k6 : Int) < (us.length : Int) := by omega
                obtain ⟨w12, rfl⟩ : ∃ y, y = wr := ⟨wr, rfl⟩
                have HE12 := Lib.hid (ends_any _ K ck keep w12 (HKR.out.below hL.bel) HKC.out hkl)
                have HL12 := Lib.hid hL
                have HW12 := Lib.hid hW6
                have HG12 := Lib.hid hg6
                have HF12 := Lib.hid hF6
                clear hL hW6 hg6 hF6 hC6
                go_wp2_with fail
                refine (HE12.out).mono ?_
                rintro e w13 ⟨Ak, ckk, rfl, hck, hrk, hb13⟩
                rw [i64s_len] at hck ⊢
                obtain ⟨lk, hlk⟩ : ∃ y, y = keep.take 20 := ⟨_, rfl⟩
                have hlk20 : lk.length ≤ 20 := by rw [hlk, List.length_take]; omega
                rw [← hlk] at hck hrk ⊢
                have HL13 := Lib.hid (HL12.out.below hb13)
                have HW13 := Lib.hid (HW12.out.below hb13)
                have HRK13 := Lib.hid (HL12.out.new hrk)
                clear hlk hrk hb13
                go_wp2_with fail
                refine (crash_lv w w13 b mb p6 5000 E Ak ckk lk HL13.out HRK13.out (by omega)).mono ?_
                rintro e w14 ⟨rfl, E14, hL14, hC14, hA14⟩
                obtain ⟨hW14, hG14⟩ := HW13.out.off hC14 HG12.out
                have HL14 := Lib.hid hL14
                have HW14 := Lib.hid hW14
                have HF14 : Hid (Front M (abs E14)) := by show Front _ _; rw [hA14]; exact HF12.out.crash _
                have HLO14 : Hid (∀ x, looseA (abs E14) x = 0) := fun x => by rw [hA14]; exact loose_crash _ _ _
                have hm14 := hW14.map
                clear hL14 hC14 hA14 hW14 hG14 HL13 HW13 HRK13 HL12 HW12 HG12 HF12 HE12 hck
                go_wp2_with (first
                  | (at_range; refine wpList_range_own _ rfl _ 40 rfl 9 41 law9 Try.underlying40 _ gm k5 _ rfl hm14 ?_; intro w0' hrg0 hg0 hs0)
                  | fail)
                go_frame
                go_loopw [19, 20, 21, 22] (fun _ _ _ _ wr => ∃ (left : Lit → Bool) (cnt : Nat), wr.ranges Try.prog 9 rdS gm w14.heap.size k5 D5 left cnt ∧ (∀ kl, left kl = true → Maps.has D5 kl = true) ∧ RowKit.Below w14.heap.size w14 wr)
                  (fun _ _ _ _ wr => wr.rangeLeft gm w14.heap.size)
                case atStart => exact ⟨_, _, hrg0, fun _ h => h, (Below.refl _ _).grown hg0 (Nat.le_refl _) (by simp)⟩
                case round =>
                  obtain ⟨left, cnt, hrg, hlh, hbr⟩ := hrel
                  have HLH := Lib.hid hlh
                  have HBR := Lib.hid hbr
                  clear hlh hbr
                  go_wp2_with (at_next; refine next_was _ rfl _ rfl gm w14.heap.size k5 _ _ _ rfl hrg ?_ ?_)
                  · intro _ _
                    go_wp2_with fail
                    go_ret
                    exact ⟨rfl, HL14.out.bel.trans (HBR.out.mono HL14.out.bel.size)⟩
                  · intro y Ay my cy w15 cnt1 hys hly hat hrg1 hlt1 hg1 hs1 hen
                    obtain ⟨bs, A', c', hM', hat', hc', hrow'⟩ := HW14.out.all _ (HLH.out _ hly)
                    obtain ⟨e1, e2, e3⟩ := encS_inj ((hat .nil).symm.trans (hat' .nil))
                    subst e1 e3
                    obtain ⟨a, haM, hax, ⟨r, har⟩, hle⟩ := HF14.out _ _ hM'
                    have hb15 : RowKit.Below w14.heap.size w14 w15 := HBR.out.grown hg1 HBR.out.size (fun j e => by injection e with e; omega)
                    have hl15 := HL14.out.below hb15
                    have hrd := read_lv w w15 b mb Pw.fresh 5000 E14 y a hl15 rfl hys haM hax
                    have hlen : a.2.1.length = bs.length + r.length := by rw [har, List.length_append]
                    have hrow15 := hrow'.below hb15
                    have HROW := Lib.hid hrow15
                    have HRD := Lib.hid hrd
                    have HL15 := Lib.hid hl15
                    have HB15 := Lib.hid hb15
                    have HRG1 := Lib.hid hrg1
                    have HRG := Lib.hid hrg
                    have HLT := Lib.hid hlt1
                    have HYS := Lib.hid hys
                    have HAR := Lib.hid har
                    have HCC := Lib.hid hc'
                    obtain ⟨m16, hm16⟩ : ∃ z, z = a.2.1.length := ⟨_, rfl⟩
                    have HM16 := Lib.hid hm16
                    have hle16 : my ≤ m16 := by omega
                    have HMY : Hid (my = bs.length) := e2
                    clear hM' hat' hat hrow' haM hax hle hb15 hl15 hrd hrow15 hrg1 hrg hlt1 hs1 hys hly hg1 har hlen hm16 e2 hc'
                    go_wp2_with fail
                    refine (HRD.out).mono ?_
                    rintro e w16 ⟨A16, c16, rfl, hc16, hr16, hb16⟩
                    rw [← HM16.out] at hc16 ⊢
                    have hq16 : Row (fun g => w15.heap.size ≤ g) w16 A16 (u8s bs) := by
                      have h := hr16.take bs.length
                      rwa [HAR.out, show (u8s (bs ++ r)).take bs.length = u8s bs by simp [u8s]] at h
                    have HQ16 := Lib.hid hq16
                    have hlo := loose_lv w w16 b mb Pw.fresh 5000 E14 y (HL15.out.below hb16) HYS.out
                    rw [HLO14.out] at hlo
                    have HLO := Lib.hid hlo
                    have HB16 := Lib.hid hb16
                    have i16 : (my : Int) ≤ (m16 : Int) := by omega
                    have i17 : (my : Int) ≤ (c16 : Int) := by omega
                    have i18 : ¬ (m16 : Int) < (my : Int) := by omega
                    clear hq16 hlo hr16 hb16
                    go_wp2_with fail
                    refine (same_eqF _ _ A16 Ay c16 cy bs my HMY.out w16 HQ16.out (HROW.out.below HB16.out)).mono ?_
                    rintro e w17 ⟨rfl, rfl⟩
                    go_wp2_with fail
                    refine (HLO.out).mono ?_
                    rintro e w18 ⟨rfl, n18, rfl⟩
                    have HB18 : Hid (RowKit.Below w15.heap.size w15 (w16.drewN n18)) := ⟨HB16.out.os, HB16.out.tape, HB16.out.output, HB16.out.size, HB16.out.block⟩
                    have HRG18 : Hid ((w16.drewN n18).ranges Try.prog 9 rdS gm w14.heap.size k5 D5 (fun z => left z && !z.sameKey (.string y.data.toList)) cnt1) := HRG1.out.kept (row := none) ⟨HB18.out.os, HB18.out.tape, HB18.out.output, HB18.out.size, fun i hi _ => HB18.out.block i hi⟩ (by simp) (by simp)
                    go_wp2_with fail
                    refine ⟨⟨_, cnt1, HRG18.out, fun kl h => HLH.out kl ?_, HB15.out.trans (HB18.out.mono HB15.out.size)⟩, ?_⟩
                    · simp only [Bool.and_eq_true] at h
                      exact h.1
                    · rw [HRG18.out.left_eq, HRG.out.left_eq]
                      exact HLT.out

end Go.Proofs.Ytchedflfinkppaa
