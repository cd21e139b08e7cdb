/-
  The walk of DiskPower.
-/
import Derived.Test.YtchedflfinkppaaRoom
namespace Go.Proofs.Ytchedflfinkppaa
open Go.RowKit Go.Maps

/-- power behind k changes of a disk that was armed with N -/
def pwK (N k : Nat) : Pw := if k ≤ N then ⟨false, true, (N : Int) - (k : Int)⟩ else ⟨true, true, 0⟩
theorem pwK_zero (N : Nat) : Pw.fresh.arm (N : Int) = pwK N 0 := by
  have h : decide ((0 : Int) ≤ (N : Int)) = true := by simp
  simp [Pw.arm, Pw.fresh, pwK, h]
theorem pwK_spent (N k : Nat) : (pwK N k).spent = pwK N (k + 1) := by
  unfold pwK
  by_cases h : k ≤ N
  · rw [if_pos h]
    by_cases h2 : k + 1 ≤ N
    · rw [if_pos h2]
      have h3 : ¬ ((N : Int) - (k : Int) = 0) := by omega
      simp only [Pw.spent, Bool.false_eq_true, if_false, if_true, if_neg h3]
      congr 1
      omega
    · rw [if_neg h2]
      have h3 : (N : Int) - (k : Int) = 0 := by omega
      simp only [Pw.spent, Bool.false_eq_true, if_false, if_true, if_pos h3]
      congr 1
  · rw [if_neg h, if_neg (by omega)]
    simp [Pw.spent]
theorem pwK_down (N k : Nat) : (pwK N k).spent.down = decide (N ≤ k) := by
  rw [pwK_spent]
  unfold pwK
  by_cases h : k + 1 ≤ N
  · rw [if_pos h]
    simp
    omega
  · rw [if_neg h]
    simp
    omega

/-- A change that does nothing just where there is no power. -/
def OpA (p : Pw) (A : List AFile) (r : Int × List AFile) : Prop := (p.spent.down = true → r = (9, A)) ∧ (p.spent.down = false → r.1 ≠ 9)
theorem opA_write (p : Pw) (room : Nat) (A : List AFile) (s : ByteArray) (bs : List Int) : OpA p A (writeA p room A s bs) := by
  refine ⟨fun h => by simp [writeA, h], fun h => ?_⟩
  unfold writeA
  rw [if_neg (by simp [h])]
  split
  · simp
  · split
    · split <;> simp
    · split <;> simp
theorem opA_firm (p : Pw) (A : List AFile) (ns : List ByteArray) : OpA p A (firmAll p A ns) := by
  refine ⟨fun h => by simp [firmAll, h], fun h => ?_⟩
  unfold firmAll
  rw [if_neg (by simp [h])]
  split <;> simp
theorem opA_drop (p : Pw) (A : List AFile) (ns : List ByteArray) : OpA p A (dropAll p A ns) := by
  refine ⟨fun h => by simp [dropAll, h], fun h => ?_⟩
  unfold dropAll
  rw [if_neg (by simp [h])]
  split <;> simp
theorem opA_swap (p : Pw) (A : List AFile) (s t : ByteArray) : OpA p A (swapA p A s t) := by
  refine ⟨fun h => by simp [swapA, h], fun h => ?_⟩
  unfold swapA
  rw [if_neg (by simp [h])]
  split
  · simp
  · split <;> simp
theorem opA_trim (p : Pw) (A : List AFile) (s : ByteArray) (z : Int) : OpA p A (trimA p A s z) := by
  refine ⟨fun h => by simp [trimA, h], fun h => ?_⟩
  unfold trimA
  rw [if_neg (by simp [h])]
  split
  · simp
  · split <;> simp
theorem writeA_empty {A : List AFile} (hN : (A.map Prod.fst).Nodup) (hs : sumA A ≤ 5000) (hl : A.length ≤ 16) : (writeA Pw.fresh 5000 A sA []).1 = 0 ∨ ((writeA Pw.fresh 5000 A sA []).1 = 8 ∧ (writeA Pw.fresh 5000 A sA []).2.length = 16) := by
  rcases writeA_up (p := Pw.fresh) (room := 5000) (A := A) (s := sA) (bs := []) fresh_down hN with ⟨h, _⟩ | ⟨h, _⟩ | ⟨h, h2, h3⟩
  · exact .inl h
  · exfalso
    unfold writeA at h
    rw [if_neg (by rw [fresh_down]; simp), if_neg (fun hn => hn sA_name)] at h
    split at h
    · split at h <;> simp at h
    · split at h <;> simp at h
  · rw [h2]
    rw [List.length_nil] at h3
    exact .inr ⟨h, by omega⟩

set_option maxRecDepth 100000 in
set_option maxHeartbeats 4000000 in
theorem law_power (r : Nat) (A : Option Addr) (c : Nat) (os : List Opn) (w : World) (hr : r < 256) (hO : OpsIn w A os) (hl : os.length ≤ 9223372036854775807) (hok : ∀ o ∈ os, OpOk o) :
    Calls Try.prog 5 #[.int .u8 (r : Int), .slice A os.length c] w fun e w' => e = .returned (.bool true) ∧ Below w.heap.size w w' := by
  obtain ⟨n, hn⟩ : ∃ n : Nat, n = r % 12 := ⟨_, rfl⟩
  have e1 : (r : Int).tmod 12 = (n : Int) := by rw [Int.tmod_eq_emod_of_nonneg (by omega)]; omega
  have e2 : (r : Int) % 12 = (n : Int) := by omega
  have hn8 : n < 12 := by omega
  have HO := Lib.hid hO
  have HOK := Lib.hid hok
  clear hO hok hn
  go_enter Try.func5, Try.ntmps5
  go_wp2_with fail
  refine (awake_any w).mono ?_
  rintro e w1 ⟨rfl, hb1⟩
  have HB1 := Lib.hid hb1
  clear hb1
  go_wp2_with fail
  refine (new_lv w w1 5000 HB1.out (by decide)).mono ?_
  rintro e w2 ⟨rfl, h2, _⟩
  obtain ⟨b, hb⟩ : ∃ b, b = w1.heap.size + 1 := ⟨_, rfl⟩
  obtain ⟨mb, hmb⟩ : ∃ mb, mb = w1.heap.size := ⟨_, rfl⟩
  have H2 : Hid (Lv w w2 b mb Pw.fresh 5000 []) := by rw [hb, hmb]; exact h2
  rw [← hb]
  clear h2 hb hmb
  go_wp2_with fail
  refine (arm_lv w w2 b mb Pw.fresh 5000 [] (n : Int) H2.out (by omega)).mono ?_
  rintro e w3 ⟨rfl, E3, hL3, _, _⟩
  have H3 : Hid (Lv w w3 b mb (pwK n 0) 5000 E3) := by rw [← pwK_zero]; exact hL3
  clear hL3
  go_wp2_with fail
  go_loopw [7, 8, 9, 10, 11, 12, 13, 28] (fun dn _ _ _ _ _ _ i wr => ∃ k : Nat, k ≤ os.length ∧ i = .int .i64 k ∧ dn = .int .i64 k ∧ (∃ E, Lv w wr b mb (pwK n k) 5000 E) ∧ k ≤ 30) (fun _ _ _ _ _ _ _ i _ => os.length - (intOf i).toNat)
  case atStart => exact ⟨0, Nat.zero_le _, rfl, rfl, ⟨E3, H3.out⟩, by omega⟩
  case round =>
    obtain ⟨k, hk, rfl, rfl, ⟨E, hL⟩, hk30⟩ := hrel
    by_cases hlt : k < os.length
    · have i1 : (k : Int) < (os.length : Int) := by omega
      obtain ⟨ad, rfl, hadl, A1, c1, A2, c2, A3, c3, hat, k0, k1, k2, k3, k4, k5, k6⟩ := (HO.out.below hL.bel) k hlt
      have hok := HOK.out _ (List.getElem_mem hlt)
      generalize os[k] = o at *
      have HL := Lib.hid hL
      have HAT := Lib.hid hat
      have HOKo := Lib.hid hok
      clear hL hat hok
      by_cases h60 : (30 : Int) ≤ (k : Int)
      · go_wp2_with fail
        obtain ⟨wa, hwa⟩ : ∃ x, x = wr.alloc (.cells #[.int .u8 o.d, .string o.nm, .string o.to, .slice A1 o.ns.length c1, .slice A2 o.ps.length c2, .int .i64 o.n, .slice A3 o.ks.length c3] 34) := ⟨_, rfl⟩
        rw [← hwa]
        have HT : Hid (Lv w wa b mb (pwK n k) 5000 E) := by rw [hwa]; exact HL.out.alloc _
        clear hwa k0 k1 k2 k3 k4 k5 k6
        refine (crash_lv w wa b mb (pwK n k) 5000 E none 0 [] HT.out Row.nil (by simp)).mono ?_
        rintro e w5 ⟨rfl, E5, hL5, _, _⟩
        have H5 := Lib.hid hL5
        clear hL5
        go_wp2_with fail
        refine (write_lv w w5 b mb Pw.fresh 5000 E5 sA none 0 [] H5.out (name_max sA_name) (fun j hj => by simp at hj) (by simp) (by simp)).mono ?_
        rintro e w6 ⟨rfl, E6, hL6, _, hA6⟩
        have H6 := Lib.hid hL6
        have hE := writeA_empty H5.out.nodup H5.out.fits.1 H5.out.fits.2.2
        rw [show ([] : List (List Int)).flatten = [] from rfl] at hA6 ⊢
        rw [← hA6] at hE
        obtain ⟨er, her⟩ : ∃ x, x = (writeA Pw.fresh 5000 (abs E5) sA []).1 := ⟨_, rfl⟩
        rw [← her] at hE ⊢
        have HU : Hid (Calls Try.prog 29 #[.pointer (some ⟨b, 0, none⟩)] w6 fun e w' => e = .returned (.bool true) ∧ w6 = w') := up_lv w w6 b mb Pw.fresh 5000 E6 hL6
        clear her hL6 hA6
        rcases hE with rfl | ⟨rfl, hE⟩
        · go_wp2_with fail
          refine (HU.out).mono ?_
          rintro e w7 ⟨rfl, rfl⟩
          go_wp2_with fail
          go_ret
          exact ⟨rfl, H6.out.bel⟩
        · have HN := Lib.hid (names_lv w w6 b mb Pw.fresh 5000 E6 H6.out)
          have hE2 : (namesA (abs E6)).length = 16 := by rw [namesA_len]; exact hE
          have HE2 := Lib.hid hE2
          clear hE hE2
          go_wp2_with fail
          refine (HU.out).mono ?_
          rintro e w7 ⟨rfl, rfl⟩
          go_wp2_with fail
          refine (HN.out).mono ?_
          rintro e w8 ⟨X, cx, rfl, _, _, hb8⟩
          rw [HE2.out]
          have HB8 : Hid (Below w.heap.size w w8) := H6.out.bel.trans (hb8.mono H6.out.bel.size)
          clear hb8
          go_wp2_with fail
          go_ret
          exact ⟨rfl, HB8.out⟩
      · go_wp2_with fail
        obtain ⟨wa, hwa⟩ : ∃ x, x = wr.alloc (.cells #[.int .u8 o.d, .string o.nm, .string o.to, .slice A1 o.ns.length c1, .slice A2 o.ps.length c2, .int .i64 o.n, .slice A3 o.ks.length c3] 34) := ⟨_, rfl⟩
        rw [← hwa]
        have hLa : Lv w wa b mb (pwK n k) 5000 E := by rw [hwa]; exact HL.out.alloc _
        have hTa : wa.heap[wr.heap.size]? = some (.cells [.int .u8 o.d, .string o.nm, .string o.to, .slice A1 o.ns.length c1, .slice A2 o.ps.length c2, .int .i64 o.n, .slice A3 o.ks.length c3].toArray 34 (0, 0)) := by rw [hwa]; exact new_at rfl
        have hata : OpAt (fun g => g < wr.heap.size) wa o A1 c1 A2 c2 A3 c3 := by rw [hwa]; exact HAT.out.below ((Below.refl _ _).alloc (Nat.le_refl _) _)
        have hsa : wa.heap.size = wr.heap.size + 1 := by rw [hwa]; simp
        obtain ⟨q, hq⟩ : ∃ q, q = wr.heap.size := ⟨_, rfl⟩
        have hoq : ¬ Of b mb E q := by rw [hq]; exact HL.out.notOf (Nat.le_refl _)
        rw [← hq] at hTa hsa hata ⊢
        have HLa := Lib.hid hLa
        have HTa := Lib.hid hTa
        have HOQ := Lib.hid hoq
        have HFW := Lib.hid (few_any _ o A1 A2 A3 c1 c2 c3 wa hata HOKo.out)
        have HW : Hid (q = wr.heap.size ∧ wr.heap.size < wa.heap.size) := ⟨hq, by omega⟩
        clear hwa hLa hTa hata hoq hq k0 k1 k2 k3 k4 k5 k6
        refine (HFW.out).mono ?_
        rintro e w3 ⟨B1, e1', B2, e2', B3, e3', rfl, hat3, hfr3, hb3⟩
        obtain ⟨o', ho'⟩ : ∃ x, x = fewO o := ⟨_, rfl⟩
        rw [← ho'] at hat3 hfr3 ⊢
        have hb12 : (o'.nm.size ≤ 12 ∧ o'.to.size ≤ 12) ∧ (o'.ps.length ≤ 4 ∧ ∀ t ∈ o'.ps, t.length ≤ 200) ∧ (o'.ns.length ≤ 4 ∧ ∀ s ∈ o'.ns, s.size ≤ 12) ∧ (0 ≤ o'.d ∧ o'.d < 256) := by
          rw [ho']
          exact ⟨⟨cutS_size _, cutS_size _⟩, ⟨fewPs_len _ _, fewPs_most _ _⟩, ⟨fewNs_len _ _, fewNs_most _ _⟩, HOKo.out.d⟩
        have hs3 := hb3.size
        have hT3 : w3.heap[q]? = _ := (hb3.block q (by omega)).trans HTa.out
        have y0 := sv_cell hT3 0
        have y1 := sv_cell hT3 1
        have y2 := sv_cell hT3 2
        have y3 := sv_cell hT3 3
        have y4 := sv_cell hT3 4
        have y5 := sv_cell hT3 5
        have y6 := sv_cell hT3 6
        simp only [List.getElem?_cons_zero, List.getElem?_cons_succ] at y0 y1 y2 y3 y4 y5 y6
        have p0 := sv_free (k := 0) hT3
        have p1 := sv_free (k := 1) hT3
        have p2 := sv_free (k := 2) hT3
        have p3 := sv_free (k := 3) hT3
        have p4 := sv_free (k := 4) hT3
        have p5 := sv_free (k := 5) hT3
        have p6 := sv_free (k := 6) hT3
        have HT3 := Lib.hid hT3
        have HAT3 := Lib.hid hat3
        have HB3 := Lib.hid hb3
        have H12 := Lib.hid hb12
        unfold opV
        clear hT3 hat3 hfr3 hb3 hb12 ho'
        go_wp2_with fail
        obtain ⟨w4, hw4⟩ : ∃ x, x = ((((((w3.setCell ⟨q, 0, none⟩ (.int .u8 o'.d)).setCell ⟨q, 1, none⟩ (.string o'.nm)).setCell ⟨q, 2, none⟩ (.string o'.to)).setCell ⟨q, 3, none⟩ (.slice B1 o'.ns.length e1')).setCell ⟨q, 4, none⟩ (.slice B2 o'.ps.length e2')).setCell ⟨q, 5, none⟩ (.int .i64 o'.n)).setCell ⟨q, 6, none⟩ (.slice B3 o'.ks.length e3') := ⟨_, rfl⟩
        rw [← hw4]
        have hF4 := (FewS.mk' HLa.out (by have := HW.out.1; have := HL.out.bel.size; omega) (by omega) HOQ.out HB3.out HT3.out HAT3.out hw4).1
        have HF4 := Lib.hid hF4
        clear hw4 hF4 y0 y1 y2 y3 y4 y5 y6 p0 p1 p2 p3 p4 p5 p6 HT3 HAT3 HB3 HTa HFW HLa HOQ hs3
        obtain ⟨was, hwas⟩ : ∃ x, x = sumA (abs E) := ⟨_, rfl⟩
        obtain ⟨nc, hnc⟩ : ∃ x, x = (abs E).length := ⟨_, rfl⟩
        have HNA : Hid (∀ W E' p', Lv w W b mb p' 5000 E' → Calls Try.prog 15 #[.pointer (some ⟨b, 0, none⟩)] W fun e w' => (∃ X c, e = .returned (.slice X (abs E').length c)) ∧ Below W.heap.size W w') := fun W E' p' hW => by
          refine (names_lv w W b mb p' 5000 E' hW).mono ?_
          rintro e w' ⟨X, cx, rfl, _, _, hb'⟩
          exact ⟨⟨X, cx, by rw [namesA_len]⟩, hb'⟩
        refine (used_lv w w4 b mb (pwK n k) 5000 E HF4.out.lv).mono ?_
        rintro e w5 ⟨rfl, hb5⟩
        rw [← hwas]
        have HF5 := Lib.hid (HF4.out.below hb5)
        clear hb5 HF4
        go_wp2_with fail
        refine (HNA.out w5 E _ HF5.out.lv).mono ?_
        rintro e w6 ⟨⟨X6, cx6, rfl⟩, hb6⟩
        rw [← hnc]
        have hF6 := HF5.out.below hb6
        have HF6 := Lib.hid hF6
        obtain ⟨z0, z1, z2, z3, z4, z5, z6⟩ := hF6.cells
        have hwb : was ≤ 1048576 ∧ nc ≤ 16 := by have h1 := HL.out.fits; omega
        have HWAS := Lib.hid hwas
        have HNC := Lib.hid hnc
        obtain ⟨dd, hdd⟩ : ∃ x, x = o'.d := ⟨_, rfl⟩
        rw [← hdd] at z0
        have hd8 : 0 ≤ dd ∧ dd < 256 := by rw [hdd]; exact H12.out.2.2.2
        obtain ⟨dm, hdm⟩ : ∃ x, x = dd % 5 := ⟨_, rfl⟩
        have d1 : dd.tmod 5 = dm := by rw [Int.tmod_eq_emod_of_nonneg (by omega), hdm]
        have d2 : dd % 5 = dm := hdm.symm
        have d3 : dm = 0 ∨ dm = 1 ∨ dm = 2 ∨ dm = 3 ∨ dm = 4 := by omega
        have HDN := Lib.hid (pwK_down n k)
        have HSP := Lib.hid (pwK_spent n k)
        clear hb6 HF5 hwas hnc hF6 hdd hdm
        by_cases hNk : (n : Int) ≤ (k : Int)
        case' pos =>
          have HD2 : Hid ((pwK n k).spent.down = true) := by show _ = _; rw [HDN.out]; simp; omega
          have HUP : Hid (∀ W E', Lv w W b mb (pwK n k).spent 5000 E' → Calls Try.prog 29 #[.pointer (some ⟨b, 0, none⟩)] W fun e w' => e = .returned (.bool false) ∧ W = w') := fun W E' hW => by
            have h := up_lv w W b mb (pwK n k).spent 5000 E' hW
            rw [HD2.out] at h
            exact h
          have HER : Hid (∀ r : Int × List AFile, OpA (pwK n k) (abs E) r → r.1 = 9 ∧ r.2 = abs E) := fun r hr => by rw [hr.1 HD2.out]; exact ⟨rfl, rfl⟩
        case' neg =>
          have HD2 : Hid ((pwK n k).spent.down = false) := by show _ = _; rw [HDN.out]; simp; omega
          have HUP : Hid (∀ W E', Lv w W b mb (pwK n k).spent 5000 E' → Calls Try.prog 29 #[.pointer (some ⟨b, 0, none⟩)] W fun e w' => e = .returned (.bool true) ∧ W = w') := fun W E' hW => by
            have h := up_lv w W b mb (pwK n k).spent 5000 E' hW
            rw [HD2.out] at h
            exact h
          have HER : Hid (∀ r : Int × List AFile, OpA (pwK n k) (abs E) r → ¬ r.1 = 9) := fun r hr => hr.2 HD2.out
        all_goals rcases d3 with rfl | rfl | rfl | rfl | rfl
        all_goals (go_wp2_with fail)
        · refine (firmAll_lv w w6 b mb (pwK n k) 5000 E B1 e1' o'.ns HF6.out.lv HF6.out.at'.ns (by have := H12.out.2.2.1.1; omega) (fun s hs => by have := H12.out.2.2.1.2 s hs; unfold maxLen; omega)).mono ?_
          rintro e w7 ⟨rfl, hL7⟩
          obtain ⟨E', hA', hF7, _⟩ := HF6.out.change hL7
          have hop := HER.out _ (opA_firm (pwK n k) (abs E) o'.ns)
          have HF7 := Lib.hid hF7
          obtain ⟨er, her⟩ : ∃ x, x = (firmAll (pwK n k) (abs E) o'.ns).1 := ⟨_, rfl⟩
          rw [← her] at hop ⊢
          clear her hL7 hA' hF7 z0 z1 z2 z3 z4 z5 z6
          have hb9 : (er == 9) = false := by simpa using hop
          have hdc : decide (n ≤ k) = false := by simp; omega
          have hdd : decide ((n : Int) ≤ (k : Int)) = false := by simp; omega
          clear hop
          go_wp2_with fail
          refine (HUP.out _ E' HF7.out.lv).mono ?_
          rintro e w8 ⟨rfl, rfl⟩
          go_wp2_with fail
          go_roundw
          case rel => exact ⟨k + 1, by omega, by go_num, by go_num, ⟨E', by rw [← HSP.out]; exact HF7.out.lv⟩, by omega⟩
          case measure => simp [intOf]; omega
        · refine (swapAll_lv w w6 b mb (pwK n k) 5000 E o'.nm o'.to HF6.out.lv (by have := H12.out.1.2; unfold maxLen; omega) (by have := H12.out.1.1; unfold maxLen; omega)).mono ?_
          rintro e w7 ⟨rfl, hL7⟩
          obtain ⟨E', hA', hF7, _⟩ := HF6.out.change hL7
          have hop := HER.out _ (opA_swap (pwK n k) (abs E) o'.nm o'.to)
          have HF7 := Lib.hid hF7
          obtain ⟨er, her⟩ : ∃ x, x = (swapA (pwK n k) (abs E) o'.nm o'.to).1 := ⟨_, rfl⟩
          rw [← her] at hop ⊢
          clear her hL7 hA' hF7 z0 z1 z2 z3 z4 z5 z6
          have hb9 : (er == 9) = false := by simpa using hop
          have hdc : decide (n ≤ k) = false := by simp; omega
          have hdd : decide ((n : Int) ≤ (k : Int)) = false := by simp; omega
          clear hop
          go_wp2_with fail
          refine (HUP.out _ E' HF7.out.lv).mono ?_
          rintro e w8 ⟨rfl, rfl⟩
          go_wp2_with fail
          go_roundw
          case rel => exact ⟨k + 1, by omega, by go_num, by go_num, ⟨E', by rw [← HSP.out]; exact HF7.out.lv⟩, by omega⟩
          case measure => simp [intOf]; omega
        · refine (trim_lv w w6 b mb (pwK n k) 5000 E o'.nm o'.n HF6.out.lv (by have := H12.out.1.1; unfold maxLen; omega)).mono ?_
          rintro e w7 ⟨rfl, hL7⟩
          obtain ⟨E', hA', hF7, _⟩ := HF6.out.change hL7
          have hop := HER.out _ (opA_trim (pwK n k) (abs E) o'.nm o'.n)
          have HF7 := Lib.hid hF7
          obtain ⟨er, her⟩ : ∃ x, x = (trimA (pwK n k) (abs E) o'.nm o'.n).1 := ⟨_, rfl⟩
          rw [← her] at hop ⊢
          clear her hL7 hA' hF7 z0 z1 z2 z3 z4 z5 z6
          have hb9 : (er == 9) = false := by simpa using hop
          have hdc : decide (n ≤ k) = false := by simp; omega
          have hdd : decide ((n : Int) ≤ (k : Int)) = false := by simp; omega
          clear hop
          go_wp2_with fail
          refine (HUP.out _ E' HF7.out.lv).mono ?_
          rintro e w8 ⟨rfl, rfl⟩
          go_wp2_with fail
          go_roundw
          case rel => exact ⟨k + 1, by omega, by go_num, by go_num, ⟨E', by rw [← HSP.out]; exact HF7.out.lv⟩, by omega⟩
          case measure => simp [intOf]; omega
        · refine (dropAll_lv w w6 b mb (pwK n k) 5000 E B1 e1' o'.ns HF6.out.lv HF6.out.at'.ns (by have := H12.out.2.2.1.1; omega) (fun s hs => by have := H12.out.2.2.1.2 s hs; unfold maxLen; omega)).mono ?_
          rintro e w7 ⟨rfl, hL7⟩
          obtain ⟨E', hA', hF7, _⟩ := HF6.out.change hL7
          have hop := HER.out _ (opA_drop (pwK n k) (abs E) o'.ns)
          have HF7 := Lib.hid hF7
          obtain ⟨er, her⟩ : ∃ x, x = (dropAll (pwK n k) (abs E) o'.ns).1 := ⟨_, rfl⟩
          rw [← her] at hop ⊢
          clear her hL7 hA' hF7 z0 z1 z2 z3 z4 z5 z6
          have hb9 : (er == 9) = false := by simpa using hop
          have hdc : decide (n ≤ k) = false := by simp; omega
          have hdd : decide ((n : Int) ≤ (k : Int)) = false := by simp; omega
          clear hop
          go_wp2_with fail
          refine (HUP.out _ E' HF7.out.lv).mono ?_
          rintro e w8 ⟨rfl, rfl⟩
          go_wp2_with fail
          go_roundw
          case rel => exact ⟨k + 1, by omega, by go_num, by go_num, ⟨E', by rw [← HSP.out]; exact HF7.out.lv⟩, by omega⟩
          case measure => simp [intOf]; omega
        · refine (write_lv w w6 b mb (pwK n k) 5000 E o'.nm B2 e2' o'.ps HF6.out.lv (by have := H12.out.1.1; unfold maxLen; omega) HF6.out.at'.ps (by have := H12.out.2.1.1; omega) (fun t ht => by have := H12.out.2.1.2 t ht; omega)).mono ?_
          rintro e w7 ⟨rfl, hL7⟩
          obtain ⟨E', hA', hF7, _⟩ := HF6.out.change hL7
          have hop := HER.out _ (opA_write (pwK n k) 5000 (abs E) o'.nm o'.ps.flatten)
          have HF7 := Lib.hid hF7
          obtain ⟨er, her⟩ : ∃ x, x = (writeA (pwK n k) 5000 (abs E) o'.nm o'.ps.flatten).1 := ⟨_, rfl⟩
          rw [← her] at hop ⊢
          clear her hL7 hA' hF7 z0 z1 z2 z3 z4 z5 z6
          have hb9 : (er == 9) = false := by simpa using hop
          have hdc : decide (n ≤ k) = false := by simp; omega
          have hdd : decide ((n : Int) ≤ (k : Int)) = false := by simp; omega
          clear hop
          go_wp2_with fail
          refine (HUP.out _ E' HF7.out.lv).mono ?_
          rintro e w8 ⟨rfl, rfl⟩
          go_wp2_with fail
          go_roundw
          case rel => exact ⟨k + 1, by omega, by go_num, by go_num, ⟨E', by rw [← HSP.out]; exact HF7.out.lv⟩, by omega⟩
          case measure => simp [intOf]; omega
        · refine (firmAll_lv w w6 b mb (pwK n k) 5000 E B1 e1' o'.ns HF6.out.lv HF6.out.at'.ns (by have := H12.out.2.2.1.1; omega) (fun s hs => by have := H12.out.2.2.1.2 s hs; unfold maxLen; omega)).mono ?_
          rintro e w7 ⟨rfl, hL7⟩
          obtain ⟨E', hA', hF7, _⟩ := HF6.out.change hL7
          have hop := HER.out _ (opA_firm (pwK n k) (abs E) o'.ns)
          rw [← hA'] at hop
          have HF7 := Lib.hid hF7
          obtain ⟨er, her⟩ : ∃ x, x = (firmAll (pwK n k) (abs E) o'.ns).1 := ⟨_, rfl⟩
          rw [← her] at hop ⊢
          clear her hL7 hA' hF7 z0 z1 z2 z3 z4 z5 z6
          obtain ⟨rfl, hAE⟩ := hop
          have HAE := Lib.hid hAE
          clear hAE
          go_wp2_with fail
          refine (HUP.out _ E' HF7.out.lv).mono ?_
          rintro e w8 ⟨rfl, rfl⟩
          go_wp2_with fail
          refine (used_lv w w7 b mb (pwK n k).spent 5000 E' HF7.out.lv).mono ?_
          rintro e w9 ⟨rfl, hb9⟩
          rw [HAE.out, ← HWAS.out]
          have HL9 := Lib.hid (HF7.out.lv.below hb9)
          clear hb9
          go_wp2_with fail
          refine (HNA.out _ E' _ HL9.out).mono ?_
          rintro e w10 ⟨⟨X10, cx10, rfl⟩, hb10⟩
          rw [HAE.out, ← HNC.out]
          have HL10 := Lib.hid (HL9.out.below hb10)
          clear hb10
          go_wp2_with fail
          go_roundw
          case rel => exact ⟨k + 1, by omega, by go_num, by go_num, ⟨E', by rw [← HSP.out]; exact HL10.out⟩, by omega⟩
          case measure => simp [intOf]; omega
        · refine (swapAll_lv w w6 b mb (pwK n k) 5000 E o'.nm o'.to HF6.out.lv (by have := H12.out.1.2; unfold maxLen; omega) (by have := H12.out.1.1; unfold maxLen; omega)).mono ?_
          rintro e w7 ⟨rfl, hL7⟩
          obtain ⟨E', hA', hF7, _⟩ := HF6.out.change hL7
          have hop := HER.out _ (opA_swap (pwK n k) (abs E) o'.nm o'.to)
          rw [← hA'] at hop
          have HF7 := Lib.hid hF7
          obtain ⟨er, her⟩ : ∃ x, x = (swapA (pwK n k) (abs E) o'.nm o'.to).1 := ⟨_, rfl⟩
          rw [← her] at hop ⊢
          clear her hL7 hA' hF7 z0 z1 z2 z3 z4 z5 z6
          obtain ⟨rfl, hAE⟩ := hop
          have HAE := Lib.hid hAE
          clear hAE
          go_wp2_with fail
          refine (HUP.out _ E' HF7.out.lv).mono ?_
          rintro e w8 ⟨rfl, rfl⟩
          go_wp2_with fail
          refine (used_lv w w7 b mb (pwK n k).spent 5000 E' HF7.out.lv).mono ?_
          rintro e w9 ⟨rfl, hb9⟩
          rw [HAE.out, ← HWAS.out]
          have HL9 := Lib.hid (HF7.out.lv.below hb9)
          clear hb9
          go_wp2_with fail
          refine (HNA.out _ E' _ HL9.out).mono ?_
          rintro e w10 ⟨⟨X10, cx10, rfl⟩, hb10⟩
          rw [HAE.out, ← HNC.out]
          have HL10 := Lib.hid (HL9.out.below hb10)
          clear hb10
          go_wp2_with fail
          go_roundw
          case rel => exact ⟨k + 1, by omega, by go_num, by go_num, ⟨E', by rw [← HSP.out]; exact HL10.out⟩, by omega⟩
          case measure => simp [intOf]; omega
        · refine (trim_lv w w6 b mb (pwK n k) 5000 E o'.nm o'.n HF6.out.lv (by have := H12.out.1.1; unfold maxLen; omega)).mono ?_
          rintro e w7 ⟨rfl, hL7⟩
          obtain ⟨E', hA', hF7, _⟩ := HF6.out.change hL7
          have hop := HER.out _ (opA_trim (pwK n k) (abs E) o'.nm o'.n)
          rw [← hA'] at hop
          have HF7 := Lib.hid hF7
          obtain ⟨er, her⟩ : ∃ x, x = (trimA (pwK n k) (abs E) o'.nm o'.n).1 := ⟨_, rfl⟩
          rw [← her] at hop ⊢
          clear her hL7 hA' hF7 z0 z1 z2 z3 z4 z5 z6
          obtain ⟨rfl, hAE⟩ := hop
          have HAE := Lib.hid hAE
          clear hAE
          go_wp2_with fail
          refine (HUP.out _ E' HF7.out.lv).mono ?_
          rintro e w8 ⟨rfl, rfl⟩
          go_wp2_with fail
          refine (used_lv w w7 b mb (pwK n k).spent 5000 E' HF7.out.lv).mono ?_
          rintro e w9 ⟨rfl, hb9⟩
          rw [HAE.out, ← HWAS.out]
          have HL9 := Lib.hid (HF7.out.lv.below hb9)
          clear hb9
          go_wp2_with fail
          refine (HNA.out _ E' _ HL9.out).mono ?_
          rintro e w10 ⟨⟨X10, cx10, rfl⟩, hb10⟩
          rw [HAE.out, ← HNC.out]
          have HL10 := Lib.hid (HL9.out.below hb10)
          clear hb10
          go_wp2_with fail
          go_roundw
          case rel => exact ⟨k + 1, by omega, by go_num, by go_num, ⟨E', by rw [← HSP.out]; exact HL10.out⟩, by omega⟩
          case measure => simp [intOf]; omega
        · refine (dropAll_lv w w6 b mb (pwK n k) 5000 E B1 e1' o'.ns HF6.out.lv HF6.out.at'.ns (by have := H12.out.2.2.1.1; omega) (fun s hs => by have := H12.out.2.2.1.2 s hs; unfold maxLen; omega)).mono ?_
          rintro e w7 ⟨rfl, hL7⟩
          obtain ⟨E', hA', hF7, _⟩ := HF6.out.change hL7
          have hop := HER.out _ (opA_drop (pwK n k) (abs E) o'.ns)
          rw [← hA'] at hop
          have HF7 := Lib.hid hF7
          obtain ⟨er, her⟩ : ∃ x, x = (dropAll (pwK n k) (abs E) o'.ns).1 := ⟨_, rfl⟩
          rw [← her] at hop ⊢
          clear her hL7 hA' hF7 z0 z1 z2 z3 z4 z5 z6
          obtain ⟨rfl, hAE⟩ := hop
          have HAE := Lib.hid hAE
          clear hAE
          go_wp2_with fail
          refine (HUP.out _ E' HF7.out.lv).mono ?_
          rintro e w8 ⟨rfl, rfl⟩
          go_wp2_with fail
          refine (used_lv w w7 b mb (pwK n k).spent 5000 E' HF7.out.lv).mono ?_
          rintro e w9 ⟨rfl, hb9⟩
          rw [HAE.out, ← HWAS.out]
          have HL9 := Lib.hid (HF7.out.lv.below hb9)
          clear hb9
          go_wp2_with fail
          refine (HNA.out _ E' _ HL9.out).mono ?_
          rintro e w10 ⟨⟨X10, cx10, rfl⟩, hb10⟩
          rw [HAE.out, ← HNC.out]
          have HL10 := Lib.hid (HL9.out.below hb10)
          clear hb10
          go_wp2_with fail
          go_roundw
          case rel => exact ⟨k + 1, by omega, by go_num, by go_num, ⟨E', by rw [← HSP.out]; exact HL10.out⟩, by omega⟩
          case measure => simp [intOf]; omega
        · refine (write_lv w w6 b mb (pwK n k) 5000 E o'.nm B2 e2' o'.ps HF6.out.lv (by have := H12.out.1.1; unfold maxLen; omega) HF6.out.at'.ps (by have := H12.out.2.1.1; omega) (fun t ht => by have := H12.out.2.1.2 t ht; omega)).mono ?_
          rintro e w7 ⟨rfl, hL7⟩
          obtain ⟨E', hA', hF7, _⟩ := HF6.out.change hL7
          have hop := HER.out _ (opA_write (pwK n k) 5000 (abs E) o'.nm o'.ps.flatten)
          rw [← hA'] at hop
          have HF7 := Lib.hid hF7
          obtain ⟨er, her⟩ : ∃ x, x = (writeA (pwK n k) 5000 (abs E) o'.nm o'.ps.flatten).1 := ⟨_, rfl⟩
          rw [← her] at hop ⊢
          clear her hL7 hA' hF7 z0 z1 z2 z3 z4 z5 z6
          obtain ⟨rfl, hAE⟩ := hop
          have HAE := Lib.hid hAE
          clear hAE
          go_wp2_with fail
          refine (HUP.out _ E' HF7.out.lv).mono ?_
          rintro e w8 ⟨rfl, rfl⟩
          go_wp2_with fail
          refine (used_lv w w7 b mb (pwK n k).spent 5000 E' HF7.out.lv).mono ?_
          rintro e w9 ⟨rfl, hb9⟩
          rw [HAE.out, ← HWAS.out]
          have HL9 := Lib.hid (HF7.out.lv.below hb9)
          clear hb9
          go_wp2_with fail
          refine (HNA.out _ E' _ HL9.out).mono ?_
          rintro e w10 ⟨⟨X10, cx10, rfl⟩, hb10⟩
          rw [HAE.out, ← HNC.out]
          have HL10 := Lib.hid (HL9.out.below hb10)
          clear hb10
          go_wp2_with fail
          go_roundw
          case rel => exact ⟨k + 1, by omega, by go_num, by go_num, ⟨E', by rw [← HSP.out]; exact HL10.out⟩, by omega⟩
          case measure => simp [intOf]; omega
    · have i1 : ¬ (k : Int) < (os.length : Int) := by omega
      have HT := Lib.hid hL
      clear hL
      go_wp2_with fail
      refine (crash_lv w wr b mb (pwK n k) 5000 E none 0 [] HT.out Row.nil (by simp)).mono ?_
      rintro e w5 ⟨rfl, E5, hL5, _, _⟩
      have H5 := Lib.hid hL5
      clear hL5
      go_wp2_with fail
      refine (write_lv w w5 b mb Pw.fresh 5000 E5 sA none 0 [] H5.out (name_max sA_name) (fun j hj => by simp at hj) (by simp) (by simp)).mono ?_
      rintro e w6 ⟨rfl, E6, hL6, _, hA6⟩
      have H6 := Lib.hid hL6
      have hE := writeA_empty H5.out.nodup H5.out.fits.1 H5.out.fits.2.2
      rw [show ([] : List (List Int)).flatten = [] from rfl] at hA6 ⊢
      rw [← hA6] at hE
      obtain ⟨er, her⟩ : ∃ x, x = (writeA Pw.fresh 5000 (abs E5) sA []).1 := ⟨_, rfl⟩
      rw [← her] at hE ⊢
      have HU : Hid (Calls Try.prog 29 #[.pointer (some ⟨b, 0, none⟩)] w6 fun e w' => e = .returned (.bool true) ∧ w6 = w') := up_lv w w6 b mb Pw.fresh 5000 E6 hL6
      clear her hL6 hA6
      rcases hE with rfl | ⟨rfl, hE⟩
      · go_wp2_with fail
        refine (HU.out).mono ?_
        rintro e w7 ⟨rfl, rfl⟩
        go_wp2_with fail
        go_ret
        exact ⟨rfl, H6.out.bel⟩
      · have HN := Lib.hid (names_lv w w6 b mb Pw.fresh 5000 E6 H6.out)
        have hE2 : (namesA (abs E6)).length = 16 := by rw [namesA_len]; exact hE
        have HE2 := Lib.hid hE2
        clear hE hE2
        go_wp2_with fail
        refine (HU.out).mono ?_
        rintro e w7 ⟨rfl, rfl⟩
        go_wp2_with fail
        refine (HN.out).mono ?_
        rintro e w8 ⟨X, cx, rfl, _, _, hb8⟩
        rw [HE2.out]
        have HB8 : Hid (Below w.heap.size w w8) := H6.out.bel.trans (hb8.mono H6.out.bel.size)
        clear hb8
        go_wp2_with fail
        go_ret
        exact ⟨rfl, HB8.out⟩

end Go.Proofs.Ytchedflfinkppaa
