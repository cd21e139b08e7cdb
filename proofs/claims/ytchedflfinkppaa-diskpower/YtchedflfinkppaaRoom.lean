/-
  The walk of DiskRoom.
-/
import Derived.Test.YtchedflfinkppaaFew1
namespace Go.Proofs.Ytchedflfinkppaa
open Go.RowKit Go.Maps

theorem setA_not {A : List AFile} {x : List UInt8} {bs : List Int} {f : Nat} (h : ∀ a ∈ A, a.1 ≠ x) : setA A x bs f = A := by
  refine (List.map_congr_left fun a ha => ?_).trans (List.map_id A)
  rw [if_neg (h a ha)]
  rfl
theorem setA_sum {x : List UInt8} {bs : List Int} {f : Nat} : ∀ {A : List AFile}, (A.map Prod.fst).Nodup → ∀ {a : AFile}, a ∈ A → a.1 = x → sumA (setA A x bs f) + a.2.1.length = sumA A + bs.length
  | [], _, _, h, _ => by cases h
  | e :: A, hp, a, ha, hx => by
    rw [List.map_cons, List.nodup_cons] at hp
    obtain ⟨h1, h2⟩ := hp
    rcases List.mem_cons.1 ha with rfl | ha'
    · have hs := setA_not (bs := bs) (f := f) (A := A) (x := x) fun e' he' hn => h1 (List.mem_map.2 ⟨e', he', hn.trans hx.symm⟩)
      rw [show setA (a :: A) x bs f = (a.1, bs, f) :: setA A x bs f by simp [setA, hx], hs]
      simp only [sumA, List.map_cons, List.sum_cons]
      omega
    · have hn : e.1 ≠ x := fun hn => h1 (List.mem_map.2 ⟨a, ha', hx.trans hn.symm⟩)
      have ih := setA_sum (bs := bs) (f := f) h2 ha' hx
      rw [show setA (e :: A) x bs f = e :: setA A x bs f by simp [setA, hn]]
      simp only [sumA, List.map_cons, List.sum_cons] at ih ⊢
      omega
theorem Lv.nodup {w0 w : World} {b mb : Nat} {p : Pw} {room : Nat} {E : List Ent} (h : Lv w0 w b mb p room E) : ((abs E).map Prod.fst).Nodup := by
  obtain ⟨D, hD⟩ := h.dsk
  rw [abs_names]
  exact hD.nodup
theorem flat_bound (m : Nat) : ∀ {ts : List (List Int)}, (∀ t ∈ ts, t.length ≤ m) → ts.flatten.length ≤ ts.length * m
  | [], _ => by simp
  | t :: ts, h => by
    have h1 := h t List.mem_cons_self
    have h2 := flat_bound m (ts := ts) fun u hu => h u (List.mem_cons_of_mem _ hu)
    rw [List.flatten_cons, List.length_append, List.length_cons, Nat.add_mul]
    omega
/-- what Write answers where there is power -/
theorem writeA_up {p : Pw} {room : Nat} {A : List AFile} {s : ByteArray} {bs : List Int} (hp : p.spent.down = false) (hN : (A.map Prod.fst).Nodup) :
    ((writeA p room A s bs).1 = 0 ∧ sumA (writeA p room A s bs).2 = sumA A + bs.length) ∨ ((writeA p room A s bs).1 = 4 ∧ (writeA p room A s bs).2 = A) ∨
    ((writeA p room A s bs).1 = 8 ∧ (writeA p room A s bs).2 = A ∧ (room < sumA A + bs.length ∨ 16 ≤ A.length)) := by
  unfold writeA
  rw [if_neg (by rw [hp]; simp)]
  by_cases h2 : ¬ IsName s
  · rw [if_pos h2]
    exact .inr (.inl ⟨rfl, rfl⟩)
  rw [if_neg h2]
  cases hf : findA A s.data.toList with
  | none =>
    by_cases h3 : 16 ≤ A.length ∨ room < sumA A + bs.length
    · simp only [if_pos h3]
      exact .inr (.inr ⟨by simp, by simp, h3.symm⟩)
    · simp only [if_neg h3]
      refine .inl ⟨by simp, ?_⟩
      simp only [sumA, List.map_cons, List.sum_cons]
      omega
  | some a =>
    obtain ⟨ha, hx⟩ := findA_some hf
    by_cases h3 : room < sumA A + bs.length
    · simp only [if_pos h3]
      exact .inr (.inr ⟨by simp, by simp, .inl h3⟩)
    · simp only [if_neg h3]
      refine .inl ⟨by simp, ?_⟩
      have := setA_sum (bs := a.2.1 ++ bs) (f := a.2.2) hN ha rfl
      rw [List.length_append] at this
      omega

set_option maxRecDepth 100000 in
set_option maxHeartbeats 2000000 in
theorem law_room (r : Nat) (A : Option Addr) (c : Nat) (os : List Opn) (w : World) (hr : r < 65536) (hO : OpsIn w A os) (hl : os.length ≤ 9223372036854775807) (hok : ∀ o ∈ os, OpOk o) :
    Calls Try.prog 7 #[.int .u16 (r : Int), .slice A os.length c] w fun e w' => e = .returned (.bool true) ∧ Below w.heap.size w w' := by
  obtain ⟨n, hn⟩ : ∃ n : Nat, n = r % 800 := ⟨_, rfl⟩
  have e1 : (r : Int).tmod 800 = (n : Int) := by rw [Int.tmod_eq_emod_of_nonneg (by omega)]; omega
  have e2 : (r : Int) % 800 = (n : Int) := by omega
  have hn8 : n < 800 := by omega
  have HO := Lib.hid hO
  have HOK := Lib.hid hok
  clear hO hok hn
  go_enter Try.func7, Try.ntmps7
  go_wp2_with fail
  refine (awake_any w).mono ?_
  rintro e w1 ⟨rfl, hb1⟩
  have HB1 := Lib.hid hb1
  clear hb1
  go_wp2_with fail
  refine (new_lv w w1 n HB1.out (by omega)).mono ?_
  rintro e w2 ⟨rfl, h2, _⟩
  obtain ⟨b, hb⟩ : ∃ b, b = w1.heap.size + 1 := ⟨_, rfl⟩
  obtain ⟨mb, hmb⟩ : ∃ mb, mb = w1.heap.size := ⟨_, rfl⟩
  have H2 : Hid (Lv w w2 b mb Pw.fresh n []) := by rw [hb, hmb]; exact h2
  rw [← hb]
  clear h2 hb hmb
  go_wp2_with fail
  go_loopw [8, 9, 10, 11, 12, 14, 27] (fun _ _ _ _ _ _ i wr => ∃ k : Nat, k ≤ os.length ∧ i = .int .i64 k ∧ ∃ E, Lv w wr b mb Pw.fresh n E) (fun _ _ _ _ _ _ i _ => os.length - (intOf i).toNat)
  case atStart => exact ⟨0, Nat.zero_le _, rfl, [], H2.out⟩
  case round =>
    obtain ⟨k, hk, rfl, E, hL⟩ := hrel
    by_cases hlt : k < os.length
    · have i1 : (k : Int) < (os.length : Int) := by omega
      obtain ⟨ad, rfl, hadl, A1, c1, A2, c2, A3, c3, hat, k0, k1, k2, k3, k4, k5, k6⟩ := (HO.out.below hL.bel) k hlt
      have hok := HOK.out _ (List.getElem_mem hlt)
      generalize os[k] = o at *
      have HL := Lib.hid hL
      have HAT := Lib.hid hat
      have HOKo := Lib.hid hok
      clear hL hat hok
      by_cases h60 : (60 : Int) ≤ (k : Int)
      · go_wp2_with fail
        go_ret
        have hbe := HL.out.bel
        exact ⟨rfl, hbe.alloc hbe.size _⟩
      · go_wp2_with fail
        obtain ⟨wa, hwa⟩ : ∃ x, x = wr.alloc (.cells #[.int .u8 o.d, .string o.nm, .string o.to, .slice A1 o.ns.length c1, .slice A2 o.ps.length c2, .int .i64 o.n, .slice A3 o.ks.length c3] 34) := ⟨_, rfl⟩
        rw [← hwa]
        have hLa : Lv w wa b mb Pw.fresh n E := by rw [hwa]; exact HL.out.alloc _
        have hTa : wa.heap[wr.heap.size]? = some (.cells [.int .u8 o.d, .string o.nm, .string o.to, .slice A1 o.ns.length c1, .slice A2 o.ps.length c2, .int .i64 o.n, .slice A3 o.ks.length c3].toArray 34 (0, 0)) := by rw [hwa]; exact new_at rfl
        have hata : OpAt (fun g => g < wr.heap.size) wa o A1 c1 A2 c2 A3 c3 := by rw [hwa]; exact HAT.out.below ((Below.refl _ _).alloc (Nat.le_refl _) _)
        have hsa : wa.heap.size = wr.heap.size + 1 := by rw [hwa]; simp
        obtain ⟨q, hq⟩ : ∃ q, q = wr.heap.size := ⟨_, rfl⟩
        have hoq : ¬ Of b mb E q := by rw [hq]; exact HL.out.notOf (Nat.le_refl _)
        rw [← hq] at hTa hsa hata ⊢
        have HLa := Lib.hid hLa
        have HTa := Lib.hid hTa
        have HOQ := Lib.hid hoq
        have HQ := Lib.hid hq
        have HFW := Lib.hid (few_any _ o A1 A2 A3 c1 c2 c3 wa hata HOKo.out)
        have HW : Hid (q = wr.heap.size ∧ wr.heap.size < wa.heap.size) := ⟨hq, by omega⟩
        clear hwa hLa hTa hata hoq hq k0 k1 k2 k3 k4 k5 k6
        refine (HFW.out).mono ?_
        rintro e w3 ⟨B1, e1', B2, e2', B3, e3', rfl, hat3, hfr3, hb3⟩
        obtain ⟨o', ho'⟩ : ∃ x, x = fewO o := ⟨_, rfl⟩
        rw [← ho'] at hat3 hfr3 ⊢
        have hb12 : o'.nm.size ≤ 12 ∧ o'.ps.length ≤ 4 ∧ (∀ t ∈ o'.ps, t.length ≤ 200) := by
          rw [ho']
          exact ⟨cutS_size _, fewPs_len _ _, fewPs_most _ _⟩
        have hs3 := hb3.size
        have hT3 : w3.heap[q]? = _ := (hb3.block q (by omega)).trans HTa.out
        have y0 := sv_cell hT3 0
        have y1 := sv_cell hT3 1
        have y2 := sv_cell hT3 2
        have y3 := sv_cell hT3 3
        have y4 := sv_cell hT3 4
        have y5 := sv_cell hT3 5
        have y6 := sv_cell hT3 6
        simp only [List.getElem?_cons_zero, List.getElem?_cons_succ] at y0 y1 y2 y3 y4 y5 y6
        have p0 := sv_free (k := 0) hT3
        have p1 := sv_free (k := 1) hT3
        have p2 := sv_free (k := 2) hT3
        have p3 := sv_free (k := 3) hT3
        have p4 := sv_free (k := 4) hT3
        have p5 := sv_free (k := 5) hT3
        have p6 := sv_free (k := 6) hT3
        have HT3 := Lib.hid hT3
        have HAT3 := Lib.hid hat3
        have HB3 := Lib.hid hb3
        have H12 := Lib.hid hb12
        have HD8 : Hid (0 ≤ o'.d ∧ o'.d < 256) := by rw [ho']; exact HOKo.out.d
        unfold opV
        clear hT3 hat3 hfr3 hb3 hb12 ho'
        go_wp2_with fail
        obtain ⟨w4, hw4⟩ : ∃ x, x = ((((((w3.setCell ⟨q, 0, none⟩ (.int .u8 o'.d)).setCell ⟨q, 1, none⟩ (.string o'.nm)).setCell ⟨q, 2, none⟩ (.string o'.to)).setCell ⟨q, 3, none⟩ (.slice B1 o'.ns.length e1')).setCell ⟨q, 4, none⟩ (.slice B2 o'.ps.length e2')).setCell ⟨q, 5, none⟩ (.int .i64 o'.n)).setCell ⟨q, 6, none⟩ (.slice B3 o'.ks.length e3') := ⟨_, rfl⟩
        rw [← hw4]
        have hF4 := (FewS.mk' HLa.out (by have := HW.out.1; have := HL.out.bel.size; omega) (by omega) HOQ.out HB3.out HT3.out HAT3.out hw4).1
        have HF4 := Lib.hid hF4
        clear hw4 hF4 y0 y1 y2 y3 y4 y5 y6 p0 p1 p2 p3 p4 p5 p6 HT3 HAT3 HB3 HTa HFW HLa HOQ hs3
        refine (used_lv w w4 b mb Pw.fresh n E HF4.out.lv).mono ?_
        rintro e w5 ⟨rfl, hb5⟩
        have hF5 := HF4.out.below hb5
        have HF5 := Lib.hid hF5
        obtain ⟨z0, z1, z2, z3, z4, z5, z6⟩ := hF5.cells
        clear hb5 hF5 HF4
        go_wp2_with fail
        refine (write_lv w w5 b mb Pw.fresh n E o'.nm B2 e2' o'.ps HF5.out.lv (by have := H12.out.1; unfold maxLen; omega) HF5.out.at'.ps (by have := H12.out.2.1; omega) (fun t ht => by have := H12.out.2.2 t ht; omega)).mono ?_
        rintro e w6 ⟨rfl, hL6⟩
        obtain ⟨E', hA', hF6, hC6⟩ := HF5.out.change hL6
        have HF6 := Lib.hid hF6
        have HWU := Lib.hid (writeA_up (p := Pw.fresh) (room := n) (s := o'.nm) (bs := o'.ps.flatten) fresh_down HF5.out.lv.nodup)
        rw [← hA'] at HWU
        have HFIT := Lib.hid hF6.lv.fits
        obtain ⟨x0, x1, x2, x3, x4, x5, x6⟩ := hF6.cells
        obtain ⟨er, her⟩ : ∃ x, x = (writeA Pw.fresh n (abs E) o'.nm o'.ps.flatten).1 := ⟨_, rfl⟩
        rw [← her] at HWU ⊢
        obtain ⟨was, hwas⟩ : ∃ x, x = sumA (abs E) := ⟨_, rfl⟩
        rw [← hwas] at HWU ⊢
        obtain ⟨now, hnow⟩ : ∃ x, x = sumA (abs E') := ⟨_, rfl⟩
        rw [← hnow] at HWU HFIT
        have HNOW := Lib.hid hnow
        have HWAS := Lib.hid hwas
        clear her hL6 hA' hF6 hC6 z0 z1 z2 z3 z4 z5 z6 HF5 hnow hwas
        go_wp2_with fail
        have HPS := Lib.hid HF6.out.at'.ps
        have hfl : o'.ps.flatten.length ≤ 800 := by
          have h1 := flat_bound 200 H12.out.2.2
          have h2 := H12.out.2.1
          omega
        obtain ⟨tot, htot⟩ : ∃ x, x = o'.ps.flatten.length := ⟨_, rfl⟩
        rw [← htot] at HWU hfl
        have HTOT := Lib.hid htot
        obtain ⟨dd, hdd⟩ : ∃ x, x = o'.d := ⟨_, rfl⟩
        obtain ⟨nm, hnm⟩ : ∃ x, x = o'.nm := ⟨_, rfl⟩
        rw [← hdd] at x0
        rw [← hnm] at x1
        have HNM := Lib.hid hnm
        have hd8 : 0 ≤ dd ∧ dd < 256 := by rw [hdd]; exact HD8.out
        clear htot hdd hnm
        go_loopw [12, 14, 47] (fun sz _ i wx => ∃ j : Nat, j ≤ o'.ps.length ∧ i = .int .i64 j ∧ sz = .int .i64 ((o'.ps.take j).flatten.length : Nat) ∧ wx = w6) (fun _ _ i _ => o'.ps.length - (intOf i).toNat)
        case atStart => exact ⟨0, Nat.zero_le _, rfl, by simp, rfl⟩
        case round =>
          obtain ⟨j, hj, rfl, rfl, rfl⟩ := hrel
          by_cases hjl : j < o'.ps.length
          · have j1 : (j : Int) < (o'.ps.length : Int) := by omega
            obtain ⟨ad', X, cx, rfl, _, _, hcell, hcx, _⟩ := HPS.out j hjl
            have hft := flat_take hjl
            have hfle := flat_le (ts := o'.ps) (j + 1)
            rw [hft, List.length_append] at hfle
            have hfle2 := HTOT.out
            have HFT : Hid ((o'.ps.take (j + 1)).flatten.length = (o'.ps.take j).flatten.length + o'.ps[j].length) := by
              show _ = _
              rw [hft, List.length_append]
            have hp4 := H12.out.2.1
            generalize o'.ps[j] = t0 at *
            generalize (o'.ps.take j).flatten.length = s0 at *
            have ia : (s0 : Int) + (t0.length : Int) ≤ 800 := by omega
            clear hft hfle hfle2
            go_wp2_with fail
            go_roundw
            case rel => exact ⟨j + 1, by omega, by go_num, by rw [HFT.out]; go_num, trivial⟩
            case measure => simp [intOf]; omega
          · have j1 : ¬ (j : Int) < (o'.ps.length : Int) := by omega
            obtain rfl : j = o'.ps.length := by omega
            rw [List.take_length, ← HTOT.out]
            have HU : Hid (∀ W, Below wr.heap.size wr W → Calls Try.prog 25 #[.pointer (some ⟨b, 0, none⟩)] W fun e w' => e = .returned (.int .i64 (now : Int)) ∧ Below wr.heap.size wr w') := fun W hW => by
              refine (used_lv w W b mb Pw.fresh n E' (HF6.out.lv.below hW)).mono ?_
              rintro e w' ⟨rfl, hb'⟩
              exact ⟨by rw [HNOW.out], hW.trans (hb'.mono hW.size)⟩
            have HN : Hid (∀ W, Below wr.heap.size wr W → Calls Try.prog 15 #[.pointer (some ⟨b, 0, none⟩)] W fun e w' => (∃ X c, e = .returned (.slice X (abs E').length c)) ∧ Below wr.heap.size wr w') := fun W hW => by
              refine (names_lv w W b mb Pw.fresh n E' (HF6.out.lv.below hW)).mono ?_
              rintro e w' ⟨X, cx, rfl, _, _, hb'⟩
              exact ⟨⟨X, cx, by rw [namesA_len]⟩, hW.trans (hb'.mono hW.size)⟩
            have hbz : Below wr.heap.size wr wr := Below.refl _ _
            obtain ⟨hf1, _, hf3⟩ := HFIT.out
            obtain ⟨nn, hnn⟩ : ∃ x, x = (abs E').length := ⟨_, rfl⟩
            rw [← hnn] at HN hf3
            have HNN := Lib.hid hnn
            clear hnn
            have g1 : ¬ (n : Int) < (now : Int) := by omega
            have g2 : ¬ (16 : Int) < (nn : Int) := by omega
            have hd4 : (er = 0 ∧ (was : Int) + (tot : Int) = (now : Int)) ∨ (er = 4 ∧ (now : Int) = (was : Int)) ∨ (er = 8 ∧ (now : Int) = (was : Int) ∧ (was : Int) + (tot : Int) ≤ (n : Int) ∧ ¬ (nn : Int) < 16) ∨ (er = 8 ∧ (now : Int) = (was : Int) ∧ ¬ (was : Int) + (tot : Int) ≤ (n : Int)) := by
              rcases HWU.out with ⟨h1, h2⟩ | ⟨h1, h2⟩ | ⟨h1, h2, h3⟩
              · exact .inl ⟨h1, by omega⟩
              · have h4 : now = was := by rw [HNOW.out, HWAS.out, h2]
                exact .inr (.inl ⟨h1, by omega⟩)
              · have h4 : now = was := by rw [HNOW.out, HWAS.out, h2]
                have h5 : nn = (abs E).length := by rw [HNN.out, h2]
                by_cases h6 : (was : Int) + (tot : Int) ≤ (n : Int)
                · exact .inr (.inr (.inl ⟨h1, by omega, h6, by omega⟩))
                · exact .inr (.inr (.inr ⟨h1, by omega, h6⟩))
            have hwb : was ≤ 1048576 := by have h1 := HL.out.fits; have h2 := HWAS.out; omega
            have HCQ : Hid (∀ W, Below wr.heap.size wr W → W.cell? ⟨q, 0, none⟩ = some (.int .u8 dd) ∧ W.cell? ⟨q, 1, none⟩ = some (.string nm)) := fun W hW => ⟨(hW.cell (lt_of_cell x0)).trans x0, (hW.cell (lt_of_cell x1)).trans x1⟩
            obtain ⟨dm, hdm⟩ : ∃ x, x = dd % 4 := ⟨_, rfl⟩
            have d1 : dd.tmod 4 = dm := by rw [Int.tmod_eq_emod_of_nonneg (by omega), hdm]
            have d2 : dd % 4 = dm := hdm.symm
            have d3 : 0 ≤ dm ∧ dm < 4 := by omega
            have HB0 := Lib.hid hbz
            clear hbz x0 x1 x2 x3 x4 x5 x6 HWU hdm
            by_cases h0 : dm = 0
            all_goals rcases hd4 with ⟨rfl, g3⟩ | ⟨rfl, g3⟩ | ⟨rfl, g3, g4, g5⟩ | ⟨rfl, g3, g4⟩
            all_goals (
              go_wp2_with fail
              refine (HU.out _ HB0.out).mono ?_
              rintro e wx1 ⟨rfl, hbx1⟩
              have HX1 := Lib.hid hbx1
              clear hbx1
              go_wp2_with fail
              refine (HN.out _ HX1.out).mono ?_
              rintro e wx2 ⟨⟨X2, cx2, rfl⟩, hbx2⟩
              have HX2 := Lib.hid hbx2
              clear hbx2
              go_wp2_with fail
              refine (HU.out _ HX2.out).mono ?_
              rintro e wx3 ⟨rfl, hbx3⟩
              have HX3 := Lib.hid hbx3
              obtain ⟨y0, y1⟩ := HCQ.out _ hbx3
              clear hbx3
              go_wp2_with fail)
            all_goals (try (
              refine (HN.out _ HX3.out).mono ?_
              rintro e wx3 ⟨⟨X4, cx4, rfl⟩, hbx3⟩
              have HX3 := Lib.hid hbx3
              obtain ⟨y0, y1⟩ := HCQ.out _ hbx3
              clear hbx3
              go_wp2_with fail))
            · refine (dropAll_lv w (wx3.alloc (.cells #[.string nm] 9)) b mb Pw.fresh n E' (some ⟨wx3.heap.size, 0, none⟩) 1 [nm] ((HF6.out.lv.below HX3.out).alloc _) (Row.of_cells (new_at rfl) rfl ((HF6.out.lv.below HX3.out).notOf (Nat.le_refl _))) (by simp) (fun s hs => by rw [List.mem_singleton.1 hs, HNM.out]; have := H12.out.1; unfold maxLen; omega)).mono ?_
              rintro e w8 ⟨rfl, E8, hL8, _, _⟩
              have H8 := Lib.hid hL8
              clear hL8
              go_wp2_with fail
              go_roundw
              case rel => exact ⟨k + 1, by omega, by go_num, E8, H8.out⟩
              case measure => simp [intOf]; omega
            · refine (dropAll_lv w (wx3.alloc (.cells #[.string nm] 9)) b mb Pw.fresh n E' (some ⟨wx3.heap.size, 0, none⟩) 1 [nm] ((HF6.out.lv.below HX3.out).alloc _) (Row.of_cells (new_at rfl) rfl ((HF6.out.lv.below HX3.out).notOf (Nat.le_refl _))) (by simp) (fun s hs => by rw [List.mem_singleton.1 hs, HNM.out]; have := H12.out.1; unfold maxLen; omega)).mono ?_
              rintro e w8 ⟨rfl, E8, hL8, _, _⟩
              have H8 := Lib.hid hL8
              clear hL8
              go_wp2_with fail
              go_roundw
              case rel => exact ⟨k + 1, by omega, by go_num, E8, H8.out⟩
              case measure => simp [intOf]; omega
            · refine (dropAll_lv w (wx3.alloc (.cells #[.string nm] 9)) b mb Pw.fresh n E' (some ⟨wx3.heap.size, 0, none⟩) 1 [nm] ((HF6.out.lv.below HX3.out).alloc _) (Row.of_cells (new_at rfl) rfl ((HF6.out.lv.below HX3.out).notOf (Nat.le_refl _))) (by simp) (fun s hs => by rw [List.mem_singleton.1 hs, HNM.out]; have := H12.out.1; unfold maxLen; omega)).mono ?_
              rintro e w8 ⟨rfl, E8, hL8, _, _⟩
              have H8 := Lib.hid hL8
              clear hL8
              go_wp2_with fail
              go_roundw
              case rel => exact ⟨k + 1, by omega, by go_num, E8, H8.out⟩
              case measure => simp [intOf]; omega
            · refine (dropAll_lv w (wx3.alloc (.cells #[.string nm] 9)) b mb Pw.fresh n E' (some ⟨wx3.heap.size, 0, none⟩) 1 [nm] ((HF6.out.lv.below HX3.out).alloc _) (Row.of_cells (new_at rfl) rfl ((HF6.out.lv.below HX3.out).notOf (Nat.le_refl _))) (by simp) (fun s hs => by rw [List.mem_singleton.1 hs, HNM.out]; have := H12.out.1; unfold maxLen; omega)).mono ?_
              rintro e w8 ⟨rfl, E8, hL8, _, _⟩
              have H8 := Lib.hid hL8
              clear hL8
              go_wp2_with fail
              go_roundw
              case rel => exact ⟨k + 1, by omega, by go_num, E8, H8.out⟩
              case measure => simp [intOf]; omega
            · go_roundw
              case rel => exact ⟨k + 1, by omega, by go_num, E', HF6.out.lv.below HX3.out⟩
              case measure => simp [intOf]; omega
            · go_roundw
              case rel => exact ⟨k + 1, by omega, by go_num, E', HF6.out.lv.below HX3.out⟩
              case measure => simp [intOf]; omega
            · go_roundw
              case rel => exact ⟨k + 1, by omega, by go_num, E', HF6.out.lv.below HX3.out⟩
              case measure => simp [intOf]; omega
            · go_roundw
              case rel => exact ⟨k + 1, by omega, by go_num, E', HF6.out.lv.below HX3.out⟩
              case measure => simp [intOf]; omega
    · have i1 : ¬ (k : Int) < (os.length : Int) := by omega
      have HL := Lib.hid hL
      clear hL
      go_wp2_with fail
      go_ret
      exact ⟨rfl, HL.out.bel⟩

end Go.Proofs.Ytchedflfinkppaa
