/-
  What BestPlays does where there is a List: it returns true, and turns nothing that was there.
-/
import Derived.Test.YtfhnhfppamnjhaaPlays1
import Derived.Test.YtfhnhfppamnjhaaLists
namespace Go.Proofs.Ytfhnhfppamnjhaa
open Go.RowKit Go.Maps

theorem cut_idem {x : List Hit} : ((((x.take 12).map cutHit).take 12).map cutHit) = (x.take 12).map cutHit := by
  rw [List.take_of_length_le (by rw [List.length_map, List.length_take]; omega), List.map_map]
  refine List.map_congr_left fun h _ => ?_
  show cutHit (cutHit h) = cutHit h
  unfold cutHit
  simp [List.take_take]
theorem LstK.of_empty {K : Nat → Prop} {w : World} {B b mb n : Nat} {v : Value} {most : Nat} (h : Lst w B b mb n v most []) (hu : ∀ g, w.heap.size ≤ g → K g) (hl : ∀ g, K g → B ≤ g) : LstK K w B b mb n v most [] := by
  obtain ⟨cs, h1, h2⟩ := h.row
  exact ⟨h.blk, ⟨cs, h1, ⟨h2.1, fun j x e => by simp at e⟩⟩, h.map, h.lob, h.lom, hu, hl⟩
theorem Chg.hits' {w w' : World} {b mb : Nat} {v v' : Value} {A : Option Addr} {xs : List Hit} {S : Nat → Prop} (hC : Chg w w' b mb v v') (h : HitsAt S w A xs) (hS : ∀ g, g < w.heap.size → S g → g ≠ b ∧ g ≠ mb ∧ some g ≠ v.ownBlock) : HitsAt S w' A xs := (hC.hits h hS).mono fun g _ s => s.2
theorem PJ.below {B b mb bx most lo hi N : Nat} {w w' : World} {v : Value} {A : Option Addr} {c : Nat} {L T : List Hit} (h : PJ B b mb bx most lo hi w N v A c L T) (hb : Below w.heap.size w w') : PJ B b mb bx most lo hi w' N v A c L T := ⟨h.lst.below hb, h.rl.below hb, h.offv, h.offr, h.lts⟩
theorem bool_len {n : Nat} : ∀ {b : Bool}, n + b.toNat = if b then n + 1 else n
  | true => rfl
  | false => rfl

set_option maxHeartbeats 400000 in
theorem sameHits_q0 (A B : Option Addr) (c d : Nat) (w : World) : Calls Try.prog 14 #[.slice A 0 c, .slice B 0 d] w fun e w' => e = .returned (.bool true) ∧ w = w' := by
  go_enter Try.func14, Try.ntmps14
  go_wp2_with fail
  go_loopw [5, 13] (fun _ i wr => i = .int .i64 0 ∧ wr = w) (fun _ _ _ => 0)
  case atStart => exact ⟨rfl, rfl⟩
  case round =>
    obtain ⟨rfl, rfl⟩ := hrel
    go_wp2_with fail
    go_ret
    exact ⟨rfl, rfl⟩
set_option maxRecDepth 100000 in
set_option maxHeartbeats 400000 in
theorem full_q (B b mb n most : Nat) (v : Value) (hs : List Hit) (w : World) (L : Lst w B b mb n v most hs) (hm : most ≤ 1000) (hn : hs.length ≤ 1000) :
    Calls Try.prog 19 #[.pointer (some ⟨b, 0, none⟩)] w fun e w' => e = .returned (.bool (decide (most ≤ hs.length))) ∧ ∃ m, w' = w.drewN m := by
  obtain ⟨c0, c1, c2⟩ := L.cells
  obtain ⟨A, ca, rfl, _, _⟩ := L.hits
  clear L
  go_enter Try.func19, Try.ntmps19
  go_wp2_with fail
  go_quiet (fail)
  go_wp2_with fail
  go_ret
  exact ⟨rfl, _, rfl⟩
theorem add_zero_addr (a : Addr) : a.add 0 = a := by
  unfold Addr.add
  split <;> simp_all

set_option maxRecDepth 100000 in
set_option maxHeartbeats 4000000 in
theorem law_plays (S : Nat → Prop) (most : Nat) (A : Option Addr) (c : Nat) (ps : List (List Hit)) (w : World) (hm1 : 1 ≤ most) (hm2 : most ≤ 256) (h : ListsAt S w A ps) (hl : ps.length ≤ 9223372036854775807) (hok : ∀ l ∈ ps, OkHits l) :
    Calls Try.prog 3 #[.int .i64 (most : Int), .slice A ps.length c] w fun e w' => e = .returned (.bool true) ∧ Below w.heap.size w w' := by
  have HAW := Lib.hid (awake_any w)
  have HNEW : Hid (∀ W, Calls Try.prog 10 #[.int .i64 (most : Int)] W fun e w' => e = .returned (.tuple #[.pointer (some ⟨W.heap.size + 1, 0, none⟩), .int .i64 0]) ∧ Lst w' W.heap.size (W.heap.size + 1) W.heap.size 0 (.slice none 0 0) most [] ∧ Below W.heap.size W w') := fun W => new_any most W hm1 hm2
  have HAT := Lib.hid h
  have HOK := Lib.hid hok
  have i1 : (1 : Int) ≤ (most : Int) := by omega
  have i2 : (most : Int) ≤ 256 := by omega
  clear h hok
  go_enter Try.func3, Try.ntmps3
  go_wp2_with fail
  refine (HAW.out).mono ?_
  rintro e w1 ⟨rfl, hb1⟩
  go_wp2_with fail
  refine (HNEW.out w1).mono ?_
  rintro e w2 ⟨rfl, L2, hb2⟩
  obtain ⟨B, hB⟩ : ∃ x, x = w1.heap.size := ⟨_, rfl⟩
  obtain ⟨bx, hbx⟩ : ∃ x, x = w2.heap.size := ⟨_, rfl⟩
  obtain ⟨w3, hw3⟩ : ∃ x, x = w2.alloc (.cells #[.int .i64 most, .slice none 0 0] 31) := ⟨_, rfl⟩
  have hb3' : Below w2.heap.size w2 w3 := by rw [hw3]; exact (Below.refl _ _).alloc (Nat.le_refl _) _
  have hl2 := L2.lt
  rw [← hB] at L2 hl2
  have hbxl : B + 1 < bx := by rw [hbx]; exact hl2.1
  have HMI0 : Hid (PI B (B + 1) B bx most w3 0 (.slice none 0 0) none 0 [] []) := by
    have hblk : w3.heap[bx]? = some (.cells #[.int .i64 most, .slice none 0 0] 31 (0, 0)) := by rw [hw3, hbx]; exact heap_alloc_new w2 _
    have hs3 : bx < w3.heap.size := lt_of_block hblk
    refine ⟨LstK.of_empty (L2.below hb3') (fun g hg => ⟨by omega, by omega⟩) (fun g s => s.1), ⟨hblk, ⟨[], ⟨rfl, .inl ⟨rfl, rfl⟩⟩, Cells3.nil⟩, fun g e => by simp [Value.ownBlock] at e, fun g s => s.2.2.1⟩, List.Perm.refl _, Good.start _, by simp [Value.ownBlock]⟩
  have hb03 : Below w.heap.size w w3 := (hb1.trans (hb2.mono hb1.size)).trans (hb3'.mono (by have := hb1.size; have := hb2.size; omega))
  have HB3 := Lib.hid hb03
  have hBw : w.heap.size ≤ B := by rw [hB]; exact hb1.size
  have HHB := Lib.hid hB
  have HHX := Lib.hid hbx
  have HW3 := Lib.hid hw3
  clear L2 hb1 hb2 hb3' hb03 HAW HNEW hl2 hB hbx hw3
  go_wp2_with fail
  rw [← HW3.out, ← HHX.out, ← HHB.out]
  clear HW3
  go_loopw [60] (fun i wr => ∃ (k : Nat) (v : Value) (Ax : Option Addr) (cx : Nat) (L T : List Hit), k ≤ ps.length ∧ k ≤ 20 ∧ i = .int .i64 k ∧ PI B (B + 1) B bx most wr (12 * k) v Ax cx L T ∧ Below w.heap.size w wr) (fun i _ => ps.length - (intOf i).toNat)
  case atStart => exact ⟨0, .slice none 0 0, none, 0, [], [], Nat.zero_le _, Nat.zero_le _, rfl, HMI0.out, HB3.out⟩
  case round =>
    obtain ⟨k, v, Ax, cx, L, T, hk, hk20, rfl, hPI, hBr⟩ := hrel
    rcases Nat.lt_or_ge k ps.length with c9 | c9
    · by_cases hk2 : k < 20
      · have j1 : (k : Int) < (ps.length : Int) := by omega
        have j2 : ¬ (20 : Int) ≤ (k : Int) := by omega
        obtain ⟨ad, X, cp, rfl, _, _, g0, hatp⟩ := (HAT.out.below hBr) k c9
        obtain ⟨o1, o2, o3⟩ := HOK.out _ (List.getElem_mem c9)
        have HCUT := Lib.hid (cutHits_any _ X cp 12 ps[k] wr hatp o1 o2 (by decide))
        have HWF := Lib.hid (cut_wf o3 12)
        have HLL := Lib.hid (cut_len ps[k] 12)
        have HV8 : Hid (∀ x ∈ (ps[k].take 12).map cutHit, x.2.2.length ≤ 8) := fun x hx => by
          obtain ⟨y, _, rfl⟩ := List.mem_map.1 hx
          simp [cutHit]
          omega
        have HID := Lib.hid (cut_idem (x := ps[k]))
        have HPI := Lib.hid hPI
        have HBR := Lib.hid hBr
        clear hPI hBr hatp o1 o2 o3
        generalize (ps[k].take 12).map cutHit = qs at *
        generalize ps[k].length = pl at *
        go_wp2_with fail
        refine (HCUT.out).mono ?_
        rintro e w5 ⟨vp, rfl, Op, hb5⟩
        obtain ⟨Ap, cq, rfl, hcq, hatp⟩ := Op.hits
        have hll := HLL.out
        have HATP : Hid (HitsAt (fun g => wr.heap.size ≤ g ∧ g < w5.heap.size) w5 Ap qs) := hatp.mono fun g hg s => ⟨s, hg⟩
        have hcm := cutHitsF_any _ Ap cq 12 qs w5 hatp (by omega) (fun o ho => by have := (HWF.out o ho).2.2; omega) (by decide)
        rw [HID.out] at hcm
        have HCM := Lib.hid hcm
        have HB5 := Lib.hid hb5
        clear Op hb5 HCUT hatp hcm
        go_wp2_with fail
        refine (HCM.out).mono ?_
        rintro e w6 ⟨vm, rfl, Om, hb6⟩
        obtain ⟨Am, cm, rfl, hcm, hatm⟩ := Om.hits
        have hz5 := HB5.out.size
        have hz6 := hb6.size
        have HPJ : Hid (PJ B (B + 1) B bx most w5.heap.size w6.heap.size w6 (12 * k) v Ax cx L T) := HPI.out.enter HB5.out hb6 ⟨by omega, by omega⟩
        have HFL := Lib.hid Om.flip
        have HATM : Hid (HitsAt (fun g => w5.heap.size ≤ g ∧ g < w6.heap.size) w6 Am qs) := hatm.mono fun g hg s => ⟨s, hg⟩
        have HATP6 : Hid (HitsAt (fun g => wr.heap.size ≤ g ∧ g < w5.heap.size) w6 Ap qs) := HATP.out.below hb6
        have hbxw : bx < wr.heap.size := lt_of_block HPI.out.rl.blk
        have HB06 : Hid (Below w.heap.size w w6) := (HBR.out.trans (HB5.out.mono HBR.out.size)).trans (hb6.mono (by have := HBR.out.size; omega))
        have HPP : Hid (L.Perm T ∧ Good most T) := ⟨HPI.out.perm, HPI.out.good⟩
        have HROW0 : Hid (∀ g, v.ownBlock = some g → g < wr.heap.size) := fun g e => (HPI.out.lst.rowlt e).2
        have HV1K : Hid (∀ x ∈ qs, x.2.2.length ≤ 1000) := fun x hx => by have := HV8.out x hx; omega
        obtain ⟨w0, hw0⟩ : ∃ x, x = wr := ⟨_, rfl⟩
        subst hw0
        clear Om hatm hb6 HCM HATP HPI HB5 HBR HID
        go_wp2_with fail
        go_loopw [11, 73] (fun n i wr => ∃ (j : Nat) (Ay : Option Addr) (cy : Nat) (L' : List Hit), j ≤ qs.length ∧ i = .int .i64 j ∧ n = .int .i64 ((putAll most T (qs.take j)).2 : Nat) ∧ PJ B (B + 1) B bx most w5.heap.size w6.heap.size wr (12 * k) v Ay cy L' T ∧ L'.Perm (putAll most T (qs.take j)).1 ∧ Only bx w6 wr) (fun _ i _ => qs.length - (intOf i).toNat)
        case atStart => exact ⟨0, Ax, cx, L, Nat.zero_le _, rfl, by simp [putAll], HPJ.out, by simpa [putAll] using HPP.out.1, Only.of_below (Below.refl _ _)⟩
        case round =>
          obtain ⟨j, Ay, cy, L', hj, rfl, rfl, hPJ, hPm, hOn⟩ := hrel
          by_cases hjl : j < qs.length
          · have q1 : (j : Int) < (qs.length : Int) := by omega
            have hzn := hOn.size
            obtain ⟨bd, rfl, hbd, hbdl, b0, b1, Y, dy, b2, hdy, hrow⟩ := (HATP6.out.kept (w' := wr) hzn (fun g hg s => hOn.block g hg (by omega))) j hjl
            have hcnt : (putAll most T (qs.take j)).2 ≤ j := by
              have h1 : ∀ (ys zs : List Hit), (putAll most zs ys).2 ≤ ys.length := fun ys => by
                induction ys with
                | nil => intro zs; exact Nat.le_refl _
                | cons y ys ih =>
                  intro zs
                  cases hb : base most zs y with
                  | none => simp only [putAll, hb]; have := ih zs; simp; omega
                  | some l => simp only [putAll, hb]; have := ih (ins l y); simp; omega
              have := h1 (qs.take j) T
              rw [List.length_take] at this
              omega
            have hgj : Good most (putAll most T (qs.take j)).1 := HPP.out.2.all hm1 fun x hx => HWF.out x (List.mem_of_mem_take hx)
            have hLl : L'.length ≤ 999999 := by have h1 := hPm.length_eq; have h2 := hgj.len; omega
            have hvl : qs[j].2.2.length ≤ 8 := HV8.out _ (List.getElem_mem hjl)
            obtain ⟨wb, hwb⟩ : ∃ x, x = wr.alloc (.cells #[.int .u64 qs[j].1, .int .u64 qs[j].2.1, .slice Y qs[j].2.2.length dy] 36) := ⟨_, rfl⟩
            have hbb : Below wr.heap.size wr wb := by rw [hwb]; exact (Below.refl _ _).alloc (Nat.le_refl _) _
            have hPJb := hPJ.below hbb
            have hadd := refAdd_any _ _ B bx most Ay cy L' _ qs[j] Y dy wb hPJb.rl (by have := hPJb.lst.lt.2.2; exact this) hPm hgj hm1 (by omega) hLl (hrow.below hbb) hdy (by omega)
            have HADD : Hid (Calls Try.prog 12 #[.pointer (some ⟨bx, 0, none⟩), .agg #[.int .u64 qs[j].1, .int .u64 qs[j].2.1, .slice Y qs[j].2.2.length dy]] wb fun e w' => e = .returned (.bool (base most (putAll most T (qs.take j)).1 qs[j]).isSome) ∧ ∃ (Az : Option Addr) (cz : Nat) (L'' : List Hit), PJ B (B + 1) B bx most w5.heap.size w6.heap.size w' (12 * k) v Az cz L'' T ∧ L''.Perm (putAll most T (qs.take (j + 1))).1 ∧ Only bx w6 w') := hadd.mono (by
              rintro e w7 ⟨rfl, ⟨Az, cz, L'', r1, r2⟩, r3⟩
              refine ⟨rfl, Az, cz, L'', hPJb.radd r3 r1 (by have := hbb.size; omega), ?_, (hOn.then_below hbb).trans r3⟩
              rw [List.take_succ_eq_append_getElem hjl, putAll_snoc]
              exact r2)
            have HN := Lib.hid (show (putAll most T (qs.take (j + 1))).2 = (putAll most T (qs.take j)).2 + (base most (putAll most T (qs.take j)).1 qs[j]).isSome.toNat by rw [List.take_succ_eq_append_getElem hjl, putAll_snoc])
            have HWB := Lib.hid hwb
            clear hPJ hPm hOn hgj hLl hwb hbb hPJb hadd hrow hdy
            generalize (putAll most T (qs.take j)).2 = cnt at *
            generalize (base most (putAll most T (qs.take j)).1 qs[j]).isSome = bo at *
            generalize qs[j].1 = ki at *
            generalize qs[j].2.1 = kd at *
            generalize qs[j].2.2.length = kl at *
            go_wp2_with fail
            rw [← HWB.out]
            refine (HADD.out).mono ?_
            rintro e w7 ⟨rfl, Az, cz, L'', r1, r2, r3⟩
            cases bo with
            | true =>
              go_wp2_with fail
              go_roundw
              case rel => exact ⟨j + 1, Az, cz, L'', by omega, by go_num, by rw [HN.out]; go_num, r1, r2, r3⟩
              case measure => simp [intOf]; omega
            | false =>
              go_wp2_with fail
              go_roundw
              case rel => exact ⟨j + 1, Az, cz, L'', by omega, by go_num, by rw [HN.out]; go_num, r1, r2, r3⟩
              case measure => simp [intOf]; omega
          · obtain rfl : j = qs.length := by omega
            have q1 : ¬ ((qs.length : Int) < (qs.length : Int)) := by omega
            rw [List.take_of_length_le (Nat.le_refl _)] at hPm
            have HTK := Lib.hid (show qs.take qs.length = qs from List.take_of_length_le (Nat.le_refl _))
            rw [HTK.out]
            have hzn := hOn.size
            have hatm := HATM.out.kept (w' := wr) hzn (fun g hg s => hOn.block g hg (by omega))
            have hatp := HATP6.out.kept (w' := wr) hzn (fun g hg s => hOn.block g hg (by omega))
            have hfl := HFL.out.kept (w' := wr) (fun g h1 h2 => hOn.block g h2 (by omega))
            obtain ⟨lt1, lt2, lt3⟩ := hPJ.lts
            have hadd := addK_any _ B (B + 1) B (12 * k) most v T qs Am cm wr hPJ.lst HPP.out.2 hm1 (by omega) (by omega) hatm (fun g hg s => ⟨by omega, by omega, fun e => hPJ.offr g e.symm s⟩) HWF.out
            have HGT : Hid (Good most (putAll most T qs).1) := HPP.out.2.all hm1 HWF.out
            have HADD : Hid (Calls Try.prog 13 #[.pointer (some ⟨B + 1, 0, none⟩), .slice Am qs.length cm] wr fun e w' => e = .returned (.int .i64 ((putAll most T qs).2 : Nat)) ∧ ∃ v', PJ B (B + 1) B bx most w5.heap.size w6.heap.size w' (12 * (k + 1)) v' Ay cy L' (putAll most T qs).1 ∧ HitsAt (fun g => w5.heap.size ≤ g ∧ g < w6.heap.size) w' Am qs ∧ HitsAt (fun g => w0.heap.size ≤ g ∧ g < w5.heap.size) w' Ap qs ∧ Flip w5.heap.size w6.heap.size w' Am qs ∧ Below w.heap.size w w' ∧ w6.heap.size ≤ w'.heap.size) := hadd.mono (by
              rintro e w8 ⟨rfl, v8, L8, C8⟩
              have hrow : ∀ g, g < w5.heap.size → w0.heap.size ≤ g → some g ≠ v.ownBlock := fun g hg1 hg2 e => by
                have h1 := HROW0.out g e.symm
                omega
              refine ⟨rfl, v8, hPJ.ladd (L8.wider (by omega)) C8 (by omega), C8.hits' hatm (fun g hg s => ⟨by omega, by omega, fun e => hPJ.offr g e.symm s⟩), C8.hits' hatp (fun g hg s => ⟨by omega, by omega, hrow g s.2 s.1⟩), hfl.kept (fun g h1 h2 => C8.block g (by omega) (by omega) (by omega) (fun e => hPJ.offr g e.symm ⟨h1, h2⟩)), ?_, by have := C8.size; omega⟩
              have h6 := HB06.out
              have s6 := h6.size
              exact h6.trans ⟨C8.os.trans hOn.os, C8.tape.trans hOn.tape, C8.output.trans hOn.output, by have := C8.size; omega, fun g hg => (C8.block g (by omega) (by omega) (by omega) (fun e => by have := (hPJ.lst.rowlt e.symm).1; omega)).trans (hOn.block g (by omega) (by omega))⟩)
            have HPM := Lib.hid hPm
            have HZN : Hid (w6.heap.size ≤ wr.heap.size) := hzn
            clear hPJ hPm hOn hatm hatp hfl hadd hzn HPJ HFL HATM HATP6 HPP HB06 HTK
            generalize (putAll most T qs).2 = cnt at *
            generalize (putAll most T qs).1 = T' at *
            have q2 : ((cnt : Int) != (cnt : Int)) = false := by simp
            go_wp2_with fail
            refine (HADD.out).mono ?_
            rintro e w8 ⟨rfl, v8, hPJ8, hatm8, hatp8, hfl8, hB8, hs68⟩
            have HSM := Lib.hid (sameHits_any _ _ Am Ap cm cq qs w8 hatm8 hatp8 (by omega) (fun x hx => (HWF.out x hx).2.2))
            have HPJ8 := Lib.hid hPJ8
            have HFL8 := Lib.hid hfl8
            have HB8 := Lib.hid hB8
            clear hPJ8 hatm8 hatp8 hfl8 hB8 HADD
            go_wp2_with fail
            refine (HSM.out).mono ?_
            rintro e w9 ⟨rfl, hb9⟩
            have HPJ9 : Hid (PJ B (B + 1) B bx most w5.heap.size w6.heap.size w9 (12 * (k + 1)) v8 Ay cy L' T') := HPJ8.out.below hb9
            have hw68 : w6.heap.size ≤ w8.heap.size := hs68
            have HFL9 : Hid (Flip w5.heap.size w6.heap.size w9 Am qs) := HFL8.out.kept (fun g h1 h2 => hb9.block g (by omega))
            have HB9 : Hid (Below w.heap.size w w9) := HB8.out.trans (hb9.mono HB8.out.size)
            clear hb9 HSM HPJ8 HFL8 HB8 HZN
            go_wp2_with fail
            go_loopw [96] (fun i wr => ∃ a : Nat, a ≤ qs.length ∧ i = .int .i64 a ∧ Flip w5.heap.size w6.heap.size wr Am qs ∧ Fz w5.heap.size w6.heap.size w9 wr) (fun i _ => qs.length - (intOf i).toNat)
            case atStart => exact ⟨0, Nat.zero_le _, rfl, HFL9.out, Fz.refl _ _ _⟩
            case round =>
              obtain ⟨a, ha, rfl, hFl, hFz⟩ := hrel
              by_cases hal : a < qs.length
              · have t1 : (a : Int) < (qs.length : Int) := by omega
                obtain ⟨g, X9, d9, hA9, l1, l2, l3, l4⟩ := hFl a hal
                subst hA9
                have HFl := Lib.hid hFl
                have HFz := Lib.hid hFz
                have hvl : (qs[a]).2.2.length ≤ 1000 := HV1K.out _ (List.getElem_mem hal)
                have HLEN : Hid (∀ (W : World), Flip w5.heap.size w6.heap.size W (some ⟨g, 0, none⟩) qs → ∃ X d, W.cell? ⟨g, a * 3 + 2, none⟩ = some (.slice X (qs[a]).2.2.length d) ∧ ∀ j, j < (qs[a]).2.2.length → ∃ q n, X = some ⟨q, 0, none⟩ ∧ w5.heap.size ≤ q ∧ q < w6.heap.size ∧ q ≠ g ∧ W.cell? ⟨q, j, none⟩ = some (.int .i32 n) ∧ W.frozen? ⟨q, j, none⟩ = false) := fun W hW => by
                  obtain ⟨g', X, d, e, _, _, m3, m4⟩ := hW a hal
                  injection e with e
                  injection e with e _ _
                  subst e
                  exact ⟨X, d, m3, m4⟩
                clear hFl hFz l4
                generalize (qs[a]).2.2.length = vl at *
                go_wp2_with fail
                obtain ⟨wo, hwo⟩ : ∃ x, x = wr := ⟨_, rfl⟩
                subst hwo
                go_loopw [105] (fun i wr => ∃ j : Nat, j ≤ vl ∧ i = .int .i64 j ∧ Flip w5.heap.size w6.heap.size wr (some ⟨g, 0, none⟩) qs ∧ Fz w5.heap.size w6.heap.size w9 wr) (fun i _ => vl - (intOf i).toNat)
                case atStart => exact ⟨0, Nat.zero_le _, rfl, HFl.out, HFz.out⟩
                case round =>
                  obtain ⟨j, hj, rfl, hFl, hFz⟩ := hrel
                  by_cases hjl : j < vl
                  · have t2 : (j : Int) < (vl : Int) := by omega
                    obtain ⟨X, d, m3, m4⟩ := HLEN.out wr hFl
                    obtain ⟨q, n, rfl, n1, n2, n3, n4, n5⟩ := m4 j hjl
                    have HFl2 := Lib.hid hFl
                    have HFz2 := Lib.hid hFz
                    have HN4 := Lib.hid n4
                    clear hFl hFz m4
                    go_wp2_with fail
                    exact ⟨⟨j + 1, by omega, by go_num, HFl2.out.set rfl n3 HN4.out, HFz2.out.set n1 n2 _ _⟩, by simp [intOf]; omega⟩
                  · have t2 : ¬ (j : Int) < (vl : Int) := by omega
                    have HFl2 := Lib.hid hFl
                    have HFz2 := Lib.hid hFz
                    clear hFl hFz
                    go_wp2_with fail
                    exact ⟨⟨a + 1, by omega, by go_num, HFl2.out, HFz2.out⟩, by simp [intOf]; omega⟩
              · have t1 : ¬ (a : Int) < (qs.length : Int) := by omega
                have HPIN : Hid (PI B (B + 1) B bx most wr (12 * (k + 1)) v8 Ay cy L' T') := HPJ9.out.leave hFz HPM.out HGT.out
                have HBN : Hid (Below w.heap.size w wr) := HB9.out.trans ⟨hFz.os, hFz.tape, hFz.output, by rw [hFz.size]; exact Nat.le_refl _, fun g hg => hFz.block g (by have := HB9.out.size; omega)⟩
                clear hFl hFz HPJ9 HFL9 HB9 HPM
                go_wp2_with fail
                have HTL : Hid (T'.length ≤ most) := HGT.out.len
                have htl := HTL.out
                have HTW : Hid (∀ x ∈ T', Wf x) := fun x hx => HGT.out.wf x hx
                have HV2K : Hid (∀ x ∈ T', x.2.2.length ≤ 1000) := fun x hx => (HGT.out.wf x hx).2.2
                have HRH := Lib.hid (refHits_any _ B bx most Ay cy L' T' wr HPIN.out.rl HPIN.out.perm HGT.out.srt (by have := HPIN.out.perm.length_eq; omega))
                refine (HRH.out).mono ?_
                rintro e w11 ⟨Aw, cw, rfl, hcw, hatw, hb11⟩
                have HPI11 : Hid (PI B (B + 1) B bx most w11 (12 * (k + 1)) v8 Ay cy L' T') := HPIN.out.below hb11
                have HATW : Hid (HitsAt (fun _ => True) w11 Aw T') := hatw.mono fun _ _ _ => trivial
                have HB11 : Hid (Below w.heap.size w w11) := HBN.out.trans (hb11.mono HBN.out.size)
                have HGH := Lib.hid (hitsF_any B (B + 1) B _ most v8 T' w11 HPI11.out.lst.toLst (by omega) HTW.out)
                clear hatw hb11 HPIN HBN HRH
                go_wp2_with fail
                refine (HGH.out).mono ?_
                rintro e w12 ⟨vg, rfl, Og, hb12⟩
                obtain ⟨Ag, cg, rfl, hcg, hatg⟩ := Og.hits
                have HFG := Lib.hid Og.flip
                have HB12 := Lib.hid hb12
                have HATG : Hid (HitsAt (fun _ => True) w12 Ag T') := hatg.mono fun _ _ _ => trivial
                have HATW12 : Hid (HitsAt (fun _ => True) w12 Aw T') := HATW.out.below hb12
                have HL12 : Hid (Lst w12 B (B + 1) B (12 * (k + 1)) v8 most T') := HPI11.out.lst.toLst.below hb12
                have hfz12 := hb12.size
                have u1 : ((T'.length : Int) != (T'.length : Int)) = false := by simp
                clear Og hatg hb12 HGH HATW
                rcases Nat.eq_zero_or_pos T'.length with hT | hT
                · have HE : Hid (T' = []) := List.eq_nil_of_length_eq_zero hT
                  have HWO := Lib.hid (worst_none B (B + 1) B _ most v8 w12 (by have := HL12.out; rw [HE.out] at this; exact this))
                  rw [hT]
                  go_wp2_with fail
                  refine (HWO.out).mono ?_
                  rintro e w13 ⟨rfl, hb13⟩
                  obtain ⟨w14, hw14⟩ : ∃ x, x = w13.alloc (.cells #[.int .u64 0, .int .u64 0, .slice none 0 0] 36) := ⟨_, rfl⟩
                  have hb14 : Below w12.heap.size w12 w14 := by rw [hw14]; exact hb13.alloc hb13.size _
                  have HLN : Hid (∀ n, Calls Try.prog 18 #[.pointer (some ⟨B + 1, 0, none⟩)] (w14.drewN n) fun e w' => e = .returned (.int .i64 0) ∧ ∃ m, w' = w14.drewN m) := fun n =>
                    (len_any B (B + 1) B _ most v8 T' (w14.drewN n) ((HL12.out.below hb14).below (below_drewN (Below.refl _ _) n))).mono fun e w' ⟨e1, e2⟩ => ⟨by rw [e1, hT]; rfl, n, e2.symm⟩
                  have HFU : Hid (∀ n, Calls Try.prog 19 #[.pointer (some ⟨B + 1, 0, none⟩)] (w14.drewN n) fun e w' => e = .returned (.bool false) ∧ ∃ m, w' = w14.drewN m) := fun n =>
                    (full_q B (B + 1) B _ most v8 T' (w14.drewN n) ((HL12.out.below hb14).below (below_drewN (Below.refl _ _) n)) (by omega) (by omega)).mono fun e w' ⟨e1, m, e2⟩ => ⟨by rw [e1]; exact ret_bool (by simp; omega), n + m, by rw [e2, World.drewN_drewN]⟩
                  have HSM1 : Hid (∀ n, Calls Try.prog 14 #[.slice Ag 0 cg, .slice Aw 0 cw] (w14.drewN n) fun e w' => e = .returned (.bool true) ∧ ∃ m, w' = w14.drewN m) := fun n =>
                    (sameHits_q0 Ag Aw cg cw (w14.drewN n)).mono fun e w' ⟨e1, e2⟩ => ⟨e1, n, e2.symm⟩
                  have HB14 := Lib.hid hb14
                  have HW14 := Lib.hid hw14
                  have t9 : ((0 : Int) == (most : Int)) = false := by simp; omega
                  have HB11' := HB11
                  clear hb13 hb14 hw14 HWO HGT hT u1 hcw hcg htl HTL HTW HV2K HFG HATG HATW12 HL12
                  go_wp2_with fail
                  rw [← HW14.out]
                  go_quiet (first | (go_at_call 14; exact HSM1.out _) | (go_at_call 18; exact HLN.out _) | (go_at_call 19; exact HFU.out _))
                  go_wp2_with fail
                  obtain ⟨w15, hw15⟩ : ∃ x, x = w14.drewN nq := ⟨_, rfl⟩
                  have HB15 : Hid (Below w12.heap.size w12 w15) := by rw [hw15]; exact below_drewN HB14.out nq
                  rw [← hw15]
                  clear hw15
                  go_loopw [176] (fun i wr => i = .int .i64 0 ∧ wr = w15) (fun _ _ => 0)
                  case atStart => exact ⟨rfl, rfl⟩
                  case round =>
                    obtain ⟨rfl, rfl⟩ := hrel
                    have hB11n : Below w11.heap.size w11 wr := HB12.out.trans (HB15.out.mono HB12.out.size)
                    have HPIN : Hid (PI B (B + 1) B bx most wr (12 * (k + 1)) v8 Ay cy L' T') := HPI11.out.below hB11n
                    have HBN : Hid (Below w.heap.size w wr) := HB11.out.trans (hB11n.mono HB11.out.size)
                    clear hB11n
                    go_wp2_with fail
                    exact ⟨⟨k + 1, v8, Ay, cy, L', T', by omega, by omega, by go_num, HPIN.out, HBN.out⟩, by simp [intOf]; omega⟩
                · obtain ⟨m, hm⟩ : ∃ m, T'.length = m + 1 := ⟨T'.length - 1, by omega⟩
                  have hml : m < T'.length := by omega
                  have hlast : ∀ (q : Nat) (hq : q < T'.length), q = m → T'[q] = T'[m] := fun q hq e => by subst e; rfl
                  have hwo := worst_some B (B + 1) B _ most v8 T' w12 HL12.out hT (by omega) HTW.out
                  rw [hlast (T'.length - 1) (by omega) (by omega)] at hwo
                  have HWO := Lib.hid hwo
                  have hvl := HV2K.out _ (List.getElem_mem hml)
                  obtain ⟨ad9, hAw⟩ : ∃ a, Aw = some a := by
                    obtain ⟨a, e, _⟩ := HATW12.out m hml
                    exact ⟨a, e⟩
                  subst hAw
                  have HTAIL : Hid (HitsAt (fun _ => True) w12 (some (ad9.add (m * 3))) [T'[m]]) := fun j hj => by
                    obtain rfl : j = 0 := by simp at hj; omega
                    obtain ⟨a', e', s', lt', f0, f1, X', d', f2, f3, f4⟩ := HATW12.out m hml
                    injection e' with e'
                    subst e'
                    have eadd : (ad9.add (m * 3)).add (0 * 3) = ad9.add (m * 3) := by rw [Nat.zero_mul]; exact add_zero_addr _
                    refine ⟨ad9.add (m * 3), rfl, trivial, by rw [block_add]; exact lt', ?_⟩
                    rw [eadd]
                    exact ⟨f0, f1, X', d', f2, f3, f4⟩
                  clear hlast hwo
                  obtain ⟨xl, hxl⟩ : ∃ x : Hit, x = T'[m] := ⟨_, rfl⟩
                  rw [← hxl] at HWO HTAIL hvl
                  go_wp2_with fail
                  refine (HWO.out).mono ?_
                  rintro e w13 ⟨A13, c13, rfl, hc13, hr13, hb13⟩
                  obtain ⟨w14, hw14⟩ : ∃ x, x = w13.alloc (.cells #[.int .u64 xl.1, .int .u64 xl.2.1, .slice A13 xl.2.2.length c13] 36) := ⟨_, rfl⟩
                  have hb13' : Below w13.heap.size w13 w14 := by rw [hw14]; exact (Below.refl _ _).alloc (Nat.le_refl _) _
                  have hb14 : Below w12.heap.size w12 w14 := hb13.trans (hb13'.mono hb13.size)
                  have HLN : Hid (∀ W, Below w14.heap.size w14 W → Calls Try.prog 18 #[.pointer (some ⟨B + 1, 0, none⟩)] W fun e w' => e = .returned (.int .i64 (T'.length : Int)) ∧ W = w') := fun W hW => len_any B (B + 1) B _ most v8 T' W ((HL12.out.below hb14).below hW)
                  obtain ⟨fb, hfb⟩ : ∃ x, x = decide (most ≤ T'.length) := ⟨_, rfl⟩
                  have HFU : Hid (∀ W, Below w14.heap.size w14 W → Calls Try.prog 19 #[.pointer (some ⟨B + 1, 0, none⟩)] W fun e w' => e = .returned (.bool fb) ∧ Below w14.heap.size w14 w') := fun W hW =>
                    (full_any B (B + 1) B _ most v8 T' W ((HL12.out.below hb14).below hW) (by omega) (by omega)).mono fun e w' ⟨e1, e2⟩ => ⟨by rw [e1, hfb], hW.trans (e2.mono hW.size)⟩
                  have HSM1 : Hid (∀ W, Below w14.heap.size w14 W → Calls Try.prog 14 #[.slice Ag T'.length cg, .slice (some ad9) T'.length cw] W fun e w' => e = .returned (.bool true) ∧ Below w14.heap.size w14 w') := fun W hW =>
                    (sameHits_any _ _ Ag (some ad9) cg cw T' W ((HATG.out.below hb14).below hW) ((HATW12.out.below hb14).below hW) (by omega) HV2K.out).mono fun e w' ⟨e1, e2⟩ => ⟨e1, hW.trans (e2.mono hW.size)⟩
                  have HSM2 : Hid (∀ W, Below w14.heap.size w14 W → Calls Try.prog 14 #[.slice (some ⟨W.heap.size, 0, none⟩) 1 1, .slice (some (ad9.add (m * 3))) (T'.length - m) (cw - m)] (W.alloc (.cells #[.int .u64 xl.1, .int .u64 xl.2.1, .slice A13 xl.2.2.length c13] 36)) fun e w' => e = .returned (.bool true) ∧ Below w14.heap.size w14 w') := fun W hW => by
                    rw [show T'.length - m = 1 by omega]
                    have hWa : Below w14.heap.size w14 (W.alloc (.cells #[.int .u64 xl.1, .int .u64 xl.2.1, .slice A13 xl.2.2.length c13] 36)) := hW.alloc hW.size _
                    have hone := hitsAt_block (n := 1) (cs := [.int .u64 xl.1, .int .u64 xl.2.1, .slice A13 xl.2.2.length c13]) (heap_alloc_new W _) (hs := [xl]) rfl (by unfold maxLen; omega) (Cells3.one xl A13 c13 hc13 ((hr13.below hb13').below hWa))
                    exact (sameHits_any _ _ _ _ 1 (cw - m) [xl] _ hone ((HTAIL.out.below hb14).below hWa) (by simp) (fun x hx => by rw [List.mem_singleton] at hx; rw [hx]; exact hvl)).mono fun e w' ⟨e1, e2⟩ => ⟨e1, hWa.trans (e2.mono hWa.size)⟩
                  have hbx14 : w14.heap[w13.heap.size]? = some (.cells #[.int .u64 xl.1, .int .u64 xl.2.1, .slice A13 xl.2.2.length c13] 36 (0, 0)) := by rw [hw14]; exact heap_alloc_new w13 _
                  have hq14 := lt_of_block hbx14
                  have HCELL : Hid (∀ W, Below w14.heap.size w14 W → W.cell? ⟨w13.heap.size, 0, none⟩ = some (.int .u64 xl.1) ∧ W.cell? ⟨w13.heap.size, 1, none⟩ = some (.int .u64 xl.2.1) ∧ W.cell? ⟨w13.heap.size, 2, none⟩ = some (.slice A13 xl.2.2.length c13)) := fun W hW => by
                    have e2 := (hW.block _ hq14).trans hbx14
                    exact ⟨three_cell0 e2, three_cell1 e2, three_cell2 e2⟩
                  have hb0 : Below w14.heap.size w14 w14.drew := (Below.refl _ _).drew
                  have x9 := HCELL.out _ hb0
                  have t9 : ((T'.length : Int) == (most : Int)) = fb := by
                    rw [hfb]
                    by_cases e : most ≤ T'.length
                    · have : T'.length = most := by omega
                      simp [this]
                    · have : T'.length ≠ most := by omega
                      simp [e, this]
                      omega
                  have t8 : (0 : Int) < (T'.length : Int) := by omega
                  have t7 : (fb != fb) = false := by simp
                  have t6 : IntKind.i64.wrap ((T'.length : Int) - 1) = (m : Int) := by rw [IntKind.wrap_i64]; omega
                  have t5 : (m : Int) ≤ (T'.length : Int) := by omega
                  have t4 : ¬ (cw = m) := by omega
                  have t3 : (0 : Int) ≤ (m : Int) := by omega
                  have t2 : T'.length ≤ cw := hcw
                  have HB14 := Lib.hid hb14
                  have HW14 := Lib.hid hw14
                  have HHM := Lib.hid hm
                  clear hb13 hb14 hb13' hbx14 hw14 HWO HGT hfb hxl hr13 hml hT
                  generalize xl.1 = xi at *
                  generalize xl.2.1 = xd at *
                  generalize xl.2.2.length = xn at *
                  obtain ⟨d1, hd1⟩ : ∃ x, cw - m = x := ⟨_, rfl⟩
                  have u2 : (((m : Int) + 1) != ((m : Int) + 1)) = false := by simp
                  have u3 : IntKind.i64.wrap ((m : Int) + 1 - 1) = (m : Int) := by rw [IntKind.wrap_i64]; omega
                  have u4' : IntKind.i64.wrap (m : Int) = (m : Int) := by rw [IntKind.wrap_i64]; omega
                  have u5 : (m : Int) ≤ (m : Int) + 1 := by omega
                  have u6' : (0 : Int) < (m : Int) + 1 := by omega
                  have u7' : m ≤ m + 1 := by omega
                  have u8' : m + 1 ≤ cw := by omega
                  rw [show T'.length - m = 1 by omega, hd1] at HSM2
                  rw [hm] at HSM1 HLN
                  simp only [Int.natCast_add, Int.natCast_one] at HLN
                  have t9' : (((m : Int) + 1) == (most : Int)) = fb := by rw [← t9, hm]; rfl
                  clear HL12 HTW HTL HATG HATW12 t9 t8 t6 t5 t2
                  go_wp2_with fail
                  rw [← HW14.out]
                  generalize w13.heap.size = q13 at *
                  go_region_held3 (fun w' => w'.cell? ⟨q13, 0, none⟩ = some (.int .u64 xi) ∧ w'.cell? ⟨q13, 1, none⟩ = some (.int .u64 xd) ∧ w'.cell? ⟨q13, 2, none⟩ = some (.slice A13 xn c13)) (first | exact x9 | exact hSa | exact hSx | exact hSb | exact hSc)
                    (first
                      | (go_at_call 14; with_reducible refine Calls.mono (HSM1.out _ hb0) ?_; rintro e wA ⟨rfl, hbA⟩; have hSa := HCELL.out wA hbA; have hSx := HCELL.out (wA.alloc (.cells #[.int .u64 xi, .int .u64 xd, .slice A13 xn c13] 36)) (hbA.alloc hbA.size _))
                      | (go_at_call 18; with_reducible refine Calls.mono (HLN.out _ hbA) ?_; rintro e wB ⟨rfl, rfl⟩)
                      | (go_at_call 14; with_reducible refine Calls.mono (HSM2.out wA hbA) ?_; rintro e wD ⟨rfl, hbD⟩; have hSb := HCELL.out wD hbD)
                      | (go_at_call 19; with_reducible refine Calls.mono (HFU.out _ hbD) ?_; rintro e w15 ⟨rfl, hb15⟩; have hSc := HCELL.out w15 hb15)
                      | fail)
                  have HB15 : Hid (Below w12.heap.size w12 w15) := HB14.out.trans (hb15.mono HB14.out.size)
                  clear hSa hSx hSb hSc hbA hbD hb15
                  go_wp2_with fail
                  have HFL15 : Hid (Flip w11.heap.size w12.heap.size w15 Ag T') := HFG.out.kept (fun g h1 h2 => HB15.out.block g h2)
                  go_loopw [176] (fun i wr => ∃ a : Nat, a ≤ T'.length ∧ i = .int .i64 a ∧ Flip w11.heap.size w12.heap.size wr Ag T' ∧ Fz w11.heap.size w12.heap.size w15 wr) (fun i _ => T'.length - (intOf i).toNat)
                  case atStart => exact ⟨0, Nat.zero_le _, rfl, HFL15.out, Fz.refl _ _ _⟩
                  case round =>
                    obtain ⟨a, ha, rfl, hFl, hFz⟩ := hrel
                    by_cases hal : a < T'.length
                    · have t1 : (a : Int) < (T'.length : Int) := by omega
                      obtain ⟨g, X9, d9, hA9, l1, l2, l3, l4⟩ := hFl a hal
                      subst hA9
                      have HFl := Lib.hid hFl
                      have HFz := Lib.hid hFz
                      have hvl : (T'[a]).2.2.length ≤ 1000 := HV2K.out _ (List.getElem_mem hal)
                      have HLEN : Hid (∀ (W : World), Flip w11.heap.size w12.heap.size W (some ⟨g, 0, none⟩) T' → ∃ X d, W.cell? ⟨g, a * 3 + 2, none⟩ = some (.slice X (T'[a]).2.2.length d) ∧ ∀ j, j < (T'[a]).2.2.length → ∃ q n, X = some ⟨q, 0, none⟩ ∧ w11.heap.size ≤ q ∧ q < w12.heap.size ∧ q ≠ g ∧ W.cell? ⟨q, j, none⟩ = some (.int .i32 n) ∧ W.frozen? ⟨q, j, none⟩ = false) := fun W hW => by
                        obtain ⟨g', X, d, e, _, _, m3, m4⟩ := hW a hal
                        injection e with e
                        injection e with e _ _
                        subst e
                        exact ⟨X, d, m3, m4⟩
                      clear hFl hFz l4
                      generalize (T'[a]).2.2.length = vl at *
                      go_wp2_with fail
                      obtain ⟨wo, hwo⟩ : ∃ x, x = wr := ⟨_, rfl⟩
                      subst hwo
                      go_loopw [185] (fun i wr => ∃ j : Nat, j ≤ vl ∧ i = .int .i64 j ∧ Flip w11.heap.size w12.heap.size wr (some ⟨g, 0, none⟩) T' ∧ Fz w11.heap.size w12.heap.size w15 wr) (fun i _ => vl - (intOf i).toNat)
                      case atStart => exact ⟨0, Nat.zero_le _, rfl, HFl.out, HFz.out⟩
                      case round =>
                        obtain ⟨j, hj, rfl, hFl, hFz⟩ := hrel
                        by_cases hjl : j < vl
                        · have t2 : (j : Int) < (vl : Int) := by omega
                          obtain ⟨X, d, m3, m4⟩ := HLEN.out wr hFl
                          obtain ⟨q, n, rfl, n1, n2, n3, n4, n5⟩ := m4 j hjl
                          have HFl2 := Lib.hid hFl
                          have HFz2 := Lib.hid hFz
                          have HN4 := Lib.hid n4
                          clear hFl hFz m4
                          go_wp2_with fail
                          exact ⟨⟨j + 1, by omega, by go_num, HFl2.out.set rfl n3 HN4.out, HFz2.out.set n1 n2 _ _⟩, by simp [intOf]; omega⟩
                        · have t2 : ¬ (j : Int) < (vl : Int) := by omega
                          have HFl2 := Lib.hid hFl
                          have HFz2 := Lib.hid hFz
                          clear hFl hFz
                          go_wp2_with fail
                          exact ⟨⟨a + 1, by omega, by go_num, HFl2.out, HFz2.out⟩, by simp [intOf]; omega⟩
                    · have t1 : ¬ (a : Int) < (T'.length : Int) := by omega
                      have hB1115 : Below w11.heap.size w11 w15 := HB12.out.trans (HB15.out.mono HB12.out.size)
                      have hB11n : Below w11.heap.size w11 wr := hB1115.trans ⟨hFz.os, hFz.tape, hFz.output, by rw [hFz.size]; exact Nat.le_refl _, fun g hg => hFz.block g (by omega)⟩
                      have HPIN : Hid (PI B (B + 1) B bx most wr (12 * (k + 1)) v8 Ay cy L' T') := HPI11.out.below hB11n
                      have HBN : Hid (Below w.heap.size w wr) := HB11.out.trans (hB11n.mono HB11.out.size)
                      clear hFl hFz hB1115 hB11n
                      go_wp2_with fail
                      exact ⟨⟨k + 1, v8, Ay, cy, L', T', by omega, by omega, by go_num, HPIN.out, HBN.out⟩, by simp [intOf]; omega⟩
      · have j1 : (k : Int) < (ps.length : Int) := by omega
        have j2 : (20 : Int) ≤ (k : Int) := by omega
        obtain ⟨ad, X, cp, rfl, _, _, g0, _⟩ := (HAT.out.below hBr) k c9
        have HBR := Lib.hid hBr
        clear hPI hBr
        generalize ps[k].length = pl at *
        go_wp2_with fail
        go_ret
        exact ⟨rfl, HBR.out⟩
    · have j1 : ¬ (k : Int) < (ps.length : Int) := by omega
      have HBR := Lib.hid hBr
      clear hPI hBr
      go_wp2_with fail
      go_ret
      exact ⟨rfl, HBR.out⟩

end Go.Proofs.Ytfhnhfppamnjhaa
