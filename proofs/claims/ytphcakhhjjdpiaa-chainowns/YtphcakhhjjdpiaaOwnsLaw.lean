/-
  The walk of ChainOwns.
-/
import Derived.Test.YtphcakhhjjdpiaaBack
namespace Go.Proofs.Ytphcakhhjjdpiaa
open Go.RowKit

theorem asOf_len2 {vs : List Ver} (hg : GoodC vs) (t : Int) : (asOf vs t).length ≤ 1000 := by
  unfold asOf
  rw [List.getLastD_eq_getLast?]
  cases hv : (vs.filter fun v => decide (v.1 ≤ t)).getLast? with
  | none => simp
  | some y => exact hg.len y (List.mem_filter.1 (List.mem_of_getLast? hv)).1

set_option maxRecDepth 100000 in
set_option maxHeartbeats 2000000 in
theorem law_owns (A : Option Addr) (c : Nat) (os : List OpC) (by' ask : Int) (w : World) (hat : OpsAt (fun g => g < w.heap.size) w A os) (hol : os.length ≤ 9223372036854775807) (hwf : OpsWf os) :
    Calls Try.prog 7 #[.slice A os.length c, .int .i32 by', .int .u64 ask] w fun e w' => e = .returned (.bool true) ∧ Below w.heap.size w w' := by
  have HAW := Lib.hid (awake_any w)
  have HNEW : Hid (∀ W, Calls Try.prog 9 #[.slice none 0 0] W fun e w' => NewGave (fun _ => True) W [] e w') := fun W => new_any (fun _ => True) (fun _ => True) (fun _ => True) none 0 [] W VersAt.nil (by simp) (by simp) (fun _ _ => trivial)
  have HAT := Lib.hid hat
  have HWF := Lib.hid hwf
  clear hat hwf
  go_enter Try.func7, Try.ntmps7
  go_wp2_with fail
  refine (HAW.out).mono ?_
  rintro e w1 ⟨rfl, hb1⟩
  have HB1 := Lib.hid hb1
  clear HAW hb1
  go_wp2_with fail
  refine (HNEW.out _).mono ?_
  rintro e w2 ⟨hb2, ⟨_, v, rfl, L2⟩ | ⟨h, _⟩⟩
  case inr => exact absurd rfl h
  have HB2 := Lib.hid (HB1.out.trans (hb2.mono HB1.out.size))
  have HL2 := Lib.hid L2
  have hb1s : w.heap.size ≤ w1.heap.size := HB1.out.size
  clear hb2 L2 HNEW
  go_wp2_with fail
  go_loopw [9, 10, 28] (fun _ _ i wr => ∃ (k : Nat) (v : Value) (vs : List Ver), k ≤ os.length ∧ i = .int .i64 k ∧ GoodC vs ∧ vs.length ≤ k ∧ vs.length ≤ 40 ∧ Chn (fun _ => True) wr w1.heap.size w1.heap.size v vs ∧ Below w.heap.size w wr) (fun _ _ i _ => os.length - (intOf i).toNat)
  case atStart => exact ⟨0, v, [], Nat.zero_le _, rfl, GoodC.nil, Nat.le_refl _, Nat.zero_le _, HL2.out, HB2.out⟩
  case round =>
    obtain ⟨k, v, vs, hk, rfl, hg, hl1, hl2, hL, hbl⟩ := hrel
    by_cases hlt : k < os.length
    · obtain ⟨ad, rfl, j1, j2, a0, a1, ⟨X, cx, a2, j3, hrow⟩, a3⟩ := (HAT.out.kept hbl.size fun g hg _ => hbl.block g hg) k hlt
      clear j1 j2
      have hwo := HWF.out _ (List.getElem_mem hlt)
      have i1 : (k : Int) < (os.length : Int) := by omega
      obtain ⟨wa, hwa⟩ : ∃ x, x = wr.alloc (.cells #[.int .u8 os[k].1, .int .u64 os[k].2.1, .slice X os[k].2.2.1.length cx, .int .u64 os[k].2.2.2] 32) := ⟨_, rfl⟩
      have hba : Below wr.heap.size wr wa := by rw [hwa]; exact (Below.refl _ _).alloc (Nat.le_refl _) _
      have hBA : Below w.heap.size w wa := hbl.trans (hba.mono hbl.size)
      by_cases h40 : k < 40
      · have hbox : wa.heap[wr.heap.size]? = some (.cells #[.int .u8 os[k].1, .int .u64 os[k].2.1, .slice X os[k].2.2.1.length cx, .int .u64 os[k].2.2.2] 32 (0, 0)) := by rw [hwa]; exact heap_alloc_new wr _
        have hsa : wr.heap.size < wa.heap.size := lt_of_block hbox
        have KQ : Hid (∀ W, Below wa.heap.size wa W → W.cell? ⟨wr.heap.size, 1, none⟩ = some (.int .u64 os[k].2.1) ∧ W.cell? ⟨wr.heap.size, 2, none⟩ = some (.slice X os[k].2.2.1.length cx)) := fun W hW => by
          have := (hW.block _ hsa).trans hbox
          exact ⟨by simp [World.cell?, this], by simp [World.cell?, this]⟩
        have HCUT : Hid (Calls Try.prog 13 #[.slice X os[k].2.2.1.length cx, .int .i64 10] wa.drew fun e w' => GivesF wa (i32s (os[k].2.2.1.take 10)) e w') := by
          have := cutVecF_any _ X cx 10 os[k].2.2.1 wa.drew ((hrow.below hba).drew) j3 hwo.2.2.2.1 (by decide)
          exact this.mono fun e w' ⟨A1, c1, e1, e2, e3, e4, e5⟩ => ⟨A1, c1, e1, e2, e3, e4, ⟨e5.os, e5.tape, e5.output, e5.size, e5.block⟩⟩
        have HPUT : Hid (∀ W X1 c1, Below wa.heap.size wa W → Row (fun g => wa.heap.size ≤ g) W X1 (i32s (os[k].2.2.1.take 10)) → Calls Try.prog 14 #[.pointer (some ⟨w1.heap.size, 0, none⟩), .agg #[.int .u64 os[k].2.1, .slice X1 (os[k].2.2.1.take 10).length c1]] W fun e w' => ∃ r : Int, e = .returned (.int .i64 r) ∧ (w'.cell? ⟨wr.heap.size, 1, none⟩ = some (.int .u64 os[k].2.1) ∧ w'.cell? ⟨wr.heap.size, 2, none⟩ = some (.slice X os[k].2.2.1.length cx)) ∧ ∃ v' vs', GoodC vs' ∧ vs'.length ≤ k + 1 ∧ vs'.length ≤ 40 ∧ Chn (fun _ => True) w' w1.heap.size w1.heap.size v' vs' ∧ Below w.heap.size w w') := fun W X1 c1 hW hr => by
          refine (put_any _ (fun _ => True) w1.heap.size w1.heap.size v vs (os[k].2.1, os[k].2.2.1.take 10) X1 c1 W ((hL.below hba).below hW) (by omega) hr (by simp; omega) (fun _ _ => trivial)).mono ?_
          rintro e w' ⟨e1, v', L', C'⟩
          have hlow := (hL.lt).1
          have hvl : ∀ g, v.ownBlock = some g → w1.heap.size ≤ g ∧ g < wr.heap.size := fun g e => hL.low e
          have hbx : w'.heap[wr.heap.size]? = some (.cells #[.int .u8 os[k].1, .int .u64 os[k].2.1, .slice X os[k].2.2.1.length cx, .int .u64 os[k].2.2.2] 32 (0, 0)) := by
            rw [C'.block _ (Nat.lt_of_lt_of_le hsa hW.size) (by omega) (fun e => by have := (hvl _ e.symm).2; omega), hW.block _ hsa]; exact hbox
          exact ⟨_, e1, ⟨by simp [World.cell?, hbx], by simp [World.cell?, hbx]⟩, v', _, hg.put _, by have := putV_len vs (os[k].2.1, os[k].2.2.1.take 10); omega, by have := putV_len vs (os[k].2.1, os[k].2.2.1.take 10); omega, L', C'.below (hBA.trans (hW.mono hBA.size)) hb1s (fun g e => Nat.le_trans hb1s (hvl g e).1)⟩
        have h40' : (k : Int) < 40 := by omega
        have hci := i32s_len (os[k].2.2.1.take 10)
        obtain ⟨p1, p2⟩ := KQ.out wa (Below.refl _ _)
        have HWA := Lib.hid hwa
        clear hrow hwo hba hBA hbox hg hL hbl hwa
        unfold GivesF at HCUT
        rw [hci] at HCUT
        clear hci
        have HCW := Lib.hid hsa
        generalize os[k].2.1 = si at *
        generalize (os[k].2.2.1.take 10) = tv at *
        generalize os[k].2.2.1.length = xl at *
        generalize os[k].1 = di at *
        generalize os[k].2.2.2 = qi at *
        go_wp2_with fail
        rw [← HWA.out]
        clear HWA a0 a1 a2 a3
        go_region_held3 (fun w' => w'.cell? ⟨wr.heap.size, 1, none⟩ = some (.int .u64 si) ∧ w'.cell? ⟨wr.heap.size, 2, none⟩ = some (.slice X xl cx)) (first | exact ⟨p1, p2⟩ | exact hS5 | exact hS6)
          (first
            | (go_at_call 13; refine (HCUT.out).mono ?_; rintro e w5 ⟨A5, c5, rfl, hc5, r5, f5, hb5⟩; have hS5 := KQ.out w5 hb5)
            | (go_at_call 14; refine (HPUT.out _ _ _ hb5 r5).mono ?_; rintro e w6 ⟨er, rfl, hS6, v6, vs6, g6, l6, m6, L6, B6⟩)
            | fail)
        all_goals
          go_wp2_with fail
          go_roundw
          case rel => exact ⟨k + 1, v6, vs6, by omega, by go_num, g6, l6, m6, L6, B6⟩
          case measure => simp [intOf]; omega
      · have h40' : ¬ (k : Int) < 40 := by omega
        have HF : Hid (Chn (fun _ => True) wa w1.heap.size w1.heap.size v vs ∧ Below w.heap.size w wa) := ⟨hL.below hba, hBA⟩
        clear hrow hwo hba hBA hL hbl
        subst hwa
        generalize os[k].2.1 = si at *
        generalize os[k].2.2.1.length = xl at *
        generalize os[k].1 = di at *
        generalize os[k].2.2.2 = qi at *
        go_wp2_with fail
        go_roundw
        case rel => exact ⟨k + 1, v, vs, by omega, by go_num, hg, by omega, hl2, HF.out.1, HF.out.2⟩
        case measure => simp [intOf]; omega
    · have i1 : ¬ (k : Int) < (os.length : Int) := by omega
      obtain ⟨wL, rfl⟩ : ∃ x, x = wr := ⟨wr, rfl⟩
      have hL0 : Chn (fun g => g < wL.heap.size) wL w1.heap.size w1.heap.size v vs := hL.mono fun g hg _ => hg
      have HLL := Lib.hid hL0
      have HBL := Lib.hid hbl
      have hn40 : vs.length ≤ 40 := hl2
      have HLIST : Hid (∀ W, Below wL.heap.size wL W → Calls Try.prog 21 #[.pointer (some ⟨w1.heap.size, 0, none⟩)] W fun e w' => GaveVers W vs e w') := fun W hW => list_any _ _ _ v vs W (hL.below hW) (by omega) hg.len
      have HATC : Hid (∀ W t, Below wL.heap.size wL W → Calls Try.prog 17 #[.pointer (some ⟨w1.heap.size, 0, none⟩), .int .u64 t] W fun e w' => GaveAt W (asOf vs t) e w') := fun W t hW => at_any _ _ _ v vs t W (hL.below hW) hg.rise (by omega) hg.len
      have HG := Lib.hid hg
      clear hL hL0 hbl HAT hg
      go_wp2_with fail
      refine (HLIST.out wL (Below.refl _ _)).mono ?_
      rintro e w3 ⟨vl, rfl, hOF, hb3⟩
      obtain ⟨Al, cl, rfl, hcl, hatl⟩ := hOF.own.vers
      have HBK := Lib.hid (back_any _ _ Al cl vs w3 hatl (by omega))
      have HB3 := Lib.hid hb3
      clear hOF hatl hb3
      go_wp2_with fail
      refine (HBK.out).mono ?_
      rintro e w4 ⟨vw, rfl, hOW, hb4⟩
      obtain ⟨Aw, cw, rfl, hcw, hatw⟩ := hOW.vers
      have HATW := Lib.hid (hatw.mono (fun g hg _ => hg) (fun g hg _ => hg) : VersAt (fun g => g < w4.heap.size) (fun g => g < w4.heap.size) w4 Aw vs)
      have HB4 := Lib.hid (HB3.out.trans (hb4.mono HB3.out.size))
      clear hOW hatw hb4 HBK HB3
      go_wp2_with fail
      refine (HLIST.out w4 HB4.out).mono ?_
      rintro e w5 ⟨vl5, rfl, hOF5, hb5⟩
      obtain ⟨Al5, cl5, rfl, hcl5, _⟩ := hOF5.own.vers
      have HFL5 := Lib.hid hOF5.flip
      have HB45 := Lib.hid hb5
      have HB5 := Lib.hid (HB4.out.trans (hb5.mono HB4.out.size))
      clear hOF5 hb5
      go_wp2_with fail
      refine (HATC.out w5 ask HB5.out).mono ?_
      rintro e w6 ⟨Av, cv, rfl, hcv, rv, fv, hb6⟩
      have HFV := Lib.hid (flipV_of rv fv)
      have hal := asOf_len2 HG.out ask
      have HFL6 := Lib.hid (HFL5.out.kept (w' := w6) fun g _ hg => hb6.block g hg)
      have HB46 := Lib.hid (HB45.out.trans (hb6.mono HB45.out.size))
      have HB6 := Lib.hid (HB5.out.trans (hb6.mono HB5.out.size))
      have hs56 : w5.heap.size ≤ w6.heap.size := hb6.size
      have hs45 : w4.heap.size ≤ w5.heap.size := HB45.out.size
      have hsL4 : wL.heap.size ≤ w4.heap.size := HB4.out.size
      clear rv fv hb6 HFL5 HATC
      generalize (asOf vs ask).length = al at *
      go_wp2_with fail
      go_loopw [15, 57] (fun _ i wr => ∃ j : Nat, j ≤ al ∧ i = .int .i64 j ∧ FlipV w5.heap.size w6.heap.size wr Av al ∧ Fz w5.heap.size w6.heap.size w6 wr) (fun _ i _ => al - (intOf i).toNat)
      case atStart => exact ⟨0, Nat.zero_le _, rfl, HFV.out, Fz.refl _ _ _⟩
      case round =>
        obtain ⟨j, hj, rfl, hFl, hFz⟩ := hrel
        by_cases hjl : j < al
        · have t2 : (j : Int) < (al : Int) := by omega
          obtain ⟨q, n, rfl, n1, n2, n4, n5⟩ := hFl j hjl
          have HFl2 := Lib.hid hFl
          have HFz2 := Lib.hid hFz
          have HN4 := Lib.hid n4
          clear hFl hFz
          go_wp2_with fail
          exact ⟨⟨j + 1, by omega, by go_num, HFl2.out.set HN4.out, HFz2.out.set n1 n2 _ _⟩, by simp [intOf]; omega⟩
        · have t2 : ¬ (j : Int) < (al : Int) := by omega
          obtain ⟨wA, rfl⟩ : ∃ x, x = wr := ⟨wr, rfl⟩
          have HFLA := Lib.hid (HFL6.out.kept (w' := wA) fun g h1 h2 => hFz.block g (by omega))
          have HFZA := Lib.hid hFz
          have hsA : wA.heap.size = w6.heap.size := hFz.size
          have HWV : Hid (∀ x ∈ vs, x.2.length ≤ 1000) := HG.out.len
          obtain ⟨ns, hns⟩ : ∃ x, x = vs.map fun v => v.2.length := ⟨_, rfl⟩
          have hnl : ns.length = vs.length := by rw [hns, List.length_map]
          have HNS : Hid (∀ k (hk : k < ns.length), ns[k] ≤ 1000) := fun k hk => by
            subst hns
            rw [List.getElem_map]
            exact HWV.out _ (List.getElem_mem _)
          rw [← hns] at HFLA
          clear hFl hFz HFL6 HFV hns
          go_wp2_with fail
          go_loopw [16, 17, 70] (fun _ _ i wr => ∃ a : Nat, a ≤ ns.length ∧ i = .int .i64 a ∧ Flip w4.heap.size w5.heap.size wr Al5 ns ∧ Fz w4.heap.size w5.heap.size wA wr) (fun _ _ i _ => ns.length - (intOf i).toNat)
          case atStart => exact ⟨0, Nat.zero_le _, rfl, HFLA.out, Fz.refl _ _ _⟩
          case round =>
            obtain ⟨a, ha, rfl, hFl, hFz⟩ := hrel
            by_cases hal2 : a < ns.length
            · have t1 : (a : Int) < (vs.length : Int) := by omega
              have t1' : a < vs.length := by omega
              obtain ⟨g, s, X9, d9, hA9, l1, l2, l3, l3f, l4, l5⟩ := hFl a hal2
              subst hA9
              have HFl := Lib.hid hFl
              have HFz := Lib.hid hFz
              have hvl := HNS.out a hal2
              have HL3 := Lib.hid l3
              have HFLN : Hid (∀ t : Int, Flip w4.heap.size w5.heap.size (wr.setCell ⟨g, a * 2, none⟩ (.int .u64 t)) (some ⟨g, 0, none⟩) ns ∧ Fz w4.heap.size w5.heap.size wA (wr.setCell ⟨g, a * 2, none⟩ (.int .u64 t))) := fun t => ⟨hFl.setS rfl l3, hFz.set l1 l2 _ _⟩
              have HLEN : Hid (∀ (W : World), Flip w4.heap.size w5.heap.size W (some ⟨g, 0, none⟩) ns → ∃ X d, W.cell? ⟨g, a * 2 + 1, none⟩ = some (.slice X ns[a] d) ∧ ∀ j, j < ns[a] → ∃ q n, X = some ⟨q, 0, none⟩ ∧ w4.heap.size ≤ q ∧ q < w5.heap.size ∧ q ≠ g ∧ W.cell? ⟨q, j, none⟩ = some (.int .i32 n) ∧ W.frozen? ⟨q, j, none⟩ = false) := fun W hW => by
                obtain ⟨g', s', X, d, e, _, _, _, _, m3, m4⟩ := hW a hal2
                injection e with e
                injection e with e _ _
                subst e
                exact ⟨X, d, m3, m4⟩
              have l4' : ∀ t : Int, (wr.setCell ⟨g, a * 2, none⟩ (.int .u64 t)).cell? ⟨g, a * 2 + 1, none⟩ = some (.slice X9 ns[a] d9) := fun t => by
                rw [World.cell?_setCell_other _ _ _ _ (fun e => by injection e with _ e _; omega)]; exact l4
              clear hFl hFz l5 l4
              generalize ns[a] = vl at *
              go_wp2_with fail
              obtain ⟨wo, rfl⟩ : ∃ x, x = wr := ⟨wr, rfl⟩
              go_loopw [17, 87] (fun _ i wr => ∃ j : Nat, j ≤ vl ∧ i = .int .i64 j ∧ Flip w4.heap.size w5.heap.size wr (some ⟨g, 0, none⟩) ns ∧ Fz w4.heap.size w5.heap.size wA wr) (fun _ i _ => vl - (intOf i).toNat)
              case atStart => exact ⟨0, Nat.zero_le _, rfl, (HFLN.out _).1, (HFLN.out _).2⟩
              case round =>
                obtain ⟨j, hj, rfl, hFl, hFz⟩ := hrel
                by_cases hjl : j < vl
                · have t2 : (j : Int) < (vl : Int) := by omega
                  obtain ⟨X, d, m3, m4⟩ := HLEN.out wr hFl
                  obtain ⟨q, n, rfl, n1, n2, n3, n4, n5⟩ := m4 j hjl
                  have HFl2 := Lib.hid hFl
                  have HFz2 := Lib.hid hFz
                  have HN4 := Lib.hid n4
                  clear hFl hFz m4
                  go_wp2_with fail
                  exact ⟨⟨j + 1, by omega, by go_num, HFl2.out.setV rfl n3 HN4.out, HFz2.out.set n1 n2 _ _⟩, by simp [intOf]; omega⟩
                · have t2 : ¬ (j : Int) < (vl : Int) := by omega
                  have HFl2 := Lib.hid hFl
                  have HFz2 := Lib.hid hFz
                  clear hFl hFz
                  go_wp2_with fail
                  exact ⟨⟨a + 1, by omega, by go_num, HFl2.out, HFz2.out⟩, by simp [intOf]; omega⟩
            · have t1 : ¬ (a : Int) < (vs.length : Int) := by omega
              obtain ⟨wB, rfl⟩ : ∃ x, x = wr := ⟨wr, rfl⟩
              have hsB : wB.heap.size = w6.heap.size := hFz.size.trans hsA
              have hKB : ∀ g, g < w4.heap.size → wB.heap[g]? = w4.heap[g]? := fun g hg => by
                rw [hFz.block g (by omega), HFZA.out.block g (by omega), HB46.out.block g hg]
              have HBB : Hid (Below w.heap.size w wB) := by
                have h1 := HFZA.out.below HB6.out (by omega)
                have h2 := hFz.below h1 (by omega)
                exact HBL.out.trans (h2.mono HBL.out.size)
              have hLB : Chn (fun _ => True) wB w1.heap.size w1.heap.size v vs := by
                have L4 := HLL.out.below HB4.out
                exact L4.kept (by omega) (hKB _ L4.lt.1) (fun g hg _ => hKB g hg) fun g hg _ => ⟨hKB g hg, trivial⟩
              have HATB : Hid (VersAt (fun g => g < w4.heap.size) (fun g => g < w4.heap.size) wB Aw vs) := HATW.out.kept (by omega) fun g hg _ => hKB g hg
              have HLB := Lib.hid (list_any _ _ _ v vs wB hLB (by omega) HWV.out)
              clear hFl hFz hLB hKB HFZA HFLA HLIST HATW
              go_wp2_with fail
              refine (HLB.out).mono ?_
              rintro e w7 ⟨vl7, rfl, hOF7, hb7⟩
              obtain ⟨Al7, cl7, rfl, hcl7, hat7⟩ := hOF7.own.vers
              have HBK7 := Lib.hid (back_any _ _ Al7 cl7 vs w7 hat7 (by omega))
              have HB7 := Lib.hid hb7
              clear hOF7 hat7 hb7 HLB
              go_wp2_with fail
              refine (HBK7.out).mono ?_
              rintro e w8 ⟨vw8, rfl, hOW8, hb8⟩
              obtain ⟨Aw8, cw8, rfl, hcw8, hat8⟩ := hOW8.vers
              have HAT8 := Lib.hid hat8
              have HATW8 := Lib.hid ((HATB.out.below HB7.out).below hb8)
              have HB8 := Lib.hid (HBB.out.trans ((HB7.out.trans (hb8.mono HB7.out.size)).mono HBB.out.size))
              clear hOW8 hat8 hb8 HBK7 HATB
              go_wp2_with fail
              go_loopw [19, 113] (fun _ i wr => ∃ j : Nat, j ≤ vs.length ∧ i = .int .i64 j ∧ Below w8.heap.size w8 wr) (fun _ i _ => vs.length - (intOf i).toNat)
              case atStart => exact ⟨0, Nat.zero_le _, rfl, Below.refl _ _⟩
              case round =>
                obtain ⟨j, hj, rfl, hbr⟩ := hrel
                by_cases hjl : j < vs.length
                · have t2 : (j : Int) < (vs.length : Int) := by omega
                  obtain ⟨ad, rfl, _, p2, a0, Y, cy, a1, _, r1⟩ := (HAT8.out.below hbr) j hjl
                  obtain ⟨bd, rfl, _, q2, b0, Z, cz, b1, _, r2⟩ := (HATW8.out.below hbr) j hjl
                  have hvl := HWV.out _ (List.getElem_mem hjl)
                  have p2' : (ad.add (j * 2)).block < wr.heap.size := by rw [block_add]; exact p2
                  have q2' : (bd.add (j * 2)).block < wr.heap.size := by rw [block_add]; exact q2
                  have HSV : Hid (Calls Try.prog 16 #[.slice Y vs[j].2.length cy, .slice Z vs[j].2.length cz] wr.drew fun e w' => e = .returned (.bool true) ∧ Below wr.heap.size wr w') := by
                    have := sameVec_any _ _ Y Z cy cz vs[j].2 vs[j].2 wr.drew r1.drew r2.drew (by omega)
                    rw [show (vs[j].2 == vs[j].2) = true by simp] at this
                    exact this.mono fun e w' ⟨e1, e2⟩ => ⟨e1, ⟨e2.os, e2.tape, e2.output, e2.size, e2.block⟩⟩
                  have HBR := Lib.hid hbr
                  clear r1 r2 hbr
                  generalize vs[j].1 = xi at *
                  generalize vs[j].2.length = xl at *
                  go_wp2_with fail
                  go_region_held3 (fun w' => w'.cell? (ad.add (j * 2)) = some (.int .u64 xi) ∧ w'.cell? (bd.add (j * 2)) = some (.int .u64 xi) ∧ w'.cell? ⟨(ad.add (j * 2)).block, (ad.add (j * 2)).off + 1, none⟩ = some (.slice Y xl cy) ∧ w'.cell? ⟨(bd.add (j * 2)).block, (bd.add (j * 2)).off + 1, none⟩ = some (.slice Z xl cz)) (first | exact ⟨a0, b0, a1, b1⟩ | exact hS5)
                    (first | (go_at_call 16; refine (HSV.out).mono ?_; rintro e w9 ⟨rfl, hb9⟩; have hS5 := (⟨(hb9.cell (p := ad.add (j * 2)) p2').trans a0, (hb9.cell (p := bd.add (j * 2)) q2').trans b0, (hb9.cell (p := ⟨(ad.add (j * 2)).block, (ad.add (j * 2)).off + 1, none⟩) p2').trans a1, (hb9.cell (p := ⟨(bd.add (j * 2)).block, (bd.add (j * 2)).off + 1, none⟩) q2').trans b1⟩ : _ ∧ _ ∧ _ ∧ _)) | fail)
                  have HBN := Lib.hid (HBR.out.trans (hb9.mono HBR.out.size))
                  clear hS5 hb9
                  go_wp2_with fail
                  go_roundw
                  case rel => exact ⟨j + 1, by omega, by go_num, HBN.out⟩
                  case measure => simp [intOf]; omega
                · have t2 : ¬ (j : Int) < (vs.length : Int) := by omega
                  have HBN := Lib.hid (HB8.out.trans (hbr.mono HB8.out.size))
                  clear hbr
                  go_wp2_with fail
                  go_ret
                  exact ⟨rfl, HBN.out⟩

end Go.Proofs.Ytphcakhhjjdpiaa
