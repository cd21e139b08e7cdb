/-
  The walk of ChainSweeps.
-/
import Derived.Test.YtphcakhhjjdpiaaSwMath
namespace Go.Proofs.Ytphcakhhjjdpiaa
open Go.RowKit

theorem asOf_len {vs : List Ver} (hg : GoodC vs) (t : Int) : (asOf vs t).length ≤ 1000 := by
  unfold asOf
  rw [List.getLastD_eq_getLast?]
  cases hv : (vs.filter fun v => decide (v.1 ≤ t)).getLast? with
  | none => simp
  | some y => exact hg.len y (List.mem_filter.1 (List.mem_of_getLast? hv)).1

set_option maxRecDepth 100000 in
set_option maxHeartbeats 2000000 in
theorem law_sweeps (A Aq : Option Addr) (c cq : Nat) (os : List OpC) (m : Int) (qs : List Int) (w : World) (hat : OpsAt (fun g => g < w.heap.size) w A os) (hol : os.length ≤ 9223372036854775807) (hwf : OpsWf os) (hqs : Row (fun g => g < w.heap.size) w Aq (u64s qs)) (hql : qs.length * 8 ≤ 140737488351232) (hm : U64 m) :
    Calls Try.prog 4 #[.slice A os.length c, .int .u64 m, .slice Aq qs.length cq] w fun e w' => e = .returned (.bool true) ∧ Below w.heap.size w w' := by
  have HQS := Lib.hid hqs
  clear hqs
  have HAW := Lib.hid (awake_any w)
  have HNEW : Hid (∀ W, Calls Try.prog 9 #[.slice none 0 0] W fun e w' => NewGave (fun _ => True) W [] e w') := fun W => new_any (fun _ => True) (fun _ => True) (fun _ => True) none 0 [] W VersAt.nil (by simp) (by simp) (fun _ _ => trivial)
  have HAT := Lib.hid hat
  have HWF := Lib.hid hwf
  clear hat hwf
  go_enter Try.func4, Try.ntmps4
  go_wp2_with fail
  refine (HAW.out).mono ?_
  rintro e w1 ⟨rfl, hb1⟩
  have HB1 := Lib.hid hb1
  clear HAW hb1
  go_wp2_with fail
  refine (HNEW.out _).mono ?_
  rintro e w2 ⟨hb2, ⟨_, v, rfl, L2⟩ | ⟨h, _⟩⟩
  case inr => exact absurd rfl h
  have HB2 := Lib.hid (HB1.out.trans (hb2.mono HB1.out.size))
  have HL2 := Lib.hid L2
  have hb1s : w.heap.size ≤ w1.heap.size := HB1.out.size
  clear hb2 L2 HNEW
  go_wp2_with fail
  go_loopw [9, 10, 32] (fun _ _ i wr => ∃ (k : Nat) (v : Value) (vs : List Ver), k ≤ os.length ∧ i = .int .i64 k ∧ GoodC vs ∧ vs.length ≤ k ∧ vs.length ≤ 40 ∧ Chn (fun _ => True) wr w1.heap.size w1.heap.size v vs ∧ Below w.heap.size w wr) (fun _ _ i _ => os.length - (intOf i).toNat)
  case atStart => exact ⟨0, v, [], Nat.zero_le _, rfl, GoodC.nil, Nat.le_refl _, Nat.zero_le _, HL2.out, HB2.out⟩
  case round =>
    obtain ⟨k, v, vs, hk, rfl, hg, hl1, hl2, hL, hbl⟩ := hrel
    by_cases hlt : k < os.length
    · obtain ⟨ad, rfl, j1, j2, a0, a1, ⟨X, cx, a2, j3, hrow⟩, a3⟩ := (HAT.out.kept hbl.size fun g hg _ => hbl.block g hg) k hlt
      clear j1 j2
      have hwo := HWF.out _ (List.getElem_mem hlt)
      have i1 : (k : Int) < (os.length : Int) := by omega
      obtain ⟨wa, hwa⟩ : ∃ x, x = wr.alloc (.cells #[.int .u8 os[k].1, .int .u64 os[k].2.1, .slice X os[k].2.2.1.length cx, .int .u64 os[k].2.2.2] 32) := ⟨_, rfl⟩
      have hba : Below wr.heap.size wr wa := by rw [hwa]; exact (Below.refl _ _).alloc (Nat.le_refl _) _
      have hBA : Below w.heap.size w wa := hbl.trans (hba.mono hbl.size)
      by_cases h40 : k < 40
      · have hbox : wa.heap[wr.heap.size]? = some (.cells #[.int .u8 os[k].1, .int .u64 os[k].2.1, .slice X os[k].2.2.1.length cx, .int .u64 os[k].2.2.2] 32 (0, 0)) := by rw [hwa]; exact heap_alloc_new wr _
        have hsa : wr.heap.size < wa.heap.size := lt_of_block hbox
        have KQ : Hid (∀ W, Below wa.heap.size wa W → W.cell? ⟨wr.heap.size, 1, none⟩ = some (.int .u64 os[k].2.1) ∧ W.cell? ⟨wr.heap.size, 2, none⟩ = some (.slice X os[k].2.2.1.length cx)) := fun W hW => by
          have := (hW.block _ hsa).trans hbox
          exact ⟨by simp [World.cell?, this], by simp [World.cell?, this]⟩
        have HCUT : Hid (Calls Try.prog 13 #[.slice X os[k].2.2.1.length cx, .int .i64 10] wa.drew fun e w' => GivesF wa (i32s (os[k].2.2.1.take 10)) e w') := by
          have := cutVecF_any _ X cx 10 os[k].2.2.1 wa.drew ((hrow.below hba).drew) j3 hwo.2.2.2.1 (by decide)
          exact this.mono fun e w' ⟨A1, c1, e1, e2, e3, e4, e5⟩ => ⟨A1, c1, e1, e2, e3, e4, ⟨e5.os, e5.tape, e5.output, e5.size, e5.block⟩⟩
        have HPUT : Hid (∀ W X1 c1, Below wa.heap.size wa W → Row (fun g => wa.heap.size ≤ g) W X1 (i32s (os[k].2.2.1.take 10)) → Calls Try.prog 14 #[.pointer (some ⟨w1.heap.size, 0, none⟩), .agg #[.int .u64 os[k].2.1, .slice X1 (os[k].2.2.1.take 10).length c1]] W fun e w' => ∃ r : Int, e = .returned (.int .i64 r) ∧ (w'.cell? ⟨wr.heap.size, 1, none⟩ = some (.int .u64 os[k].2.1) ∧ w'.cell? ⟨wr.heap.size, 2, none⟩ = some (.slice X os[k].2.2.1.length cx)) ∧ ∃ v' vs', GoodC vs' ∧ vs'.length ≤ k + 1 ∧ vs'.length ≤ 40 ∧ Chn (fun _ => True) w' w1.heap.size w1.heap.size v' vs' ∧ Below w.heap.size w w') := fun W X1 c1 hW hr => by
          refine (put_any _ (fun _ => True) w1.heap.size w1.heap.size v vs (os[k].2.1, os[k].2.2.1.take 10) X1 c1 W ((hL.below hba).below hW) (by omega) hr (by simp; omega) (fun _ _ => trivial)).mono ?_
          rintro e w' ⟨e1, v', L', C'⟩
          have hlow := (hL.lt).1
          have hvl : ∀ g, v.ownBlock = some g → w1.heap.size ≤ g ∧ g < wr.heap.size := fun g e => hL.low e
          have hbx : w'.heap[wr.heap.size]? = some (.cells #[.int .u8 os[k].1, .int .u64 os[k].2.1, .slice X os[k].2.2.1.length cx, .int .u64 os[k].2.2.2] 32 (0, 0)) := by
            rw [C'.block _ (Nat.lt_of_lt_of_le hsa hW.size) (by omega) (fun e => by have := (hvl _ e.symm).2; omega), hW.block _ hsa]; exact hbox
          exact ⟨_, e1, ⟨by simp [World.cell?, hbx], by simp [World.cell?, hbx]⟩, v', _, hg.put _, by have := putV_len vs (os[k].2.1, os[k].2.2.1.take 10); omega, by have := putV_len vs (os[k].2.1, os[k].2.2.1.take 10); omega, L', C'.below (hBA.trans (hW.mono hBA.size)) hb1s (fun g e => Nat.le_trans hb1s (hvl g e).1)⟩
        have h40' : (k : Int) < 40 := by omega
        have hci := i32s_len (os[k].2.2.1.take 10)
        obtain ⟨p1, p2⟩ := KQ.out wa (Below.refl _ _)
        have HWA := Lib.hid hwa
        clear hrow hwo hba hBA hbox hg hL hbl hwa
        unfold GivesF at HCUT
        rw [hci] at HCUT
        clear hci
        have HCW := Lib.hid hsa
        generalize os[k].2.1 = si at *
        generalize (os[k].2.2.1.take 10) = tv at *
        generalize os[k].2.2.1.length = xl at *
        generalize os[k].1 = di at *
        generalize os[k].2.2.2 = qi at *
        go_wp2_with fail
        rw [← HWA.out]
        clear HWA a0 a1 a2 a3
        go_region_held3 (fun w' => w'.cell? ⟨wr.heap.size, 1, none⟩ = some (.int .u64 si) ∧ w'.cell? ⟨wr.heap.size, 2, none⟩ = some (.slice X xl cx)) (first | exact ⟨p1, p2⟩ | exact hS5 | exact hS6)
          (first
            | (go_at_call 13; refine (HCUT.out).mono ?_; rintro e w5 ⟨A5, c5, rfl, hc5, r5, f5, hb5⟩; have hS5 := KQ.out w5 hb5)
            | (go_at_call 14; refine (HPUT.out _ _ _ hb5 r5).mono ?_; rintro e w6 ⟨er, rfl, hS6, v6, vs6, g6, l6, m6, L6, B6⟩)
            | fail)
        all_goals
          go_wp2_with fail
          go_roundw
          case rel => exact ⟨k + 1, v6, vs6, by omega, by go_num, g6, l6, m6, L6, B6⟩
          case measure => simp [intOf]; omega
      · have h40' : ¬ (k : Int) < 40 := by omega
        have HF : Hid (Chn (fun _ => True) wa w1.heap.size w1.heap.size v vs ∧ Below w.heap.size w wa) := ⟨hL.below hba, hBA⟩
        clear hrow hwo hba hBA hL hbl
        subst hwa
        generalize os[k].2.1 = si at *
        generalize os[k].2.2.1.length = xl at *
        generalize os[k].1 = di at *
        generalize os[k].2.2.2 = qi at *
        go_wp2_with fail
        go_roundw
        case rel => exact ⟨k + 1, v, vs, by omega, by go_num, hg, by omega, hl2, HF.out.1, HF.out.2⟩
        case measure => simp [intOf]; omega
    · have i1 : ¬ (k : Int) < (os.length : Int) := by omega
      obtain ⟨wL, rfl⟩ : ∃ x, x = wr := ⟨wr, rfl⟩
      have HLL := Lib.hid hL
      have HBL := Lib.hid hbl
      have hlr := hL.lt.1
      have hn40 : vs.length ≤ 40 := hl2
      have HLIST := Lib.hid (list_any _ _ _ v vs wL hL (by omega) hg.len)
      have HATC : Hid (∀ W t, Below wL.heap.size wL W → Calls Try.prog 17 #[.pointer (some ⟨w1.heap.size, 0, none⟩), .int .u64 t] W fun e w' => GaveAt W (asOf vs t) e w') := fun W t hW => at_any _ _ _ v vs t W (hL.below hW) hg.rise (by omega) hg.len
      have HLEN : Hid (∀ W, Below wL.heap.size wL W → Calls Try.prog 23 #[.pointer (some ⟨w1.heap.size, 0, none⟩)] W fun e w' => e = .returned (.int .i64 (vs.length : Int)) ∧ W = w') := fun W hW => len_any _ _ _ v vs W (hL.below hW)
      have HG := Lib.hid hg
      clear hL hbl HAT hg
      go_wp2_with fail
      refine (HLIST.out).mono ?_
      rintro e w3 ⟨vl, rfl, hOF, hb3⟩
      obtain ⟨csl, hcl1, hcl2, _⟩ := hOF
      have hone := hcl2.oneCell
      have hlen2 := hcl2.1
      obtain ⟨Al, cl, rfl, hcl, hatl⟩ := Cells2.versAt (T := fun _ => True) (K := fun _ => True) hcl1 hcl2 rfl (fun _ _ _ => trivial) (fun _ _ _ => trivial)
      have hnews : ∀ j u, csl[j]? = some u → ∃ ad, Al = some ad ∧ w3.cell? (ad.add j) = some u := fun j u hj => by
        rcases hcl1.2 with ⟨_, e⟩ | ⟨g, cap, cur, e, _⟩
        · have := (List.getElem?_eq_some_iff.1 hj).1
          rw [hlen2, e] at this
          omega
        · injection e with e _ _
          exact ⟨⟨g, 0, none⟩, e, cells_vers (g := g) hcl1 (by rw [e]; rfl) j u hj⟩
      have HNEWS := Lib.hid hnews
      have HCELL := Lib.hid hcl2
      have HLN := Lib.hid hlen2
      have HONE := Lib.hid hone
      have HB3 := Lib.hid hb3
      have hb3s : wL.heap.size ≤ w3.heap.size := hb3.size
      have hown0 : w3.ownsRow w3.heap.size 41 2 (.slice none 0 0) 0 [] := World.ownsRow_nil w3 _ 41 2
      clear hatl hb3 HLIST hnews hcl1 hcl2 hlen2 hone
      go_wp2_with (at_builtin; refine wpList_append_first 51 41 Try.underlying51 Try.info41 _ rfl (.tmp 48) (.tmp 50) rfl w3.heap.size _ rfl hown0 Al vs.length cl csl rfl HLN.out HNEWS.out HONE.out ?c1 ?c2 ?_; rotate_right; intro A4 c4 w4 ho4 hg4 ha4)
      case c1 => omega
      case c2 => exact Nat.le_refl _
      have hb4 : Below w3.heap.size w3 w4 := ⟨hg4.os, hg4.tape, hg4.output, hg4.size, fun g hg => hg4.block g hg (show some g ≠ none by simp)⟩
      obtain ⟨A4', c4', e4, _, hat4⟩ := Cells2.versAt (T := fun _ => True) (K := fun _ => True) ho4 (HCELL.out.kept hb4.size fun g hg s => ⟨hb4.block g hg, s⟩) rfl (fun _ _ _ => trivial) (fun _ _ _ => trivial)
      injection e4 with e41 _ e43
      subst e41 e43
      have hpa : putAll [] vs = (vs, 0) := HG.out.putAll (vs := [])
      have hN4 := new_any (fun _ => True) (fun _ => True) (fun _ => True) A4 c4 vs w4 hat4 (by omega) HG.out.len (fun _ _ => trivial)
      have HN4 : Hid (Calls Try.prog 9 #[.slice A4 vs.length c4] w4 fun e w' => ∃ v5, e = .returned (.tuple #[.pointer (some ⟨w4.heap.size, 0, none⟩), .int .i64 0]) ∧ Chn (fun _ => True) w' w4.heap.size w4.heap.size v5 vs ∧ Below w4.heap.size w4 w') := by
        refine hN4.mono ?_
        rintro e w' ⟨hb, ⟨_, v5, e1, e2⟩ | ⟨h, _⟩⟩
        · rw [hpa] at e2; exact ⟨v5, e1, e2, hb⟩
        · rw [hpa] at h; exact absurd rfl h
      have HB4 := Lib.hid (HB3.out.trans (hb4.mono hb3s))
      clear hN4 hat4 ho4 hg4 ha4 hb4 hpa HNEWS HCELL HLN HONE HB3 hb3s hown0
      go_wp2_with fail
      refine (HN4.out).mono ?_
      rintro e w5 ⟨v5, rfl, L5, hb5⟩
      have HB5 := Lib.hid (HB4.out.trans (hb5.mono HB4.out.size))
      have hwl4 : wL.heap.size ≤ w4.heap.size := HB4.out.size
      obtain ⟨k, hk⟩ : ∃ x, x = swN vs m := ⟨_, rfl⟩
      obtain ⟨us, hus⟩ : ∃ x, x = vs.drop k := ⟨_, rfl⟩
      have hkl := swN_le vs m
      have hul : k + us.length = vs.length := by rw [hus, List.length_drop]; omega
      have hgu : GoodC us := by rw [hus]; exact HG.out.sub (List.drop_sublist _ _)
      have HAS : Hid (∀ t, m ≤ t → asOf us t = asOf vs t) := fun t ht => by rw [hus, hk]; exact asOf_drop HG.out.rise ht
      have HC1 : Hid (cnt us m ≤ 1) := by show _ ≤ _; rw [hus, hk]; exact cnt_left HG.out.rise m
      have HSW0 : Hid (swN us m = 0) := by show _ = _; rw [hus, hk]; exact swN_again HG.out.rise m
      have HSW : Hid (Calls Try.prog 12 #[.pointer (some ⟨w4.heap.size, 0, none⟩), .int .u64 m] w5 fun e w' => ∃ A c v', e = .returned (.slice A k c) ∧ Chn (fun _ => True) w' w4.heap.size w4.heap.size v' us ∧ Below wL.heap.size wL w') := by
        refine (sweep_any _ _ _ v5 vs m w5 L5 HG.out.rise (by omega)).mono ?_
        rintro e w' ⟨A, c, v', e1, _, e2, e3⟩
        rw [← hk] at e1 e2
        have hxl : (stamps (vs.take k)).length = k := by unfold stamps; rw [List.length_map, List.length_take]; omega
        rw [hxl] at e1
        rw [← hus] at e2
        exact ⟨A, c, v', e1, e2, e3.below HB5.out hwl4 (fun g e => Nat.le_trans hwl4 (L5.low e).1)⟩
      have HGU := Lib.hid hgu
      clear hk hus L5 hb5 HN4 hkl HB4 HB5 hgu
      go_wp2_with fail
      refine (HSW.out).mono ?_
      rintro e w6 ⟨A6, c6, v6, rfl, L6, hb6⟩
      have HL6 := Lib.hid L6
      have HB6 := Lib.hid hb6
      have HLB := Lib.hid (len_any _ _ _ v6 us w6 L6)
      have HLA := Lib.hid (HLEN.out w6 hb6)
      have hne : ((k : Int) + (us.length : Int) != (vs.length : Int)) = false := by simp; omega
      have hk40 : (k : Int) ≤ 40 := by omega
      have hu40 : (us.length : Int) ≤ 40 := by omega
      have hw6 : (w6.alloc (.cells #[.int .u64 m] 29)).ownsRow w6.heap.size 29 1 (.slice (some ⟨w6.heap.size, 0, none⟩) 1 1) 1 [.int .u64 m] := World.ownsRow_lit w6 #[.int .u64 m] 1 (Nat.le_refl _) (by decide) rfl
      have HW6 := Lib.hid hw6
      have HRQ : Hid (Row (fun g => g < w.heap.size) (w6.alloc (.cells #[.int .u64 m] 29)) Aq (u64s qs)) := HQS.out.kept (Nat.le_trans (HBL.out.trans (HB6.out.mono HBL.out.size)).size (by simp)) fun g hg _ => ((HBL.out.trans (HB6.out.mono HBL.out.size)).alloc (HBL.out.trans (HB6.out.mono HBL.out.size)).size _).block g hg
      have HQL : Hid ((u64s qs).length = qs.length) := u64s_len qs
      obtain ⟨i0, hi0, hz0, hz1, hz2⟩ := info_parts Try.info29
      clear L6 hb6 HSW hw6
      go_wp2_with fail
      refine (HLB.out).mono ?_
      rintro e wx ⟨rfl, rfl⟩
      go_wp2_with fail
      refine (HLA.out).mono ?_
      rintro e wx ⟨rfl, rfl⟩
      clear HLB HLA
      go_wp2_with (at_builtin; refine wpList_append_row _ rfl (.tmp 71) (.tmp 72) 33 rfl w6.heap.size 29 i0 (.int .u64 0) 8 Try.underlying33 hi0 hz0 hz1 hz2 rfl _ 1 _ rfl HW6.out (fun g => g < w.heap.size) Aq qs.length cq (u64s qs) rfl HQL.out HRQ.out (ints_oneCell _ _) ?c3 ?c4 ?c5 ?_; rotate_right; intro A8 c8 w8 ho8 hg8 ha8)
      case c3 => unfold maxLen; omega
      case c4 => omega
      case c5 => simp
      have hb8 : Below w6.heap.size w6 w8 := ((Below.refl _ _).alloc (Nat.le_refl _) _).grown hg8 (by simp) (fun k e => by
        have e' : some w6.heap.size = some k := e
        injection e' with e'; omega)
      obtain ⟨A8', c8', e8, _, _, hr8⟩ := Row.of_own ho8
      injection e8 with e81 _ _
      subst e81
      obtain ⟨ts, hts⟩ : ∃ ts : List Int, ts = m :: qs := ⟨_, rfl⟩
      have htl : ts.length = 1 + qs.length := by rw [hts, List.length_cons]; omega
      have HR8 : Hid (Row (fun _ => True) w8 A8 (u64s ts)) := by rw [hts]; exact hr8.any
      have HB8 := Lib.hid (HB6.out.trans (hb8.mono HB6.out.size))
      have HB68 := Lib.hid hb8
      have HATB : Hid (∀ W t, Below w6.heap.size w6 W → Calls Try.prog 17 #[.pointer (some ⟨w4.heap.size, 0, none⟩), .int .u64 t] W fun e w' => GaveAt W (asOf us t) e w') := fun W t hW => at_any _ _ _ v6 us t W (HL6.out.below hW) HGU.out.rise (by omega) HGU.out.len
      have HAB : Hid (∀ W t, m ≤ t → Below w8.heap.size w8 W → ∃ al g, al.length ≤ 1000 ∧ (Calls Try.prog 17 #[.pointer (some ⟨w1.heap.size, 0, none⟩), .int .u64 t] W fun e w' => ∃ A c, e = .returned (.tuple #[.slice A al.length c, .bool g]) ∧ Row (fun _ => True) w' A (i32s al) ∧ Below w8.heap.size w8 w' ∧
          (Calls Try.prog 17 #[.pointer (some ⟨w4.heap.size, 0, none⟩), .int .u64 t] w' fun e w2 => ∃ B d, e = .returned (.tuple #[.slice B al.length d, .bool g]) ∧ Below w8.heap.size w8 w2 ∧
            (Calls Try.prog 16 #[.slice A al.length c, .slice B al.length d] w2 fun e w3 => e = .returned (.bool true) ∧ Below w8.heap.size w8 w3)))) := fun W t ht hW => by
        refine ⟨asOf vs t, !goneB (asOf vs t), asOf_len HG.out t, (HATC.out W t (HB8.out.trans (hW.mono HB8.out.size))).mono ?_⟩
        rintro e w' ⟨A, c, e1, _, e3, _, e5⟩
        have hW' := hW.trans (e5.mono hW.size)
        refine ⟨A, c, e1, e3.any, hW', ?_⟩
        have hB := HATB.out w' t (HB68.out.trans (hW'.mono HB68.out.size))
        rw [HAS.out t ht] at hB
        refine hB.mono ?_
        rintro e w2 ⟨B, d, f1, _, f3, _, f5⟩
        refine ⟨B, d, f1, hW'.trans (f5.mono hW'.size), ?_⟩
        have hs := sameVec_any _ _ A B c d (asOf vs t) (asOf vs t) w2 (e3.below f5) f3 (by have := asOf_len HG.out t; omega)
        rw [show ((asOf vs t) == (asOf vs t)) = true by simp] at hs
        exact hs.mono fun e w3 ⟨g1, g2⟩ => ⟨g1, (hW'.trans (f5.mono hW'.size)).trans (g2.mono (hW'.trans (f5.mono hW'.size)).size)⟩
      have hts64 : (1 + qs.length : Int) ≤ 17592186044416 := by omega
      clear hb8 hr8 ho8 hg8 ha8 HW6 HRQ HQL hts
      rw [← htl]
      go_wp2_with fail
      go_loopw [15, 16, 17, 18, 19, 20, 75] (fun _ _ _ _ _ _ i wr => ∃ j : Nat, j ≤ ts.length ∧ i = .int .i64 j ∧ Below w8.heap.size w8 wr) (fun _ _ _ _ _ _ i _ => ts.length - (intOf i).toNat)
      case atStart => exact ⟨0, Nat.zero_le _, rfl, Below.refl _ _⟩
      case round =>
        obtain ⟨j, hj, rfl, hbr⟩ := hrel
        by_cases hgo : j < ts.length ∧ j < 20
        · obtain ⟨hj1, hj2⟩ := hgo
          have i2 : (j : Int) < (ts.length : Int) := by omega
          have i3 : ¬ (20 : Int) ≤ (j : Int) := by omega
          obtain ⟨ad, rfl, _, _, d0⟩ := (HR8.out.below hbr) j (by rw [u64s_len]; exact hj1)
          rw [u64s_at hj1] at d0
          generalize ts[j] = t at *
          have HBR := Lib.hid hbr
          clear hbr
          by_cases hmt : m ≤ t
          · obtain ⟨al, g, hal, hcall⟩ := HAB.out wr t hmt HBR.out
            have HCALL := Lib.hid hcall
            clear hcall HAB HATB HATC
            go_wp2_with fail
            refine (HCALL.out).mono ?_
            rintro e w9 ⟨A9, c9, rfl, r9, b9, h9⟩
            have H9 := Lib.hid h9
            clear r9 b9 h9 HCALL
            go_wp2_with fail
            refine (H9.out).mono ?_
            rintro e w10 ⟨A10, c10, rfl, b10, h10⟩
            have H10 := Lib.hid h10
            clear b10 h10 H9
            cases g <;>
            · go_wp2_with fail
              refine (H10.out).mono ?_
              rintro e w11 ⟨rfl, b11⟩
              go_wp2_with fail
              go_roundw
              case rel => exact ⟨j + 1, by omega, by go_num, b11⟩
              case measure => simp [intOf]; omega
          · obtain ⟨al, g, hal, hcall⟩ := HAB.out wr m (Int.le_refl m) HBR.out
            have HCALL := Lib.hid hcall
            clear hcall HAB HATB HATC
            go_wp2_with fail
            refine (HCALL.out).mono ?_
            rintro e w9 ⟨A9, c9, rfl, r9, b9, h9⟩
            have H9 := Lib.hid h9
            clear r9 b9 h9 HCALL
            go_wp2_with fail
            refine (H9.out).mono ?_
            rintro e w10 ⟨A10, c10, rfl, b10, h10⟩
            have H10 := Lib.hid h10
            clear b10 h10 H9
            cases g <;>
            · go_wp2_with fail
              refine (H10.out).mono ?_
              rintro e w11 ⟨rfl, b11⟩
              go_wp2_with fail
              go_roundw
              case rel => exact ⟨j + 1, by omega, by go_num, b11⟩
              case measure => simp [intOf]; omega
        · obtain ⟨wB, rfl⟩ : ∃ x, x = wr := ⟨wr, rfl⟩
          have HBW := Lib.hid (HB68.out.trans (hbr.mono HB68.out.size))
          have HBW2 := Lib.hid (HB8.out.trans (hbr.mono HB8.out.size))
          have HLISTB := Lib.hid (list_any _ _ _ v6 us wB (HL6.out.below HBW.out) (by omega) HGU.out.len)
          have hnl : 20 ≤ j ∨ j = ts.length := by omega
          have HCELL : Hid (j < ts.length → ∃ ad t, A8 = some ad ∧ wB.cell? (ad.add j) = some (.int .u64 t)) := fun hj1 => by
            obtain ⟨ad, e, _, _, d0⟩ := (HR8.out.below hbr) j (by rw [u64s_len]; exact hj1)
            rw [u64s_at hj1] at d0
            exact ⟨ad, _, e, d0⟩
          clear HAB HATB HATC hbr hgo
          by_cases hj1 : j < ts.length
          case' pos =>
            obtain ⟨ad, t, rfl, d0⟩ := HCELL.out hj1
            have i2 : (j : Int) < (ts.length : Int) := by omega
            have i3 : (20 : Int) ≤ (j : Int) := by omega
          case' neg =>
            have i2 : ¬ (j : Int) < (ts.length : Int) := by omega
          all_goals
            clear HCELL
            go_wp2_with fail
            refine (HLISTB.out).mono ?_
            rintro e w9 ⟨vl9, rfl, hOF9, hb9⟩
            obtain ⟨Al9, cl9, rfl, hcl9, hatl9⟩ := hOF9.own.vers
            have HATL := Lib.hid hatl9
            have HB9 := Lib.hid (HBW.out.trans (hb9.mono HBW.out.size))
            have HB9L := Lib.hid (HBW2.out.trans (hb9.mono HBW2.out.size))
            have hul40 : us.length ≤ 40 := by omega
            clear hOF9 hatl9 hb9 HLISTB
            go_wp2_with fail
            go_loopw [21, 23, 110] (fun x _ i wr => ∃ q : Nat, q ≤ us.length ∧ i = .int .i64 q ∧ x = .int .i64 (cnt (us.take q) m : Nat) ∧ Below w9.heap.size w9 wr) (fun _ _ i _ => us.length - (intOf i).toNat)
            case atStart => exact ⟨0, Nat.zero_le _, rfl, rfl, Below.refl _ _⟩
            case round =>
              obtain ⟨q, hq, rfl, rfl, hbq⟩ := hrel
              by_cases hql2 : q < us.length
              · obtain ⟨bd, rfl, q1, q2, b0, Y, cy, b1, q3, q4⟩ := (HATL.out.below hbq) q hql2
                clear q1 q2 q3 q4
                have j2 : (q : Int) < (us.length : Int) := by omega
                have hst := cnt_step (s := m) hql2
                have hcq := cnt_le (us.take q) m
                rw [List.length_take] at hcq
                have HBN := Lib.hid (show Below w9.heap.size w9 (wr.alloc (.cells #[.int .u64 us[q].1, .slice Y us[q].2.length cy] 41)) from hbq.alloc hbq.size _)
                have hcq2 : cnt (us.take q) m ≤ 40 := by omega
                by_cases hle : us[q].1 ≤ m
                · rw [if_pos hle] at hst
                  have HS := Lib.hid hst
                  clear hst hbq hcq
                  generalize us[q].1 = xi at *
                  generalize us[q].2.length = xl at *
                  generalize cnt (us.take q) m = cn at *
                  go_wp2_with fail
                  go_roundw
                  case rel => exact ⟨q + 1, by omega, by go_num, by rw [HS.out]; go_num, HBN.out⟩
                  case measure => simp [intOf]; omega
                · rw [if_neg hle] at hst
                  have HS := Lib.hid hst
                  clear hst hbq hcq
                  generalize us[q].1 = xi at *
                  generalize us[q].2.length = xl at *
                  generalize cnt (us.take q) m = cn at *
                  go_wp2_with fail
                  go_roundw
                  case rel => exact ⟨q + 1, by omega, by go_num, by rw [HS.out]; go_num, HBN.out⟩
                  case measure => simp [intOf]; omega
              · have j2 : ¬ (q : Int) < (us.length : Int) := by omega
                rw [List.take_of_length_le (by omega)]
                have hc1 := HC1.out
                have hc1' : ((cnt us m : Nat) : Int) ≤ 1 := by omega
                have HSW2 : Hid (Calls Try.prog 12 #[.pointer (some ⟨w4.heap.size, 0, none⟩), .int .u64 m] wr fun e w' => ∃ A c, e = .returned (.slice A 0 c) ∧ Below w.heap.size w w') := by
                  have L9 := HL6.out.below (HB9.out.trans (hbq.mono HB9.out.size))
                  refine (sweep_any _ _ _ v6 us m wr L9 HGU.out.rise (by omega)).mono ?_
                  rintro e w' ⟨A, c, v', e1, _, _, e3⟩
                  rw [HSW0.out] at e1
                  exact ⟨A, c, e1, HBL.out.trans ((e3.below (HB9L.out.trans (hbq.mono HB9L.out.size)) hwl4 (fun g e => Nat.le_trans hwl4 (L9.low e).1)).mono HBL.out.size)⟩
                clear hbq HATL hc1
                generalize cnt us m = cn at *
                go_wp2_with fail
                refine (HSW2.out).mono ?_
                rintro e w11 ⟨A11, c11, rfl, b11⟩
                go_wp2_with fail
                go_ret
                exact ⟨rfl, b11⟩

end Go.Proofs.Ytphcakhhjjdpiaa
