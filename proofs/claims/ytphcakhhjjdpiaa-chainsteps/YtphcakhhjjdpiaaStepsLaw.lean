/-
  The walk of ChainSteps.
-/
import Derived.Test.YtphcakhhjjdpiaaOpen
namespace Go.Proofs.Ytphcakhhjjdpiaa
open Go.RowKit

/-- the last stamp at or below s -/
def lastAt (vs : List Ver) (s : Int) : Int := ((vs.filter fun v => decide (v.1 ≤ s)).getLastD (0, [])).1
theorem lastAt_step {vs : List Ver} {s : Int} {k : Nat} (h : k < vs.length) : lastAt (vs.take (k + 1)) s = if vs[k].1 ≤ s then vs[k].1 else lastAt (vs.take k) s := by
  unfold lastAt
  rw [List.take_succ_eq_append_getElem h, List.filter_append]
  by_cases h1 : vs[k].1 ≤ s
  · rw [if_pos h1, List.filter_cons_of_pos (by simpa using h1), List.filter_nil, List.getLastD_eq_getLast?, List.getLast?_concat]
    rfl
  · rw [if_neg h1, List.filter_cons_of_neg (by simpa using h1), List.filter_nil, List.append_nil]
theorem lastAt_zero {vs : List Ver} (hg : GoodC vs) (s : Int) (h : cnt vs s = 0) : lastAt vs s = 0 ∧ asOf vs s = [] ∧ asOf vs 0 = [] := by
  refine ⟨?_, hg.rise.asOf0 s h, ?_⟩
  · unfold lastAt; rw [hg.rise.filter, h]; rfl
  · unfold asOf
    rw [List.filter_eq_nil_iff.2 (fun x hx => by have := (hg.st x hx).1; simp; omega)]
    rfl
theorem lastAt_pos {vs : List Ver} (hg : GoodC vs) (s : Int) (h : cnt vs s ≠ 0) : 1 ≤ lastAt vs s ∧ asOf vs (lastAt vs s) = asOf vs s := by
  obtain ⟨m, hm⟩ : ∃ m, cnt vs s = m + 1 := ⟨cnt vs s - 1, by omega⟩
  have hml : m < vs.length := by have := cnt_le vs s; omega
  have h1 : lastAt vs s = vs[m].1 := by
    unfold lastAt
    rw [hg.rise.filter, hm, List.take_succ_eq_append_getElem hml, List.getLastD_eq_getLast?, List.getLast?_concat]
    rfl
  have hp : PartsAt vs (vs[m].1) (m + 1) := ⟨by omega, fun j hj hjm => by
    rcases Nat.lt_or_ge j m with h | h
    · exact Int.le_of_lt (hg.rise.at_lt hj hml h)
    · obtain rfl : j = m := by omega
      exact Int.le_refl _, fun j hj hjm => hg.rise.at_lt hml hj (by omega)⟩
  rw [h1]
  exact ⟨(hg.st _ (List.getElem_mem hml)).1, by rw [hg.rise.asOf1 _ m hp.cnt.symm hml, hg.rise.asOf1 _ m hm hml]⟩

/-- A chain that a law has made, whatever it holds. -/
def InLaw (w w1 wr : World) (b n : Nat) : Prop := ∃ v vs, GoodC vs ∧ vs.length ≤ n ∧ Chn (fun _ => True) wr w1.heap.size b v vs ∧ Below w.heap.size w wr
def InLaw1 (w w1 : World) (b n : Nat) (e : Ending) (w' : World) : Prop := ∃ k : Int, e = .returned (.int .i64 k) ∧ InLaw w w1 w' b n ∧ (∀ g, g < w1.heap.size → w'.heap[g]? = w.heap[g]?)

set_option maxRecDepth 100000 in
set_option maxHeartbeats 2000000 in
theorem law_steps (A : Option Addr) (c : Nat) (os : List OpC) (s : Int) (w : World) (hat : OpsAt (fun g => g < w.heap.size) w A os) (hol : os.length ≤ 9223372036854775807) (hwf : OpsWf os) :
    Calls Try.prog 6 #[.slice A os.length c, .int .u64 s] w fun e w' => e = .returned (.bool true) ∧ Below w.heap.size w w' := by
  have HAW := Lib.hid (awake_any w)
  have HNEW : Hid (∀ W, Calls Try.prog 9 #[.slice none 0 0] W fun e w' => NewGave (fun _ => True) W [] e w') := fun W => new_any (fun _ => True) (fun _ => True) (fun _ => True) none 0 [] W VersAt.nil (by simp) (by simp) (fun _ _ => trivial)
  have HAT := Lib.hid hat
  have HWF := Lib.hid hwf
  clear hat hwf
  go_enter Try.func6, Try.ntmps6
  go_wp2_with fail
  refine (HAW.out).mono ?_
  rintro e w1 ⟨rfl, hb1⟩
  have HB1 := Lib.hid hb1
  clear HAW hb1
  go_wp2_with fail
  refine (HNEW.out _).mono ?_
  rintro e w2 ⟨hb2, ⟨_, v, rfl, L2⟩ | ⟨h, _⟩⟩
  case inr => exact absurd rfl h
  have HB2 := Lib.hid (HB1.out.trans (hb2.mono HB1.out.size))
  have HL2 := Lib.hid L2
  have hb1s : w.heap.size ≤ w1.heap.size := HB1.out.size
  clear hb2 L2 HNEW
  go_wp2_with fail
  go_loopw [7, 8, 24] (fun _ _ i wr => ∃ (k : Nat) (v : Value) (vs : List Ver), k ≤ os.length ∧ i = .int .i64 k ∧ GoodC vs ∧ vs.length ≤ k ∧ vs.length ≤ 40 ∧ Chn (fun _ => True) wr w1.heap.size w1.heap.size v vs ∧ Below w.heap.size w wr) (fun _ _ i _ => os.length - (intOf i).toNat)
  case atStart => exact ⟨0, v, [], Nat.zero_le _, rfl, GoodC.nil, Nat.le_refl _, Nat.zero_le _, HL2.out, HB2.out⟩
  case round =>
    obtain ⟨k, v, vs, hk, rfl, hg, hl1, hl2, hL, hbl⟩ := hrel
    by_cases hlt : k < os.length
    · obtain ⟨ad, rfl, j1, j2, a0, a1, ⟨X, cx, a2, j3, hrow⟩, a3⟩ := (HAT.out.kept hbl.size fun g hg _ => hbl.block g hg) k hlt
      clear j1 j2
      have hwo := HWF.out _ (List.getElem_mem hlt)
      have i1 : (k : Int) < (os.length : Int) := by omega
      obtain ⟨wa, hwa⟩ : ∃ x, x = wr.alloc (.cells #[.int .u8 os[k].1, .int .u64 os[k].2.1, .slice X os[k].2.2.1.length cx, .int .u64 os[k].2.2.2] 32) := ⟨_, rfl⟩
      have hba : Below wr.heap.size wr wa := by rw [hwa]; exact (Below.refl _ _).alloc (Nat.le_refl _) _
      have hBA : Below w.heap.size w wa := hbl.trans (hba.mono hbl.size)
      by_cases h40 : k < 40
      · have hbox : wa.heap[wr.heap.size]? = some (.cells #[.int .u8 os[k].1, .int .u64 os[k].2.1, .slice X os[k].2.2.1.length cx, .int .u64 os[k].2.2.2] 32 (0, 0)) := by rw [hwa]; exact heap_alloc_new wr _
        have hsa : wr.heap.size < wa.heap.size := lt_of_block hbox
        have KQ : Hid (∀ W, Below wa.heap.size wa W → W.cell? ⟨wr.heap.size, 1, none⟩ = some (.int .u64 os[k].2.1) ∧ W.cell? ⟨wr.heap.size, 2, none⟩ = some (.slice X os[k].2.2.1.length cx)) := fun W hW => by
          have := (hW.block _ hsa).trans hbox
          exact ⟨by simp [World.cell?, this], by simp [World.cell?, this]⟩
        have HCUT : Hid (Calls Try.prog 13 #[.slice X os[k].2.2.1.length cx, .int .i64 10] wa.drew fun e w' => GivesF wa (i32s (os[k].2.2.1.take 10)) e w') := by
          have := cutVecF_any _ X cx 10 os[k].2.2.1 wa.drew ((hrow.below hba).drew) j3 hwo.2.2.2.1 (by decide)
          exact this.mono fun e w' ⟨A1, c1, e1, e2, e3, e4, e5⟩ => ⟨A1, c1, e1, e2, e3, e4, ⟨e5.os, e5.tape, e5.output, e5.size, e5.block⟩⟩
        have HPUT : Hid (∀ W X1 c1, Below wa.heap.size wa W → Row (fun g => wa.heap.size ≤ g) W X1 (i32s (os[k].2.2.1.take 10)) → Calls Try.prog 14 #[.pointer (some ⟨w1.heap.size, 0, none⟩), .agg #[.int .u64 os[k].2.1, .slice X1 (os[k].2.2.1.take 10).length c1]] W fun e w' => ∃ r : Int, e = .returned (.int .i64 r) ∧ (w'.cell? ⟨wr.heap.size, 1, none⟩ = some (.int .u64 os[k].2.1) ∧ w'.cell? ⟨wr.heap.size, 2, none⟩ = some (.slice X os[k].2.2.1.length cx)) ∧ ∃ v' vs', GoodC vs' ∧ vs'.length ≤ k + 1 ∧ vs'.length ≤ 40 ∧ Chn (fun _ => True) w' w1.heap.size w1.heap.size v' vs' ∧ Below w.heap.size w w') := fun W X1 c1 hW hr => by
          refine (put_any _ (fun _ => True) w1.heap.size w1.heap.size v vs (os[k].2.1, os[k].2.2.1.take 10) X1 c1 W ((hL.below hba).below hW) (by omega) hr (by simp; omega) (fun _ _ => trivial)).mono ?_
          rintro e w' ⟨e1, v', L', C'⟩
          have hlow := (hL.lt).1
          have hvl : ∀ g, v.ownBlock = some g → w1.heap.size ≤ g ∧ g < wr.heap.size := fun g e => hL.low e
          have hbx : w'.heap[wr.heap.size]? = some (.cells #[.int .u8 os[k].1, .int .u64 os[k].2.1, .slice X os[k].2.2.1.length cx, .int .u64 os[k].2.2.2] 32 (0, 0)) := by
            rw [C'.block _ (Nat.lt_of_lt_of_le hsa hW.size) (by omega) (fun e => by have := (hvl _ e.symm).2; omega), hW.block _ hsa]; exact hbox
          exact ⟨_, e1, ⟨by simp [World.cell?, hbx], by simp [World.cell?, hbx]⟩, v', _, hg.put _, by have := putV_len vs (os[k].2.1, os[k].2.2.1.take 10); omega, by have := putV_len vs (os[k].2.1, os[k].2.2.1.take 10); omega, L', C'.below (hBA.trans (hW.mono hBA.size)) hb1s (fun g e => Nat.le_trans hb1s (hvl g e).1)⟩
        have h40' : (k : Int) < 40 := by omega
        have hci := i32s_len (os[k].2.2.1.take 10)
        obtain ⟨p1, p2⟩ := KQ.out wa (Below.refl _ _)
        have HWA := Lib.hid hwa
        clear hrow hwo hba hBA hbox hg hL hbl hwa
        unfold GivesF at HCUT
        rw [hci] at HCUT
        clear hci
        have HCW := Lib.hid hsa
        generalize os[k].2.1 = si at *
        generalize (os[k].2.2.1.take 10) = tv at *
        generalize os[k].2.2.1.length = xl at *
        generalize os[k].1 = di at *
        generalize os[k].2.2.2 = qi at *
        go_wp2_with fail
        rw [← HWA.out]
        clear HWA a0 a1 a2 a3
        go_region_held3 (fun w' => w'.cell? ⟨wr.heap.size, 1, none⟩ = some (.int .u64 si) ∧ w'.cell? ⟨wr.heap.size, 2, none⟩ = some (.slice X xl cx)) (first | exact ⟨p1, p2⟩ | exact hS5 | exact hS6)
          (first
            | (go_at_call 13; refine (HCUT.out).mono ?_; rintro e w5 ⟨A5, c5, rfl, hc5, r5, f5, hb5⟩; have hS5 := KQ.out w5 hb5)
            | (go_at_call 14; refine (HPUT.out _ _ _ hb5 r5).mono ?_; rintro e w6 ⟨er, rfl, hS6, v6, vs6, g6, l6, m6, L6, B6⟩)
            | fail)
        all_goals
          go_wp2_with fail
          go_roundw
          case rel => exact ⟨k + 1, v6, vs6, by omega, by go_num, g6, l6, m6, L6, B6⟩
          case measure => simp [intOf]; omega
      · have h40' : ¬ (k : Int) < 40 := by omega
        have HF : Hid (Chn (fun _ => True) wa w1.heap.size w1.heap.size v vs ∧ Below w.heap.size w wa) := ⟨hL.below hba, hBA⟩
        clear hrow hwo hba hBA hL hbl
        subst hwa
        generalize os[k].2.1 = si at *
        generalize os[k].2.2.1.length = xl at *
        generalize os[k].1 = di at *
        generalize os[k].2.2.2 = qi at *
        go_wp2_with fail
        go_roundw
        case rel => exact ⟨k + 1, v, vs, by omega, by go_num, hg, by omega, hl2, HF.out.1, HF.out.2⟩
        case measure => simp [intOf]; omega
    · have i1 : ¬ (k : Int) < (os.length : Int) := by omega
      obtain ⟨wL, rfl⟩ : ∃ x, x = wr := ⟨wr, rfl⟩
      have HLL := Lib.hid hL
      have HBL := Lib.hid hbl
      have hlr := hL.lt.1
      have HLIST := Lib.hid (list_any _ _ _ v vs wL hL (by omega) hg.len)
      have HATC : Hid (∀ W t, Below wL.heap.size wL W → Calls Try.prog 17 #[.pointer (some ⟨w1.heap.size, 0, none⟩), .int .u64 t] W fun e w' => GaveAt W (asOf vs t) e w') := fun W t hW => at_any _ _ _ v vs t W (hL.below hW) hg.rise (by omega) hg.len
      have HG := Lib.hid hg
      clear hL hbl HAT hg
      go_wp2_with fail
      refine (HLIST.out).mono ?_
      rintro e w3 ⟨vl, rfl, hOF, hb3⟩
      obtain ⟨Al, cl, rfl, hcl, hatl⟩ := hOF.own.vers
      have HATL := Lib.hid hatl
      have HB3 := Lib.hid hb3
      clear hOF hatl hb3 HLIST
      go_wp2_with fail
      go_loopw [9, 11, 43] (fun x _ i wr => ∃ j : Nat, j ≤ vs.length ∧ i = .int .i64 j ∧ x = .int .u64 (lastAt (vs.take j) s) ∧ Below w3.heap.size w3 wr) (fun _ _ i _ => vs.length - (intOf i).toNat)
      case atStart => exact ⟨0, Nat.zero_le _, rfl, rfl, Below.refl _ _⟩
      case round =>
        obtain ⟨j, hj, rfl, rfl, hbq⟩ := hrel
        by_cases hjl : j < vs.length
        · obtain ⟨bd, rfl, q1, q2, b0, Y, cy, b1, q3, q4⟩ := (HATL.out.below hbq) j hjl
          clear q1 q2 q3 q4
          have i2 : (j : Int) < (vs.length : Int) := by omega
          have hst := lastAt_step (s := s) hjl
          have hbn : Below w3.heap.size w3 (wr.alloc (.cells #[.int .u64 vs[j].1, .slice Y vs[j].2.length cy] 41)) := hbq.alloc hbq.size _
          have HBN := Lib.hid hbn
          by_cases hle : vs[j].1 ≤ s
          · rw [if_pos hle] at hst
            have HS := Lib.hid hst
            clear hst hbn hbq
            generalize vs[j].1 = xi at *
            generalize vs[j].2.length = xl at *
            go_wp2_with fail
            go_roundw
            case rel => exact ⟨j + 1, by omega, by go_num, by rw [HS.out], HBN.out⟩
            case measure => simp [intOf]; omega
          · rw [if_neg hle] at hst
            have HS := Lib.hid hst
            clear hst hbn hbq
            generalize vs[j].1 = xi at *
            generalize vs[j].2.length = xl at *
            go_wp2_with fail
            go_roundw
            case rel => exact ⟨j + 1, by omega, by go_num, by rw [HS.out], HBN.out⟩
            case measure => simp [intOf]; omega
        · have i2 : ¬ (j : Int) < (vs.length : Int) := by omega
          rw [List.take_of_length_le (by omega)]
          have HBQ := Lib.hid (HB3.out.trans (hbq.mono HB3.out.size))
          have hA1 := HATC.out wr s HBQ.out
          clear hbq HATL
          obtain ⟨m, hm⟩ : ∃ x, x = lastAt vs s := ⟨_, rfl⟩
          have hdec : asOf vs m = asOf vs s ∧ ((0 < m) ∨ (¬ 0 < m ∧ asOf vs s = [])) := by
            rw [hm]
            by_cases h0 : cnt vs s = 0
            · obtain ⟨h1, h2, h3⟩ := lastAt_zero HG.out s h0
              rw [h1, h2, h3]
              exact ⟨rfl, .inr ⟨by decide, rfl⟩⟩
            · obtain ⟨h1, h2⟩ := lastAt_pos HG.out s h0
              exact ⟨h2, .inl (by omega)⟩
          have hA2 : Hid (∀ W, Below wL.heap.size wL W → Calls Try.prog 17 #[.pointer (some ⟨w1.heap.size, 0, none⟩), .int .u64 m] W fun e w' => GaveAt W (asOf vs s) e w') := fun W hW => by
            have := HATC.out W m hW
            rw [hdec.1] at this
            exact this
          rw [← hm]
          have hd2 := hdec.2
          have hln : (asOf vs s).length ≤ 1000 := by
            unfold asOf
            rw [List.getLastD_eq_getLast?]
            cases hv : (vs.filter fun v => decide (v.1 ≤ s)).getLast? with
            | none => simp
            | some y => exact HG.out.len y (List.mem_filter.1 (List.mem_of_getLast? hv)).1
          have HA1 := Lib.hid hA1
          clear hdec HATC hm hA1 HG
          generalize asOf vs s = al at *
          unfold GaveAt at HA1 hA2
          obtain ⟨gb, hgb⟩ : ∃ x, x = goneB al := ⟨_, rfl⟩
          rw [← hgb] at HA1 hA2
          have hgb2 : gb = false ∨ ¬ 0 < m ∨ 0 < m := by omega
          have HD : Hid (0 < m ∨ (¬ 0 < m ∧ gb = true)) := by
            rcases hd2 with h | ⟨h1, h2⟩
            · exact .inl h
            · exact .inr ⟨h1, by rw [hgb, h2]; rfl⟩
          clear hd2 hgb hgb2
          go_wp2_with fail
          refine (HA1.out).mono ?_
          rintro e w4 ⟨A4, c4, rfl, hc4, r4, _, hb4⟩
          have HB4 := Lib.hid (HBQ.out.trans (hb4.mono HBQ.out.size))
          have HR4 := Lib.hid r4
          clear hb4 r4 HA1
          go_wp2_with fail
          refine (hA2.out w4 HB4.out).mono ?_
          rintro e w5 ⟨A5, c5, rfl, hc5, r5, _, hb5⟩
          have HSV := Lib.hid (sameVec_any _ _ A4 A5 c4 c5 al al w5 (HR4.out.below hb5) r5 (by omega))
          have HB5 := Lib.hid (HBL.out.trans ((HB4.out.trans (hb5.mono HB4.out.size)).mono HBL.out.size))
          rw [show (al == al) = true from by simp] at HSV
          clear hb5 r5 hA2 HR4 HB4
          rcases HD.out with hm0 | ⟨hm0, rfl⟩
          · cases gb <;>
            · go_wp2_with fail
              refine (HSV.out).mono ?_
              rintro e w6 ⟨rfl, hb6⟩
              have HB6 := Lib.hid (HB5.out.trans (hb6.mono HB5.out.size))
              clear hb6
              go_wp2_with fail
              go_ret
              exact ⟨rfl, HB6.out⟩
          · go_wp2_with fail
            refine (HSV.out).mono ?_
            rintro e w6 ⟨rfl, hb6⟩
            have HB6 := Lib.hid (HB5.out.trans (hb6.mono HB5.out.size))
            clear hb6
            go_wp2_with fail
            go_ret
            exact ⟨rfl, HB6.out⟩

end Go.Proofs.Ytphcakhhjjdpiaa
