/-
  The walk of ChainPlays.
-/
import Derived.Test.YtphcakhhjjdpiaaHd
namespace Go.Proofs.Ytphcakhhjjdpiaa
open Go.RowKit

theorem asOf_len3 {vs : List Ver} (hg : GoodC vs) (t : Int) : (asOf vs t).length ≤ 1000 := by
  unfold asOf
  rw [List.getLastD_eq_getLast?]
  cases hv : (vs.filter fun v => decide (v.1 ≤ t)).getLast? with
  | none => simp
  | some y => exact hg.len y (List.mem_filter.1 (List.mem_of_getLast? hv)).1

/-- Where the script stands: the chain, the document's list. -/
structure PI (nb : Bool) (b : Nat) (w0 w : World) (n : Nat) (v : Value) (vs : List Ver) (Al : Option Addr) : Prop where
  hd : Hd nb (fun _ => True) w b b v vs
  lst : VersAt (Off b v) (Off b v) w Al vs
  good : GoodC vs
  len : vs.length ≤ n
  bel : Below w0.heap.size w0 w
  lob : w0.heap.size ≤ b
theorem PI.below {nb : Bool} {b n : Nat} {w0 w w' : World} {v : Value} {vs : List Ver} {Al : Option Addr} (h : PI nb b w0 w n v vs Al) (hb : Below w.heap.size w w') : PI nb b w0 w' n v vs Al :=
  ⟨h.hd.below hb, h.lst.below hb, h.good, h.len, h.bel.trans (hb.mono h.bel.size), h.lob⟩
theorem PI.more {nb : Bool} {b n m : Nat} {w0 w : World} {v : Value} {vs : List Ver} {Al : Option Addr} (h : PI nb b w0 w n v vs Al) (hm : n ≤ m) : PI nb b w0 w m v vs Al := ⟨h.hd, h.lst, h.good, Nat.le_trans h.len hm, h.bel, h.lob⟩

def boxO (o : OpC) (X : Option Addr) (cx : Nat) : Obj := .cells #[.int .u8 o.1, .int .u64 o.2.1, .slice X o.2.2.1.length cx, .int .u64 o.2.2.2] 32
/-- the call's box -/
structure Bx (w : World) (q : Nat) (o : OpC) (X : Option Addr) (cx : Nat) : Prop where
  c0 : w.cell? ⟨q, 0, none⟩ = some (.int .u8 o.1)
  c1 : w.cell? ⟨q, 1, none⟩ = some (.int .u64 o.2.1)
  c2 : w.cell? ⟨q, 2, none⟩ = some (.slice X o.2.2.1.length cx)
  c3 : w.cell? ⟨q, 3, none⟩ = some (.int .u64 o.2.2.2)
theorem bx_of {w : World} {q : Nat} {o : OpC} {X : Option Addr} {cx : Nat} (h : w.heap[q]? = some (boxO o X cx)) : Bx w q o X cx := by
  unfold boxO at h
  constructor <;> simp [World.cell?, h]

set_option maxRecDepth 100000 in
set_option maxHeartbeats 2000000 in
theorem law_plays (nb : Bool) (A : Option Addr) (c : Nat) (os : List OpC) (w : World) (hat : OpsAt (fun g => g < w.heap.size) w A os) (hol : os.length ≤ 9223372036854775807) (hwf : OpsWf os) :
    Calls Try.prog 3 #[.bool nb, .slice A os.length c] w fun e w' => e = .returned (.bool true) ∧ Below w.heap.size w w' := by
  have HAW := Lib.hid (awake_any w)
  have HNEW : Hid (∀ W, Calls Try.prog 9 #[.slice none 0 0] W fun e w' => NewGave (fun _ => True) W [] e w') := fun W => new_any (fun _ => True) (fun _ => True) (fun _ => True) none 0 [] W VersAt.nil (by simp) (by simp) (fun _ _ => trivial)
  have HAT := Lib.hid hat
  have HWF := Lib.hid hwf
  clear hat hwf
  go_enter Try.func3, Try.ntmps3
  go_wp2_with fail
  refine (HAW.out).mono ?_
  rintro e w1 ⟨rfl, hb1⟩
  have HB1 := Lib.hid hb1
  clear HAW hb1
  go_wp2_with fail
  refine (HNEW.out _).mono ?_
  rintro e w2 ⟨hb2, ⟨_, v, rfl, L2⟩ | ⟨h, _⟩⟩
  case inr => exact absurd rfl h
  have HP2 : Hid (PI nb w1.heap.size w w2 0 v [] none) := ⟨⟨L2, fun _ => rfl⟩, VersAt.nil, GoodC.nil, Nat.le_refl _, HB1.out.trans (hb2.mono HB1.out.size), HB1.out.size⟩
  clear hb2 L2 HNEW
  go_upto_if 27 with fail
  go_cut [5] (fun x wx => x = ptrOf nb w1.heap.size ∧ wx = w2)
  case first => cases nb <;> (go_wp2_with fail; go_meet; exact ⟨rfl, rfl⟩)
  case rest =>
    obtain ⟨rfl, hwc⟩ := hcut
    rw [hwc]
    clear hwc
    obtain ⟨b, hb⟩ : ∃ x, x = w1.heap.size := ⟨_, rfl⟩
    rw [← hb] at HP2 ⊢
    clear hb HB1
    go_wp2_with fail
    go_loopw [7, 8, 9, 10, 11, 12, 13, 14, 15, 16, 17, 18, 30] (fun x _ _ _ _ _ _ _ _ _ _ _ i wr => ∃ (k : Nat) (v : Value) (vs : List Ver) (Al : Option Addr) (cl : Nat), k ≤ os.length ∧ k ≤ 40 ∧ i = .int .i64 k ∧ x = .slice Al vs.length cl ∧ PI nb b w wr k v vs Al) (fun _ _ _ _ _ _ _ _ _ _ _ _ i _ => os.length - (intOf i).toNat)
    case atStart => exact ⟨0, v, [], none, 0, Nat.zero_le _, Nat.zero_le _, rfl, rfl, HP2.out⟩
    case round =>
      obtain ⟨k, v, vs, Al, cl, hk, hk40, rfl, rfl, P⟩ := hrel
      have hvl := P.len
      by_cases hgo : k < os.length ∧ k < 40
      · obtain ⟨hlt, h40⟩ := hgo
        obtain ⟨ad, rfl, j1, j2, a0, a1, ⟨X, cx, a2, j3, hrow⟩, a3⟩ := (HAT.out.kept P.bel.size fun g hg _ => P.bel.block g hg) k hlt
        have hwo := HWF.out _ (List.getElem_mem hlt)
        clear j1 j2
        obtain ⟨o, ho⟩ : ∃ o, o = os[k] := ⟨_, rfl⟩
        rw [← ho] at a0 a1 a2 a3 j3 hrow hwo
        clear ho
        have i1 : (k : Int) < (os.length : Int) := by omega
        have i2 : ¬ (40 : Int) ≤ (k : Int) := by omega
        obtain ⟨wa, hwa⟩ : ∃ x, x = wr.alloc (.cells #[.int .u8 o.1, .int .u64 o.2.1, .slice X o.2.2.1.length cx, .int .u64 o.2.2.2] 32) := ⟨_, rfl⟩
        have hba : Below wr.heap.size wr wa := by rw [hwa]; exact (Below.refl _ _).alloc (Nat.le_refl _) _
        have hqa : wa.heap[wr.heap.size]? = some (boxO o X cx) := by rw [hwa]; exact heap_alloc_new wr _
        have hsa : wr.heap.size < wa.heap.size := lt_of_block hqa
        have BX : Hid (∀ W : World, W.heap[wr.heap.size]? = wa.heap[wr.heap.size]? → Bx W wr.heap.size o X cx) := fun W h => bx_of (h.trans hqa)
        have PA := P.below hba
        have HPA := Lib.hid PA
        have hblt : b < wr.heap.size := P.hd.chn.lt.1
        have hvlt : Hid (∀ g, v.ownBlock = some g → g < wr.heap.size) := fun g e => (P.hd.chn.low e).2
        have HROW := Lib.hid (hrow.below hba)
        have HWA := Lib.hid hwa
        obtain ⟨q, hq⟩ : ∃ x, x = wr.heap.size := ⟨_, rfl⟩
        rw [← hq] at BX hsa hblt hvlt
        have HQ := Lib.hid hq
        have HWO := Lib.hid hwo
        clear hrow hwa hba hqa PA P hq hwo
        go_upto_if 40 with fail
        rw [← HWA.out, ← HQ.out]
        go_cut [7] (fun x wx => ∃ (v' : Value) (vs' : List Ver) (Al' : Option Addr) (cl' : Nat), x = .slice Al' vs'.length cl' ∧ PI nb b w wx (k + 1) v' vs' Al' ∧ Bx wx q o X cx)
        case first =>
          clear a0 a1 a2 a3 HWA HQ
          have BA := BX.out wa rfl
          obtain ⟨b0, b1, b2, b3⟩ := BA
          by_cases h5 : o.1 % 5 = 4
          · have r1 : (o.1 % 5 == 4) = true := by simpa using h5
            have r2 : (o.1.tmod 5 == 4) = true := by
              rw [Int.tmod_eq_emod_of_nonneg HWO.out.1.1]; exact r1
            have PA := HPA.out
            have hsl := swN_le vs o.2.1
            have HRS := Lib.hid (rsweep_any _ _ Al cl vs o.2.1 wa PA.lst PA.good.rise (by omega))
            have hss : (stamps (vs.take (swN vs o.2.1))).length ≤ 1000 := by unfold stamps; rw [List.length_map, List.length_take]; omega
            clear PA h5
            go_wp2_with fail
            refine (HRS.out).mono ?_
            rintro e w3 ⟨A3, c3, A4, c4, rfl, hat3, hr4, hb3⟩
            have BB := BX.out w3 (hb3.block _ hsa)
            obtain ⟨d0, d1, d2, d3⟩ := BB
            have HSW := Lib.hid (hd_sweep nb _ b b v vs o.2.1 w3 (HPA.out.hd.below hb3) HPA.out.good (by omega))
            have HAT3 := Lib.hid hat3
            have HR4 := Lib.hid hr4
            have HB3 := Lib.hid hb3
            clear hat3 hr4 hb3 HRS b0 b1 b2 b3
            go_wp2_with fail
            refine (HSW.out).mono ?_
            rintro e w4 ⟨A5, c5, v5, rfl, hr5, H5, C5⟩
            have hw3 : wa.heap.size ≤ w3.heap.size := HB3.out.size
            have hvw : ∀ g, wa.heap.size ≤ g → g ≠ b ∧ some g ≠ v.ownBlock := fun g hg => ⟨by omega, fun e => by have := hvlt.out g e.symm; omega⟩
            have hr4' : Row (fun g => wa.heap.size ≤ g) w4 A4 (u64s (stamps (vs.take (swN vs o.2.1)))) := HR4.out.kept C5.size fun g hg s => C5.block g hg (hvw g s).1 (hvw g s).2
            have HSN := Lib.hid (sameNums_yes _ _ A5 A4 c5 c4 _ w4 hr5 hr4' hss)
            have HL5 : Hid (VersAt (Off b v5) (Off b v5) w4 A3 (vs.drop (swN vs o.2.1))) := (HAT3.out.chg C5 (fun g _ s => hvw g s) (fun g _ s => s.2)).mono (fun g _ s => s.2.2) (fun g _ s => s.2.2)
            have HP5 : Hid (PI nb b w w4 (k + 1) v5 (vs.drop (swN vs o.2.1)) A3) := by
              have PA := HPA.out
              have hpb := PA.bel
              refine ⟨H5, HL5.out, PA.good.sub (List.drop_sublist _ _), by rw [List.length_drop]; omega, C5.below (hpb.trans (HB3.out.mono hpb.size)) PA.lob (fun g e => ?_), PA.lob⟩
              have := (PA.hd.chn.low e).1
              have := PA.lob
              omega
            have HBX4 : Hid (w4.heap[q]? = wa.heap[q]?) := by
              show _ = _
              rw [C5.block q (by omega) (by omega) (fun e => by have := hvlt.out q e.symm; omega), HB3.out.block q hsa]
            clear hr5 hr4' H5 C5 HSW HAT3 HR4 HB3 HL5 d0 d1 d2 d3
            go_wp2_with fail
            refine (HSN.out).mono ?_
            rintro e w6 ⟨rfl, hb6⟩
            have HP6 := Lib.hid (HP5.out.below hb6)
            have HB6 : Hid (Bx w6 q o X cx) := BX.out w6 ((hb6.block q (lt_of_block (by rw [HBX4.out]; exact (Array.getElem?_eq_getElem hsa)))).trans HBX4.out)
            clear hb6 HP5 HBX4 HSN
            go_wp2_with fail
            go_meet
            exact ⟨v5, _, A3, c3, by rw [List.length_drop], HP6.out, HB6.out⟩
          · have r1 : (o.1 % 5 == 4) = false := by simpa using h5
            have r2 : (o.1.tmod 5 == 4) = false := by
              rw [Int.tmod_eq_emod_of_nonneg HWO.out.1.1]; exact r1
            have hvk : o.2.2.1.length ≤ 9223372036854775807 := HWO.out.2.2.2.1
            have hc1 := cutVecF_any _ X cx 10 o.2.2.1 wa HROW.out j3 hvk (by decide)
            have hc2 : ∀ W, Below wa.heap.size wa W → Calls Try.prog 13 #[.slice X o.2.2.1.length cx, .int .i64 10] W fun e w' => GivesF W (i32s (o.2.2.1.take 10)) e w' := fun W hW => cutVecF_any _ X cx 10 o.2.2.1 W (HROW.out.below hW) j3 hvk (by decide)
            unfold GivesF at hc1 hc2
            rw [i32s_len] at hc1
            simp only [i32s_len] at hc2
            have hn10 : (o.2.2.1.take 10).length ≤ 10 := by rw [List.length_take]; omega
            have HC1 := Lib.hid hc1
            have HC2 := Lib.hid hc2
            clear hc1 hc2 h5 hvk
            obtain ⟨tv, htv⟩ : ∃ x, x = o.2.2.1.take 10 := ⟨_, rfl⟩
            rw [← htv] at HC1 hn10
            simp only [← htv] at HC2
            have HTV := Lib.hid htv
            clear htv
            go_wp2_with fail
            refine (HC1.out).mono ?_
            rintro e wm ⟨A5, c5, rfl, hc5, r5, f5, hb5⟩
            have hwm : wa.heap.size ≤ wm.heap.size := hb5.size
            have hHm : Hd nb (fun g => g < wa.heap.size ∨ wm.heap.size ≤ g) wm b b v vs := ((HPA.out.hd.mono (fun g hg _ => hg : ∀ g, g < wa.heap.size → True → g < wa.heap.size)).below hb5).mono fun g _ s => .inl s
            have hLm : VersAt (fun g => g < wa.heap.size ∧ Off b v g) (fun g => g < wa.heap.size ∧ Off b v g) wm Al vs := (HPA.out.lst.mono (fun g hg s => (⟨hg, s⟩ : g < wa.heap.size ∧ Off b v g)) (fun g hg s => (⟨hg, s⟩ : g < wa.heap.size ∧ Off b v g))).below hb5
            have HLM := Lib.hid hLm
            have HPUT := Lib.hid (hd_put nb _ (fun g => g < wa.heap.size ∨ wm.heap.size ≤ g) b b v vs (o.2.1, tv) A5 c5 wm hHm (by omega) r5 (by show tv.length ≤ 1000; omega) (fun g hg => .inr hg))
            have HFV := Lib.hid (flipV_of r5 f5)
            have HR5 := Lib.hid r5
            have HB5 := Lib.hid hb5
            have BB := BX.out wm (hb5.block _ hsa)
            obtain ⟨d0, d1, d2, d3⟩ := BB
            clear hHm hLm r5 f5 hb5 b0 b1 b2 b3 HC1
            go_wp2_with fail
            refine (HPUT.out).mono ?_
            rintro e wp ⟨rfl, v', H', C'⟩
            have hvw : ∀ g, wa.heap.size ≤ g → g ≠ b ∧ some g ≠ v.ownBlock := fun g hg => ⟨by omega, fun e => by have := hvlt.out g e.symm; omega⟩
            have hv'lo : ∀ g, v'.ownBlock = some g → ¬ (wa.heap.size ≤ g ∧ g < wm.heap.size) := fun g e => by
              rcases C'.new with e' | ⟨g', e', hg'⟩
              · have := hvlt.out g (e'.symm.trans e); omega
              · rw [e'] at e; injection e with e; omega
            have HVLO := Lib.hid hv'lo
            have HSP : Hid (wm.heap.size ≤ wp.heap.size) := C'.size
            have HRP : Hid (Row (fun g => wa.heap.size ≤ g) wp A5 (i32s tv)) := HR5.out.kept C'.size fun g hg s => C'.block g hg (hvw g s).1 (hvw g s).2
            have HFP : Hid (FlipV wa.heap.size wm.heap.size wp A5 tv.length) := HFV.out.kept fun g h1 h2 => C'.block g h2 (hvw g h1).1 (hvw g h1).2
            have HLP : Hid (VersAt (fun g => (g < wa.heap.size ∨ wm.heap.size ≤ g) ∧ Off b v' g) (fun g => (g < wa.heap.size ∨ wm.heap.size ≤ g) ∧ Off b v' g) wp Al vs) := (HLM.out.chg C' (fun g _ s => s.2) (fun g _ s => s.2)).mono (fun g _ s => ⟨.inl s.2.1.1, s.2.2⟩) (fun g _ s => ⟨.inl s.2.1.1, s.2.2⟩)
            have HBP : Hid (Below w.heap.size w wp) := by
              have hpb := HPA.out.bel
              refine C'.below (hpb.trans (HB5.out.mono hpb.size)) HPA.out.lob (fun g e => ?_)
              have := (HPA.out.hd.chn.low e).1
              have := HPA.out.lob
              omega
            have HBAP : Hid (∀ g, g < wa.heap.size → g ≠ b → some g ≠ v.ownBlock → wp.heap[g]? = wa.heap[g]?) := fun g hg h1 h2 => by
              rw [C'.block g (by omega) h1 h2, HB5.out.block g hg]
            have HH := Lib.hid H'
            have HXP : Hid (wp.heap[q]? = wa.heap[q]?) := HBAP.out q hsa (by omega) (fun e => by have := hvlt.out q e.symm; omega)
            have HXR : Hid (∀ W, Below wp.heap.size wp W → Row (fun _ => True) W X (i32s o.2.2.1) ∧ Bx W q o X cx) := fun W hW => by
              have hlob := HPA.out.lob
              have hsz : wa.heap.size ≤ wp.heap.size := Nat.le_trans hwm HSP.out
              have h1 : Row (fun g => g < w.heap.size) wp X (i32s o.2.2.1) := HROW.out.kept hsz fun g hg s => HBAP.out g hg (by have s' : g < w.heap.size := s; omega) (fun e => by
                have := (HPA.out.hd.chn.low e.symm).1
                have s' : g < w.heap.size := s
                omega)
              refine ⟨(h1.below hW).any, BX.out W ((hW.block q (by omega)).trans HXP.out)⟩
            have HCUT : Hid (∀ W, Below wp.heap.size wp W → Calls Try.prog 13 #[.slice X o.2.2.1.length cx, .int .i64 10] W fun e w' => ∃ A7 c7, e = .returned (.slice A7 tv.length c7) ∧ tv.length ≤ c7 ∧ Row (fun _ => True) w' A7 (i32s tv) ∧ Below wp.heap.size wp w' ∧ Below W.heap.size W w') := fun W hW => by
              have hsz : wa.heap.size ≤ wp.heap.size := Nat.le_trans hwm HSP.out
              have h1 := cutVecF_any _ X cx 10 o.2.2.1 W (HXR.out W hW).1 j3 HWO.out.2.2.2.1 (by decide)
              refine h1.mono ?_
              rintro e w' ⟨A7, c7, e1, e2, e3, _, e5⟩
              rw [← HTV.out] at e1 e2 e3
              rw [i32s_len] at e1 e2
              exact ⟨A7, c7, e1, e2, e3.any, hW.trans (e5.mono hW.size), e5⟩
            have HRPUT : Hid (nb = false → ∀ W A7 c7, Below wp.heap.size wp W → tv.length ≤ c7 → Row (fun _ => True) W A7 (i32s tv) → Calls Try.prog 15 #[.slice Al vs.length cl, .agg #[.int .u64 o.2.1, .slice A7 tv.length c7]] W fun e w' => ∃ A' c', e = .returned (.tuple #[.slice A' (putW nb vs (o.2.1, tv)).length c', .int .i64 (putN nb vs (o.2.1, tv))]) ∧ VersAt (fun g => (g < wa.heap.size ∨ wm.heap.size ≤ g) ∧ Off b v' g) (fun g => (g < wa.heap.size ∨ wm.heap.size ≤ g) ∧ Off b v' g) w' A' (putW nb vs (o.2.1, tv)) ∧ Below wp.heap.size wp w') := fun hnb W A7 c7 hW hc7 hr7 => by
              subst hnb
              have hbw := HH.out.chn.lt.1
              have hvw : ∀ g, wp.heap.size ≤ g → Off b v' g := fun g hg => ⟨by omega, fun e => by have := (HH.out.chn.low e.symm).2; omega⟩
              have hsp := HSP.out
              refine (rput_any _ _ _ Al cl vs (o.2.1, tv) A7 c7 W (HLP.out.below hW) HPA.out.good (by omega) hr7 hc7 (by show tv.length ≤ 100; omega)).mono ?_
              rintro e w' ⟨hb, ⟨h0, e1⟩ | ⟨h0, A', c', e1, e2⟩⟩
              · refine ⟨Al, cl, ?_, ?_, hW.trans (hb.mono hW.size)⟩
                · have : putW false vs (o.2.1, tv) = vs := by unfold putW putV; simp [h0]
                  rw [this]; exact e1
                · have : putW false vs (o.2.1, tv) = vs := by unfold putW putV; simp [h0]
                  rw [this]; exact (HLP.out.below hW).below hb
              · have hpw : putW false vs (o.2.1, tv) = vs ++ [(o.2.1, tv)] := by unfold putW putV; simp [h0]
                have hpn : putN false vs (o.2.1, tv) = 0 := by unfold putN; simp [h0]
                rw [hpw, hpn]
                have hWs := hW.size
                refine ⟨A', c', by rw [e1, List.length_append]; rfl, e2.mono (fun g _ s => ⟨.inr ?_, hvw g ?_⟩) (fun g _ s => ?_), hW.trans (hb.mono hW.size)⟩
                · have s' : W.heap.size ≤ g := s; omega
                · have s' : W.heap.size ≤ g := s; omega
                · rcases s with s | s
                  · have s' : W.heap.size ≤ g := s
                    exact ⟨.inr (by omega), hvw g (by omega)⟩
                  · exact s.2
            clear HPUT C' HLM HFV HR5 H' hvw hv'lo d0 d1 d2 d3
            obtain ⟨p0, p1, p2, p3⟩ := (HXR.out wp (Below.refl _ _)).2
            go_upto_if 65 with fail
            go_cut [7, 13] (fun x y wx => y = .int .i64 (putN nb vs (o.2.1, tv)) ∧ (∃ Al' cl', x = .slice Al' (putW nb vs (o.2.1, tv)).length cl' ∧ VersAt (fun g => (g < wa.heap.size ∨ wm.heap.size ≤ g) ∧ Off b v' g) (fun g => (g < wa.heap.size ∨ wm.heap.size ≤ g) ∧ Off b v' g) wx Al' (putW nb vs (o.2.1, tv))) ∧ Below wp.heap.size wp wx)
            case first =>
              cases nb with
              | true =>
                go_wp2_with fail
                go_meet
                exact ⟨rfl, ⟨Al, cl, rfl, HLP.out⟩, Below.refl _ _⟩
              | false =>
                have HR := Lib.hid (HRPUT.out rfl)
                have hbd : Below wp.heap.size wp wp.drew := (Below.refl _ _).drew
                clear p0 p3
                go_wp2_with fail
                go_region_held3 (fun w' => w'.cell? ⟨q, 1, none⟩ = some (.int .u64 o.2.1) ∧ w'.cell? ⟨q, 2, none⟩ = some (.slice X o.2.2.1.length cx)) (first | exact ⟨p1, p2⟩ | exact ⟨(HXR.out _ hb7).2.c1, (HXR.out _ hb7).2.c2⟩ | exact ⟨(HXR.out _ hb8).2.c1, (HXR.out _ hb8).2.c2⟩ | fail)
                  (first
                    | (go_at_call 13; refine (HCUT.out _ hbd).mono ?_; rintro e w7 ⟨A7, c7, rfl, hc7, r7, hb7, _⟩)
                    | (go_at_call 15; refine (HR.out w7 A7 c7 hb7 hc7 r7).mono ?_; rintro e w8 ⟨A8, c8, rfl, hat8, hb8⟩)
                    | fail)
                all_goals
                  have HAT8 := Lib.hid hat8
                  have HB8 := Lib.hid hb8
                  clear hat8 hb8 r7 hb7
                  go_wp2_with fail
                  go_meet
                  exact ⟨rfl, ⟨A8, c8, rfl, HAT8.out⟩, HB8.out⟩
            case rest =>
              obtain ⟨rfl, ⟨Al', cl', rfl, hatL⟩, hbx⟩ := hcut
              generalize wc = wx at *
              have HATL := Lib.hid hatL
              have HBX := Lib.hid hbx
              have HC := Lib.hid (HCUT.out wx hbx)
              obtain ⟨s0, s1, s2, s3⟩ := (HXR.out wx hbx).2
              clear hatL hbx HRPUT HLP p0 p1 p2 p3 s0 s1 s3
              go_wp2_with fail
              refine (HC.out).mono ?_
              rintro e wy ⟨A7, c7, rfl, hc7, r7, hb7, hb7'⟩
              have hsv := sameVec_any _ _ A5 A7 c5 c7 tv tv wy (HRP.out.below hb7) r7 (by omega)
              rw [show (tv == tv) = true by simp] at hsv
              have HSV := Lib.hid hsv
              have HB7 := Lib.hid hb7
              have HB7' := Lib.hid hb7'
              clear hsv hb7 hb7' r7 HC s2
              go_wp2_with fail
              refine (HSV.out).mono ?_
              rintro e wz ⟨rfl, hbz⟩
              have HBZ := Lib.hid (HB7.out.trans (hbz.mono HB7.out.size))
              have HATZ := Lib.hid ((HATL.out.below HB7'.out).below hbz)
              have HFZ := Lib.hid (HFP.out.kept (w' := wz) fun g _ h2 => HBZ.out.block g (Nat.lt_of_lt_of_le h2 HSP.out))
              clear hbz HSV HB7 HB7' HATL HBX HCUT HRP HFP
              go_wp2_with fail
              go_loopw [14, 90] (fun _ i wr => ∃ j : Nat, j ≤ tv.length ∧ i = .int .i64 j ∧ FlipV wa.heap.size wm.heap.size wr A5 tv.length ∧ Fz wa.heap.size wm.heap.size wz wr) (fun _ i _ => tv.length - (intOf i).toNat)
              case atStart => exact ⟨0, Nat.zero_le _, rfl, HFZ.out, Fz.refl _ _ _⟩
              case round =>
                obtain ⟨j, hj, rfl, hFl, hFz⟩ := hrel
                by_cases hjl : j < tv.length
                · have t2 : (j : Int) < (tv.length : Int) := by omega
                  obtain ⟨qq, n, rfl, n1, n2, n4, n5⟩ := hFl j hjl
                  have HFl2 := Lib.hid hFl
                  have HFz2 := Lib.hid hFz
                  have HN4 := Lib.hid n4
                  clear hFl hFz
                  go_wp2_with fail
                  exact ⟨⟨j + 1, by omega, by go_num, HFl2.out.set HN4.out, HFz2.out.set n1 n2 _ _⟩, by simp [intOf]; omega⟩
                · have t2 : ¬ (j : Int) < (tv.length : Int) := by omega
                  obtain ⟨wF, rfl⟩ : ∃ x, x = wr := ⟨wr, rfl⟩
                  have hblw : b < wa.heap.size := by omega
                  have hPF : PI nb b w wF (k + 1) v' (putW nb vs (o.2.1, tv)) Al' := by
                    have hg := HPA.out.good
                    have hpl := putV_len vs (o.2.1, tv)
                    refine ⟨(HH.out.below HBZ.out).kept (by rw [hFz.size]; exact Nat.le_refl _) (hFz.block b (by omega)) (fun g _ e => hFz.block g (HVLO.out g e.symm)) (fun g _ s => ⟨hFz.block g (by rcases s with s | s <;> omega), trivial⟩), ?_, ?_, ?_, hFz.below (HBP.out.trans (HBZ.out.mono HBP.out.size)) HPA.out.bel.size, HPA.out.lob⟩
                    · exact (HATZ.out.kept (w' := wF) (by rw [hFz.size]; exact Nat.le_refl _) fun g _ s => hFz.block g (by rcases s with s | s <;> (have := s.1; omega))).mono (fun g _ s => s.2) (fun g _ s => s.2)
                    · unfold putW; split
                      · exact hg
                      · exact hg.put _
                    · unfold putW; split <;> omega
                  have HPF := Lib.hid hPF
                  have HBF : Hid (Bx wF q o X cx) := BX.out wF (by
                    rw [hFz.block q (by omega), HBZ.out.block q (by have := HSP.out; omega)]
                    exact HXP.out)
                  clear hFl hFz hPF
                  go_wp2_with fail
                  go_meet
                  exact ⟨v', _, Al', cl', rfl, HPF.out, HBF.out⟩
        case rest =>
          obtain ⟨v', vs', Al', cl', rfl, P', BX'⟩ := hcut
          generalize wc = wx at *
          obtain ⟨b0, b1, b2, b3⟩ := BX'
          have hln := P'.len
          obtain ⟨ask, hask⟩ : ∃ x, x = o.2.2.2 := ⟨_, rfl⟩
          rw [← hask] at b3
          obtain ⟨al, hal⟩ : ∃ x, x = asOf vs' ask := ⟨_, rfl⟩
          have hal3 : al.length ≤ 1000 := by rw [hal]; exact asOf_len3 P'.good ask
          have hA := hd_at nb _ b b v' vs' ask wx P'.hd P'.good (by omega)
          unfold GaveAt at hA
          rw [← hal] at hA
          have HRA : Hid (∀ W, Below wx.heap.size wx W → Calls Try.prog 18 #[.slice Al' vs'.length cl', .int .u64 ask] W fun e w' => ∃ X cx, e = .returned (.slice X al.length cx) ∧ Row (fun _ => True) w' X (i32s al) ∧ Below W.heap.size W w') := fun W hW => by
            have := rat_any _ _ Al' cl' vs' ask W (P'.lst.below hW) (by omega)
            unfold RAtGave at this
            rw [← hal] at this
            exact this.mono fun e w' ⟨X, cx, e1, e2, e3⟩ => ⟨X, cx, e1, e2.any, e3⟩
          have HSV : Hid (∀ W X Y c d, Row (fun _ => True) W X (i32s al) → Row (fun _ => True) W Y (i32s al) → Calls Try.prog 16 #[.slice X al.length c, .slice Y al.length d] W fun e w' => e = .returned (.bool true) ∧ Below W.heap.size W w') := fun W X Y c d h1 h2 => by
            have := sameVec_any _ _ X Y c d al al W h1 h2 (by omega)
            rw [show (al == al) = true by simp] at this
            exact this
          have HLST : Hid (∀ W, Below wx.heap.size wx W → Calls Try.prog 21 #[ptrOf nb b] W fun e w' => ∃ A2 c2, e = .returned (.slice A2 vs'.length c2) ∧ Below wx.heap.size wx w' ∧
              Calls Try.prog 20 #[.slice A2 vs'.length c2] w' fun e w2 => ∃ A3 c3, e = .returned (.slice A3 vs'.length c3) ∧ Below wx.heap.size wx w2 ∧
                Calls Try.prog 19 #[.slice A3 vs'.length c3, .slice Al' vs'.length cl'] w2 fun e w3 => e = .returned (.bool true) ∧ Below wx.heap.size wx w3) := fun W hW => by
            refine (hd_list nb _ b b v' vs' W (P'.hd.below hW) P'.good (by omega)).mono ?_
            rintro e w' ⟨v2, rfl, hOF, hb2⟩
            obtain ⟨A2, c2, rfl, _, hat2⟩ := hOF.own.vers
            have hB2 := hW.trans (hb2.mono hW.size)
            refine ⟨A2, c2, rfl, hB2, (back_any _ _ A2 c2 vs' w' hat2 (by omega)).mono ?_⟩
            rintro e w2 ⟨v3, rfl, hO3, hb3⟩
            obtain ⟨A3, c3, rfl, _, hat3⟩ := hO3.vers
            have hB3 := hB2.trans (hb3.mono hB2.size)
            refine ⟨A3, c3, rfl, hB3, (same_yes _ _ _ _ A3 Al' c3 cl' vs' w2 hat3 (P'.lst.below hB3) (by omega) P'.good.len).mono ?_⟩
            rintro e w3 ⟨e1, hb4⟩
            exact ⟨e1, hB3.trans (hb4.mono hB3.size)⟩
          have HLAST : Hid (∀ W, Below wx.heap.size wx W → Calls Try.prog 22 #[ptrOf nb b] W fun e w' => e = .returned (.int .u64 (lastS vs')) ∧ Below wx.heap.size wx w') := fun W hW => (hd_last nb _ b b v' vs' W (P'.hd.below hW) (by omega)).mono fun e w' ⟨e1, e2⟩ => ⟨e1, hW.trans (e2.mono hW.size)⟩
          have HLEN : Hid (∀ W, Below wx.heap.size wx W → Calls Try.prog 23 #[ptrOf nb b] W fun e w' => e = .returned (.int .i64 (vs'.length : Int)) ∧ W = w') := fun W hW => hd_len nb _ b b v' vs' W (P'.hd.below hW)
          have HCEL : Hid (∀ W m, Below wx.heap.size wx W → vs'.length = m + 1 → ∃ ad, Al' = some ad ∧ W.cell? (ad.add (m * 2)) = some (.int .u64 (lastS vs'))) := fun W m hW hm => by
            obtain ⟨ad, e, _, _, a0, _⟩ := (P'.lst.below hW) m (by omega)
            rw [lastS_at vs' m hm]
            exact ⟨ad, e, a0⟩
          have HB3C : Hid (∀ W, Below wx.heap.size wx W → W.cell? ⟨q, 3, none⟩ = some (.int .u64 ask)) := fun W hW => (hW.cell (p := ⟨q, 3, none⟩) (lt_of_cell b3)).trans b3
          have HP := Lib.hid P'
          have HGB : Hid ((0 < al.length → (!goneB al) = true) ∧ (¬ 0 < al.length → (!goneB al) = false)) := by
            refine ⟨fun h => ?_, fun h => ?_⟩
            · unfold goneB; rw [decide_eq_false (by omega)]; rfl
            · unfold goneB; rw [decide_eq_true (by omega)]; rfl
          have hlsz : Hid (vs'.length = 0 → lastS vs' = 0) := fun h => by
            have : vs' = [] := List.eq_nil_of_length_eq_zero h
            subst this
            rfl
          clear hal P' b0 b1 b2 hask HWA HQ BX HPA HROW hvlt HWO a0 a1 a2 a3 j3
          have hgoal : ∀ gb : Bool, (!goneB al) = gb → ((gb = true ∧ 0 < al.length) ∨ (gb = false ∧ ¬ 0 < al.length)) := fun gb h => by
            by_cases hz : 0 < al.length
            · exact .inl ⟨h ▸ HGB.out.1 hz, hz⟩
            · exact .inr ⟨h ▸ HGB.out.2 hz, hz⟩
          obtain ⟨gb, hgb⟩ : ∃ x, x = !goneB al := ⟨_, rfl⟩
          have HGC := Lib.hid (hgoal gb hgb.symm)
          rw [← hgb] at hA
          have HA := Lib.hid hA
          clear hgoal hgb HGB hA
          go_wp2_with fail
          refine (HA.out).mono ?_
          rintro e w3 ⟨A3, c3, rfl, hc3, r3, _, hb3⟩
          have c3' := HB3C.out w3 hb3
          have HB3 := Lib.hid hb3
          have HR3 := Lib.hid r3.any
          clear hb3 r3 HA b3
          go_wp2_with fail
          refine (HRA.out w3 HB3.out).mono ?_
          rintro e w4 ⟨A4, c4, rfl, r4, hb4⟩
          have HB4 := Lib.hid (HB3.out.trans (hb4.mono HB3.out.size))
          have HSV4 := Lib.hid (HSV.out w4 A3 A4 c3 c4 (HR3.out.below hb4) r4)
          clear hb4 r4 HRA c3' HR3 HSV HB3
          go_upto_if 113 with fail
          go_cut [18] (fun x wy => x = .int .u64 (lastS vs') ∧ wy = w4)
          case first =>
            by_cases h0 : vs'.length = 0
            · have hl0 := hlsz.out h0
              have HL0 := Lib.hid hl0
              have h0' : ¬ (0 : Int) < (vs'.length : Int) := by omega
              clear hl0 h0
              go_wp2_with fail
              go_meet
              exact ⟨by rw [HL0.out], rfl⟩
            · obtain ⟨m, hm⟩ : ∃ m, vs'.length = m + 1 := ⟨vs'.length - 1, by omega⟩
              obtain ⟨ad, rfl, e0⟩ := HCEL.out w4 m HB4.out hm
              have h0' : (0 : Int) < (vs'.length : Int) := by omega
              have i5 : IntKind.i64.wrap ((vs'.length : Int) - 1) = (m : Int) := by rw [IntKind.wrap_i64]; omega
              have i6 : (vs'.length : Int) - 1 = (m : Int) := by omega
              have i7 : (m : Int) < (vs'.length : Int) := by omega
              have i8 : (0 : Int) ≤ (m : Int) := by omega
              have i9 : m < vs'.length := by omega
              clear hm h0
              generalize lastS vs' = ls at *
              go_wp2_with fail
              go_meet
              exact ⟨rfl, rfl⟩
          case rest =>
            obtain ⟨rfl, hwc⟩ := hcut
            rw [hwc]
            clear hwc HCEL hlsz HB3C
            have hrest : ∀ g : Bool, g = gb → True := fun _ _ => trivial
            rcases HGC.out with ⟨rfl, hz⟩ | ⟨rfl, hz⟩
            case' inl => have hz' : (0 : Int) < (al.length : Int) := by omega
            case' inr => have hz' : ¬ (0 : Int) < (al.length : Int) := by omega
            all_goals
              clear HGC hrest
              go_wp2_with fail
              refine (HSV4.out).mono ?_
              rintro e w5 ⟨rfl, hb5⟩
              have HB5 := Lib.hid (HB4.out.trans (hb5.mono HB4.out.size))
              have HL := Lib.hid (HLST.out w5 HB5.out)
              clear hb5 HSV4 HB4 HLST
              go_wp2_with fail
              refine (HL.out).mono ?_
              rintro e w6 ⟨A6, c6, rfl, hb6, h6⟩
              have H6 := Lib.hid h6
              clear h6 hb6 HL
              go_wp2_with fail
              refine (H6.out).mono ?_
              rintro e w7 ⟨A7, c7, rfl, hb7, h7⟩
              have H7 := Lib.hid h7
              clear h7 hb7 H6
              go_wp2_with fail
              refine (H7.out).mono ?_
              rintro e w8 ⟨rfl, hb8⟩
              have HB8 := Lib.hid hb8
              have HLA := Lib.hid (HLAST.out w8 hb8)
              clear hb8 H7 HLAST
              go_wp2_with fail
              refine (HLA.out).mono ?_
              rintro e w9 ⟨rfl, hb9⟩
              have HB9 := Lib.hid hb9
              have HLE := Lib.hid (HLEN.out w9 hb9)
              clear hb9 HLA HLEN
              go_wp2_with fail
              refine (HLE.out).mono ?_
              rintro e w10 ⟨rfl, rfl⟩
              clear HLE
              go_wp2_with fail
              go_roundw
              case rel => exact ⟨k + 1, v', vs', Al', cl', by omega, by omega, by go_num, rfl, HP.out.below HB9.out⟩
              case measure => simp [intOf]; omega
      · have HBEL := Lib.hid P.bel
        have HCE : Hid (k < os.length → ∃ ad, A = some ad ∧ ∃ d s Y n cy t, wr.cell? (ad.add (k * 4)) = some (.int .u8 d) ∧ wr.cell? ⟨(ad.add (k * 4)).block, (ad.add (k * 4)).off + 1, none⟩ = some (.int .u64 s) ∧ wr.cell? ⟨(ad.add (k * 4)).block, (ad.add (k * 4)).off + 2, none⟩ = some (.slice Y n cy) ∧ wr.cell? ⟨(ad.add (k * 4)).block, (ad.add (k * 4)).off + 3, none⟩ = some (.int .u64 t)) := fun hlt => by
          obtain ⟨ad, e, j1, j2, a0, a1, ⟨X, cx, a2, j3, hrow⟩, a3⟩ := (HAT.out.kept P.bel.size fun g hg _ => P.bel.block g hg) k hlt
          exact ⟨ad, e, _, _, _, _, _, _, a0, a1, a2, a3⟩
        clear P
        by_cases hlt : k < os.length
        · obtain ⟨ad, rfl, d, s, Y, n, cy, t, a0, a1, a2, a3⟩ := HCE.out hlt
          have i1 : (k : Int) < (os.length : Int) := by omega
          have i2 : (40 : Int) ≤ (k : Int) := by omega
          clear HCE
          go_wp2_with fail
          go_ret
          exact ⟨rfl, HBEL.out.alloc HBEL.out.size _⟩
        · have i1 : ¬ (k : Int) < (os.length : Int) := by omega
          clear HCE
          go_wp2_with fail
          go_ret
          exact ⟨rfl, HBEL.out⟩

end Go.Proofs.Ytphcakhhjjdpiaa
