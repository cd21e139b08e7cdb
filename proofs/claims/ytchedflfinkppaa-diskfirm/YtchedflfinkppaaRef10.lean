/-
  The contract of ref05's Swap.
-/
import Derived.Test.YtchedflfinkppaaRef9
import Derived.Test.YtchedflfinkppaaLast
import Derived.Test.YtchedflfinkppaaRef7
namespace Go.Proofs.Ytchedflfinkppaa
open Go.RowKit Go.Maps
set_option linter.unusedSimpArgs false
set_option linter.unusedVariables false

theorem row_addC {S : Nat → Prop} {x : Nat} {w w' : World} {v v' : Value} {A : Option Addr} {xs : List Value} (h : Row (fun g => S g ∧ g ≠ x ∧ some g ≠ v.ownBlock) w A xs) (hC : AddC x w w' v v') : Row (fun g => S g ∧ g ≠ x ∧ some g ≠ v'.ownBlock) w' A xs := by
  refine (Row.kept (S := fun g => g < w.heap.size ∧ S g ∧ g ≠ x ∧ some g ≠ v.ownBlock) (h.mono fun g hg s => ⟨hg, s⟩) hC.size fun g hg s => hC.block g hg s.2.2.1 s.2.2.2).mono fun g _ s => ⟨s.2.1, s.2.2.1, fun e => ?_⟩
  rcases hC.new with e' | ⟨g', e', hg'⟩
  · exact s.2.2.2 (by rw [e, e'])
  · rw [e'] at e
    injection e with e
    have := s.1
    omega
theorem blk_addC {x q : Nat} {w w' : World} {v v' : Value} {o : Obj} (h : w.heap[q]? = some o) (hq : q ≠ x) (hv : some q ≠ v.ownBlock) (hC : AddC x w w' v v') : w'.heap[q]? = some o ∧ some q ≠ v'.ownBlock := by
  have hl := lt_of_block h
  refine ⟨(hC.block q hl hq hv).trans h, fun e => ?_⟩
  rcases hC.new with e' | ⟨g', e', hg'⟩
  · exact hv (by rw [e, e'])
  · rw [e'] at e
    injection e with e
    omega
theorem RD.file3 {w : World} {B : BK} {x room k : Nat} {p : Pw} {v : Value} {L : List RF} (h : RD w B x p room v L) (hk : k < L.length) : ∃ ad c F cf G cg, v = .slice (some ad) L.length c ∧ ad.block < w.heap.size ∧ w.cell? (ad.add (k * 3)) = some (.string L[k].name) ∧
    w.cell? ⟨(ad.add (k * 3)).block, (ad.add (k * 3)).off + 1, none⟩ = some (.slice F L[k].firm.length cf) ∧ w.cell? ⟨(ad.add (k * 3)).block, (ad.add (k * 3)).off + 2, none⟩ = some (.slice G L[k].loose.length cg) ∧
    L[k].firm.length ≤ cf ∧ L[k].loose.length ≤ cg ∧ Row (fun g => B.K g ∧ g ≠ x ∧ some g ≠ v.ownBlock) w F (u8s L[k].firm) ∧ Row (fun g => B.K g ∧ g ≠ x ∧ some g ≠ v.ownBlock) w G (u8s L[k].loose) := by
  obtain ⟨cs, h1, h2⟩ := h.row
  obtain ⟨c0, ⟨F, cf, c1, c2, c3⟩, G, cg, d1, d2, d3⟩ := h2.2 k hk
  rcases h1.2 with ⟨rfl, e⟩ | ⟨g, cap, cur, e9, hg, hh, hnc, r⟩
  · omega
  · subst e9
    have e0 := h1.cells (g := g) rfl _ _ c0
    have e1 := h1.cells (g := g) rfl _ _ c1
    have e2 := h1.cells (g := g) rfl _ _ d1
    have hadd : ∀ j : Nat, (⟨((⟨g, 0, none⟩ : Addr).add (k * 3)).block, ((⟨g, 0, none⟩ : Addr).add (k * 3)).off + j, none⟩ : Addr) = (⟨g, 0, none⟩ : Addr).add (k * 3 + j) := fun j => by
      unfold Addr.add
      by_cases hj0 : k * 3 = 0 <;> by_cases hk0 : j = 0
      · simp [hj0, hk0]
      · simp [hj0, hk0]
      · simp [hj0, hk0]
      · simp [hj0, hk0, Nat.add_assoc]
    refine ⟨_, cap, F, cf, G, cg, rfl, lt_of_block hh, e0, ?_, ?_, c2, d2, c3, d3⟩
    · rw [hadd 1]; exact e1
    · rw [hadd 2]; exact e2
theorem four_q {W : World} {q : Nat} {y0 y1 y2 : Value} {t : TypeId} (h : W.heap[q]? = some (.cells #[y0, y1, y2] t (0, 0))) : W.cell? ⟨q, 1, none⟩ = some y1 := by simp [World.cell?, h]

/-- what ref05's Swap answers, and leaves -/
noncomputable def rswapE (p : Pw) (L : List RF) (s t : ByteArray) : Int :=
  if p.spent.down = true then 9 else if nameB t = false then 4 else if findR L s < 0 then 6 else 0
def rswapL (L : List RF) (s t : ByteArray) : List RF := match L.findIdx? (fun f => decide (f.name = s)) with | none => L | some k => insR (rdrop1 (rdrop1 L s) t) t ⟨t, (L.getD k ⟨s, [], []⟩).firm, []⟩
def RSwap (w : World) (B : BK) (x : Nat) (p : Pw) (room : Nat) (v : Value) (L : List RF) (s t : ByteArray) (e : Ending) (w' : World) : Prop :=
  e = .returned (.int .i64 (rswapE p L s t)) ∧ ∃ v', RD w' B x p.spent room v' (if rswapE p L s t = 0 then rswapL L s t else L) ∧ AddC x w w' v v'

section
variable (w : World) (B : BK) (x room : Nat) (p : Pw) (v : Value) (L : List RF) (s t : ByteArray)

set_option maxRecDepth 100000 in
set_option maxHeartbeats 4000000 in
theorem rswap_any (h : RD w B x p room v L) (hp : p.ok) (hl : L.length ≤ 1000) (ht : t.size ≤ 1000) :
    Calls Try.prog 34 #[.pointer (some ⟨x, 0, none⟩), .string s, .string t] w fun e w' => RSwap w B x p room v L s t e w' := by
  have HB := Lib.hid (begin_any w B x room p v L h hp)
  clear h
  cases hd : p.spent.down with
  | true =>
    have he : p.err = 9 := by unfold Pw.err; rw [hd]; rfl
    have HE : Hid (rswapE p L s t = 9) := by show _ = _; unfold rswapE; rw [if_pos hd]
    rw [he] at HB
    clear hd he
    go_enter Try.func34, Try.ntmps34
    go_wp2_with fail
    refine (HB.out).mono ?_
    rintro e w1 ⟨rfl, R1, O1⟩
    have HF : Hid (RSwap w B x p room v L s t (.returned (.int .i64 9)) w1) := ⟨by rw [HE.out], v, by rw [HE.out]; exact R1, O1.addC v⟩
    clear R1 O1
    go_wp2_with fail
    go_ret
    exact HF.out
  | false =>
    have he : p.err = 0 := by unfold Pw.err; rw [hd]; rfl
    have hdn : ¬ p.spent.down = true := by rw [hd]; decide
    rw [he] at HB
    have HE0 : Hid (rswapE p L s t = if nameB t = false then 4 else if findR L s < 0 then 6 else 0) := by show _ = _; unfold rswapE; rw [if_neg hdn]
    clear hd he hdn
    obtain ⟨fr, hfr⟩ : ∃ y, y = findR L s := ⟨_, rfl⟩
    rw [← hfr] at HE0
    have HFR := Lib.hid hfr
    clear hfr
    go_enter Try.func34, Try.ntmps34
    go_wp2_with fail
    refine (HB.out).mono ?_
    rintro e w1 ⟨rfl, R1, O1⟩
    have hfi := rfind_any w1 B x room p.spent v L s R1 hl
    rw [← HFR.out] at hfi
    have HFI := Lib.hid hfi
    have HR1 := Lib.hid R1
    have HC1 := Lib.hid (O1.addC v)
    clear R1 O1 HB hfi
    go_wp2_with fail
    refine (HFI.out).mono ?_
    rintro e w2 ⟨rfl, hb2⟩
    have HR2 := Lib.hid (HR1.out.below hb2)
    have HC2 := Lib.hid (HC1.out.trans (AddC.below hb2 v))
    have hnm := rname_any w2 t ht
    clear hb2 HFI HR1 HC1
    have HBAD : Hid (∀ k : Int, k ≠ 0 → rswapE p L s t = k → RSwap w B x p room v L s t (.returned (.int .i64 k)) w2) := fun k hk e => ⟨by rw [e], v, by rw [e, if_neg hk]; exact HR2.out, HC2.out⟩
    cases hnb : nameB t with
    | false =>
      rw [hnb] at hnm HE0
      have HNM := Lib.hid hnm
      have HF := Lib.hid (HBAD.out 4 (by decide) (by rw [HE0.out]; rfl))
      clear hnb hnm HBAD
      go_wp2_with fail
      refine (HNM.out).mono ?_
      rintro e w3 ⟨rfl, rfl⟩
      go_wp2_with fail
      go_ret
      exact HF.out
    | true =>
      rw [hnb] at hnm HE0
      have HNM := Lib.hid hnm
      clear hnb hnm
      rcases findR_low L s with hn | hn
      · obtain rfl : fr = -1 := by rw [HFR.out]; exact hn
        have HF := Lib.hid (HBAD.out 6 (by decide) (by rw [HE0.out]; rfl))
        clear HBAD hn
        go_wp2_with fail
        refine (HNM.out).mono ?_
        rintro e w3 ⟨rfl, rfl⟩
        go_wp2_with fail
        go_ret
        exact HF.out
      · obtain ⟨k, hk, hfk, hidx⟩ := findR_some hn
        obtain rfl : fr = (k : Int) := by rw [HFR.out]; exact hfk
        have i2 : ¬ (k : Int) < 0 := by omega
        have HE : Hid (rswapE p L s t = 0) := by show _ = _; rw [HE0.out, if_neg (by decide), if_neg i2]
        have HLL : Hid (rswapL L s t = insR (rdrop1 (rdrop1 L s) t) t ⟨t, L[k].firm, []⟩) := by
          show _ = _
          unfold rswapL
          rw [hidx]
          show insR (rdrop1 (rdrop1 L s) t) t ⟨t, (L.getD k ⟨s, [], []⟩).firm, []⟩ = _
          rw [getD_at hk]
        clear HBAD hn hfk hidx HE0 HFR
        go_wp2_with fail
        refine (HNM.out).mono ?_
        rintro e w2' ⟨rfl, rfl⟩
        obtain ⟨ad, c, F, cf, G, cg, hv, hadl, k0, k1, k2, hcf, hcg, rF, rG⟩ := HR2.out.file3 hk
        have cx := HR2.out.cells.2.1
        have hvq : some w2.heap.size ≠ v.ownBlock := fun e => by
          obtain ⟨cs0, ho0, _⟩ := HR2.out.row
          have := (own_lt ho0 e.symm).2
          omega
        have hqx : w2.heap.size ≠ x := by have := lt_of_block HR2.out.blk; omega
        rw [hv] at cx
        have i1 : (k : Int) < (L.length : Int) := by omega
        have HV := Lib.hid hv
        have HRF := Lib.hid rF
        have HVQ := Lib.hid hvq
        have HQX := Lib.hid hqx
        obtain ⟨lf, hlf⟩ : ∃ y, y = L[k].firm.length := ⟨_, rfl⟩
        obtain ⟨lg, hlg⟩ : ∃ y, y = L[k].loose.length := ⟨_, rfl⟩
        obtain ⟨nm, hnm⟩ : ∃ y, y = L[k].name := ⟨_, rfl⟩
        rw [← hlf] at k1 hcf
        rw [← hlg] at k2
        rw [← hnm] at k0
        have HLF := Lib.hid hlf
        have HCF := Lib.hid hcf
        clear rF rG hlf hlg hnm hv hcg hvq hqx hcf HNM
        go_wp2_with fail
        obtain ⟨w3, hw3⟩ : ∃ y, y = w2.alloc (.cells #[.string nm, .slice F lf cf, .slice G lg cg] 82) := ⟨_, rfl⟩
        rw [← hw3]
        have hb3 : Below w2.heap.size w2 w3 := by rw [hw3]; exact (Below.refl _ _).alloc (Nat.le_refl _) _
        have hq3 : w3.heap[w2.heap.size]? = some (.cells #[.string nm, .slice F lf cf, .slice G lg cg] 82 (0, 0)) := by rw [hw3]; exact heap_alloc_new w2 _
        have HR3 := Lib.hid (HR2.out.below hb3)
        have HC3 := Lib.hid (HC2.out.trans (AddC.below hb3 v))
        have HF3 := Lib.hid (HRF.out.below hb3)
        have HQ3 := Lib.hid hq3
        obtain ⟨q, hq⟩ : ∃ y, y = w2.heap.size := ⟨_, rfl⟩
        rw [← hq] at HQ3 HVQ HQX
        rw [← hq]
        have HRM := Lib.hid (rremove_any w3 B x room p.spent v L s HR3.out hl)
        clear hw3 hb3 hq3 hq HRF HV cx k0 k1 k2 hadl HR2 HC2
        refine (HRM.out).mono ?_
        rintro e w4 ⟨rfl, v2, R4, C4⟩
        obtain ⟨b4, b4'⟩ := blk_addC HQ3.out HQX.out HVQ.out C4
        have HF4 := Lib.hid (row_addC HF3.out C4)
        have HC4 := Lib.hid (HC3.out.trans C4)
        have HRM2 := Lib.hid (rremove_any w4 B x room p.spent v2 (rdrop1 L s) t R4 (Nat.le_trans (rdrop1_len L s) hl))
        have HQ4 := Lib.hid b4
        have HQ4' := Lib.hid b4'
        clear R4 C4 b4 b4' HRM HF3 HC3 HQ3 HR3
        go_wp2_with fail
        refine (HRM2.out).mono ?_
        rintro e w5 ⟨rfl, v3, R5, C5⟩
        obtain ⟨b5, _⟩ := blk_addC HQ4.out HQX.out HQ4'.out C5
        have hF5 := (row_addC HF4.out C5).mono (S' := fun g => B.K g ∧ g ≠ x) fun g _ sg => ⟨sg.1, sg.2.1⟩
        have HF5 := Lib.hid hF5
        have HC5 := Lib.hid (HC4.out.trans C5)
        have HQ5 := Lib.hid b5
        have HR5 := Lib.hid R5
        have HL3 : Hid ((rdrop1 (rdrop1 L s) t).length ≤ 1000) := Nat.le_trans (rdrop1_len _ t) (Nat.le_trans (rdrop1_len L s) hl)
        obtain ⟨A3, c3, hv3, hc3, hFl3⟩ := R5.files
        have cx5 := R5.cells.2.1
        rw [hv3] at cx5
        have HFL := Lib.hid hFl3
        have HV3 := Lib.hid hv3
        clear R5 C5 b5 hF5 HRM2 HF4 HC4 HQ4 HQ4' hFl3 hv3
        generalize rdrop1 (rdrop1 L s) t = L3 at *
        have hl3 := HL3.out
        go_wp2_with fail
        go_loopw [10, 12, 44] (fun a _ i wr => ∃ j : Nat, j ≤ L3.length ∧ i = .int .i64 j ∧ a = .int .i64 (placeR (L3.take j) t : Nat) ∧ Below w5.heap.size w5 wr) (fun _ _ i _ => L3.length - (intOf i).toNat)
        case atStart => exact ⟨0, Nat.zero_le _, rfl, rfl, Below.refl _ _⟩
        case round =>
          obtain ⟨j, hj, rfl, rfl, hbr⟩ := hrel
          by_cases hlt : j < L3.length
          · have i3 : (j : Int) < (L3.length : Int) := by omega
            obtain ⟨ad3, rfl, _, _, m0, ⟨F', cf', m1, _, _⟩, G', cg', m2, _, _⟩ := (HFL.out.below hbr) j hlt
            have HBR := Lib.hid hbr
            have hpl := placeR_take_le L3 t j
            have HYES := Lib.hid (placeR_yes hlt (s := t))
            have HNO := Lib.hid (placeR_no hlt (s := t))
            generalize L3[j].firm.length = lf' at *
            generalize L3[j].loose.length = lg' at *
            generalize L3[j].name = nm' at *
            generalize placeR (L3.take j) t = pl at *
            clear hbr
            cases hlss : Op.bytesLess nm'.toList t.toList with
            | true =>
              have HP := Lib.hid (HYES.out hlss)
              clear HYES HNO
              go_wp2_with fail
              go_roundw
              case rel => exact ⟨j + 1, by omega, by go_num, by rw [HP.out]; go_num, HBR.out.alloc HBR.out.size _⟩
              case measure => simp [intOf]; omega
            | false =>
              have HP := Lib.hid (HNO.out hlss)
              clear HYES HNO
              go_wp2_with fail
              go_roundw
              case rel => exact ⟨j + 1, by omega, by go_num, by rw [HP.out], HBR.out.alloc HBR.out.size _⟩
              case measure => simp [intOf]; omega
          · have i3 : ¬ (j : Int) < (L3.length : Int) := by omega
            rw [List.take_of_length_le (by omega)]
            obtain ⟨W0, rfl⟩ : ∃ y, y = wr := ⟨wr, rfl⟩
            have HR0 := Lib.hid (HR5.out.below hbr)
            have HC0 := Lib.hid (HC5.out.trans (AddC.below hbr v3))
            have HF0 := Lib.hid (HF5.out.below hbr)
            have HQ0 := Lib.hid ((hbr.block q (lt_of_block HQ5.out)).trans HQ5.out)
            have hpl := placeR_le L3 t
            obtain ⟨at', hat⟩ : ∃ y, y = placeR L3 t := ⟨_, rfl⟩
            rw [← hat] at hpl ⊢
            have HAT := Lib.hid hat
            obtain ⟨cs, ho0, hc0⟩ := HR0.out.row
            have HCC := Lib.hid hc0
            have hat1 : at' ≤ 1000000 := by omega
            have hat2 : at' ≤ 1000 := by omega
            clear hat hbr HFL HR5 HC5 HF5 HQ5 cx5
            go_wp2_with fail
            rcases ho0.2 with ⟨e9, e8⟩ | ⟨g, c9, cur, e9, hBg, hh, hnc, _⟩
            · obtain rfl : at' = 0 := by omega
              have HCL : Hid (∀ W, Below W0.heap.size W0 W → W.cell? ⟨x, 1, none⟩ = some (.slice none 0 0) ∧ W.cell? ⟨q, 1, none⟩ = some (.slice F lf cf) ∧ W.frozen? ⟨x, 1, none⟩ = false) := fun W hW => by
                have r := HR0.out.below hW
                exact ⟨by rw [r.cells.2.1, e9], four_q ((hW.block q (lt_of_block HQ0.out)).trans HQ0.out), r.free 1⟩
              have HFIN : Hid (∀ w9 A9 c9, Below W0.heap.size W0 w9 → w9.ownsRow W0.heap.size 82 3 (.slice A9 (0 + 1 + 0) c9) (0 + 1 + 0) ([] ++ [.string t, .slice F lf cf, .slice none 0 0] ++ []) → RSwap w B x p room v L s t (.returned (.int .i64 0)) (w9.setCell ⟨x, 1, none⟩ (.slice A9 (0 + 1 + 0) c9))) := fun w9 A9 c9 hb9 ho9 => by
                have hcs : cs = [] := List.eq_nil_of_length_eq_zero (by have := HCC.out.1; omega)
                rw [HLF.out] at ho9
                obtain ⟨z1, z2⟩ := HR0.out.ins (n9 := 0 + 1 + 0) (f := ⟨t, L[k].firm, []⟩) (k := 0) (G := none) (cg := 0) HCC.out (by rw [← HLF.out]; exact HCF.out) (Nat.le_refl _) HF0.out (by simpa [u8s] using Row.nil) hb9 (by omega) (by subst hcs; exact ho9) (Nat.zero_le _)
                refine ⟨by rw [HE.out], _, ?_, HC0.out.trans z2⟩
                rw [HE.out, if_pos rfl, HLL.out, insR, ← HAT.out]
                exact z1
              clear ho0 hc0 e9 e8 hpl i3
              have HBD1 : Hid (0 + 1 ≤ 1000000) := by show _ ≤ _; omega
              have HBD2 : Hid (0 + 1 + 0 ≤ 1000000) := by show _ ≤ _; omega
              have HOa : Hid ((W0.drew.alloc (.cells #[] 82)).ownsRow W0.heap.size 82 3 (.slice (some ⟨W0.heap.size, 0, none⟩) 0 0) 0 []) := World.ownsRow_lit W0.drew #[] 0 (Nat.le_refl _) (by decide) rfl
              have HOb : Hid (((W0.drew.alloc (.cells #[] 82)).alloc (.cells #[.string t, .slice F lf cf, .slice none 0 0] 82)).ownsRow W0.heap.size 82 3 (.slice (some ⟨W0.heap.size, 0, none⟩) 0 0) 0 []) := HOa.out.alloc _
              have HOc : Hid (((W0.drew.alloc (.cells #[.string t, .slice F lf cf, .slice none 0 0] 82)).alloc (.cells #[] 82)).ownsRow W0.heap.size 82 3 (.slice (some ⟨W0.heap.size + 1, 0, none⟩) 0 0) 0 []) := by
                have := World.ownsRow_lit (base := W0.heap.size) (e := 82) (size := 3) (W0.drew.alloc (.cells #[.string t, .slice F lf cf, .slice none 0 0] 82)) #[] 0 (by simp) (by decide) rfl
                have hz : (W0.drew.alloc (.cells #[.string t, .slice F lf cf, .slice none 0 0] 82)).heap.size = W0.heap.size + 1 := by simp
                rw [hz] at this
                exact this
              have HBA : Hid (Below W0.heap.size W0 (W0.drew.alloc (.cells #[] 82))) := ((Below.refl _ _).drew).alloc (Nat.le_refl _) _
              have HBB : Hid (Below W0.heap.size W0 ((W0.drew.alloc (.cells #[] 82)).alloc (.cells #[.string t, .slice F lf cf, .slice none 0 0] 82))) := HBA.out.alloc HBA.out.size _
              have HBD : Hid (Below W0.heap.size W0 (W0.drew.alloc (.cells #[.string t, .slice F lf cf, .slice none 0 0] 82))) := ((Below.refl _ _).drew).alloc (Nat.le_refl _) _
              have HBC : Hid (Below W0.heap.size W0 ((W0.drew.alloc (.cells #[.string t, .slice F lf cf, .slice none 0 0] 82)).alloc (.cells #[] 82))) := HBD.out.alloc HBD.out.size _
              have HOO : Hid (((W0.drew.alloc (.cells #[] 82)).alloc (.cells #[.string t, .slice F lf cf, .slice none 0 0] 82)).heap[W0.heap.size + 1]? = some (.cells #[.string t, .slice F lf cf, .slice none 0 0] 82 (0, 0))) := by
                have := heap_alloc_new (W0.drew.alloc (.cells #[] 82)) (.cells #[.string t, .slice F lf cf, .slice none 0 0] 82)
                exact (by simpa using this : ((W0.drew.alloc (.cells #[] 82)).alloc (.cells #[.string t, .slice F lf cf, .slice none 0 0] 82)).heap[W0.heap.size + 1]? = some (.cells #[.string t, .slice F lf cf, .slice none 0 0] 82 (0, 0)))
              have HOX : Hid (((W0.drew.alloc (.cells #[.string t, .slice F lf cf, .slice none 0 0] 82)).alloc (.cells #[] 82)).heap[W0.heap.size]? = some (.cells #[.string t, .slice F lf cf, .slice none 0 0] 82 (0, 0))) := by
                show _ = _
                rw [Below.heap_alloc _ _ _ (by simp)]
                exact heap_alloc_new W0.drew _
              refine wp_region_pop (S := fun w' => w'.cell? ⟨x, 1, none⟩ = some (.slice none 0 0) ∧ w'.cell? ⟨q, 1, none⟩ = some (.slice F lf cf) ∧ w'.frozen? ⟨x, 1, none⟩ = false) (by kernel_rfl) (by simp only [List.pop_toArray, List.dropLast]; rfl) (by rfl) (by kernel_rfl) (HCL.out _ ((Below.refl _ _).drew)) (fun hHeld => ?_)
              refine wpAnyH_take (i := 0) (v := ?_) rfl (by kernel_rfl) (by kernel_rfl) (by kernel_rfl) (fun _ _ _ h => h) (Or.inl ⟨by rfl, ?_⟩) hHeld ?_
              rotate_left
              · intro w hSw
                try dsimp only at hSw
                go_simp
                try with_reducible rfl
              try simp only [Act.put, List.setIfInBounds_toArray, List.set_cons_zero, List.set_cons_succ]
              refine wpAnyH_take (i := 2) (v := ?_) rfl (by kernel_rfl) (by kernel_rfl) (by kernel_rfl) (fun _ _ _ h => h) (Or.inl ⟨by rfl, ?_⟩) hHeld ?_
              rotate_left
              · intro w hSw
                try dsimp only at hSw
                go_simp
                try with_reducible rfl
              try simp only [Act.put, List.setIfInBounds_toArray, List.set_cons_zero, List.set_cons_succ]
              refine wpAnyH_take (i := 3) (v := ?_) rfl (by kernel_rfl) (by kernel_rfl) (by kernel_rfl) (fun _ _ _ h => h) (Or.inl ⟨by rfl, ?_⟩) hHeld ?_
              rotate_left
              · intro w hSw
                try dsimp only at hSw
                go_simp
                try with_reducible rfl
              try simp only [Act.put, List.setIfInBounds_toArray, List.set_cons_zero, List.set_cons_succ]
              refine wpAnyH_take (i := 4) (v := ?_) rfl (by kernel_rfl) (by kernel_rfl) (by kernel_rfl) (fun _ _ _ h => h) (Or.inl ⟨by rfl, ?_⟩) hHeld ?_
              rotate_left
              · intro w hSw
                try dsimp only at hSw
                go_simp
                try with_reducible rfl
              try simp only [Act.put, List.setIfInBounds_toArray, List.set_cons_zero, List.set_cons_succ]
              refine wpAnyH_take (i := 5) (v := ?_) rfl (by kernel_rfl) (by kernel_rfl) (by kernel_rfl) (fun _ _ _ h => h) (Or.inl ⟨by rfl, ?_⟩) hHeld ?_
              rotate_left
              · intro w hSw
                try dsimp only at hSw
                go_simp
                try with_reducible rfl
              try simp only [Act.put, List.setIfInBounds_toArray, List.set_cons_zero, List.set_cons_succ]
              refine wpAnyH_take (i := 6) (v := ?_) rfl (by kernel_rfl) (by kernel_rfl) (by kernel_rfl) (fun _ _ _ h => h) (Or.inl ⟨by rfl, ?_⟩) hHeld ?_
              rotate_left
              · intro w hSw
                try dsimp only at hSw
                go_simp
                try with_reducible rfl
              try simp only [Act.put, List.setIfInBounds_toArray, List.set_cons_zero, List.set_cons_succ]
              refine wpAnyH_take (i := 7) (v := ?_) rfl (by kernel_rfl) (by kernel_rfl) (by kernel_rfl) (fun _ _ _ h => h) (Or.inl ⟨by rfl, ?_⟩) hHeld ?_
              rotate_left
              · intro w hSw
                try dsimp only at hSw
                go_simp
                try with_reducible rfl
              try simp only [Act.put, List.setIfInBounds_toArray, List.set_cons_zero, List.set_cons_succ]
              refine wpAnyH_take (i := 9) (v := ?_) rfl (by kernel_rfl) (by kernel_rfl) (by kernel_rfl) (fun _ _ _ h => h) (Or.inl ⟨by rfl, ?_⟩) hHeld ?_
              rotate_left
              · intro w hSw
                try dsimp only at hSw
                go_simp
                try with_reducible rfl
              try simp only [Act.put, List.setIfInBounds_toArray, List.set_cons_zero, List.set_cons_succ]
              refine wpAnyH_take (i := 10) (v := ?_) rfl (by kernel_rfl) (by kernel_rfl) (by kernel_rfl) (fun _ _ _ h => h) (Or.inl ⟨by rfl, ?_⟩) hHeld ?_
              rotate_left
              · intro w hSw
                try dsimp only at hSw
                go_simp
                try with_reducible rfl
              try simp only [Act.put, List.setIfInBounds_toArray, List.set_cons_zero, List.set_cons_succ]
              refine wpAnyH_take (i := 11) (v := ?_) rfl (by kernel_rfl) (by kernel_rfl) (by kernel_rfl) (fun _ _ _ h => h) (Or.inl ⟨by rfl, ?_⟩) hHeld ?_
              rotate_left
              · intro w hSw
                try dsimp only at hSw
                go_simp
                try with_reducible rfl
              try simp only [Act.put, List.setIfInBounds_toArray, List.set_cons_zero, List.set_cons_succ]
              refine wpAnyH_take (i := 12) (v := ?_) rfl (by kernel_rfl) (by kernel_rfl) (by kernel_rfl) (fun _ _ _ h => h) (Or.inl ⟨by rfl, ?_⟩) hHeld ?_
              rotate_left
              · intro w hSw
                try dsimp only at hSw
                go_simp
                try with_reducible rfl
              try simp only [Act.put, List.setIfInBounds_toArray, List.set_cons_zero, List.set_cons_succ]
              refine wpAnyH_take (i := 15) (v := ?_) rfl (by kernel_rfl) (by kernel_rfl) (by kernel_rfl) (fun _ _ _ h => h) (Or.inl ⟨by rfl, ?_⟩) hHeld ?_
              rotate_left
              · intro w hSw
                try dsimp only at hSw
                go_simp
                try with_reducible rfl
              try simp only [Act.put, List.setIfInBounds_toArray, List.set_cons_zero, List.set_cons_succ]
              refine wpAnyH_take (i := 16) (v := ?_) rfl (by kernel_rfl) (by kernel_rfl) (by kernel_rfl) (fun _ _ _ h => h) (Or.inl ⟨by rfl, ?_⟩) hHeld ?_
              rotate_left
              · intro w hSw
                try dsimp only at hSw
                go_simp
                try with_reducible rfl
              try simp only [Act.put, List.setIfInBounds_toArray, List.set_cons_zero, List.set_cons_succ]
              refine wpAnyH_take (i := 17) (v := ?_) rfl (by kernel_rfl) (by kernel_rfl) (by kernel_rfl) (fun _ _ _ h => h) (Or.inl ⟨by rfl, ?_⟩) hHeld ?_
              rotate_left
              · intro w hSw
                try dsimp only at hSw
                go_simp
                try with_reducible rfl
              try simp only [Act.put, List.setIfInBounds_toArray, List.set_cons_zero, List.set_cons_succ]
              refine wpAnyH_take (i := 18) (v := ?_) rfl (by kernel_rfl) (by kernel_rfl) (by kernel_rfl) (fun _ _ _ h => h) (Or.inl ⟨by rfl, ?_⟩) hHeld ?_
              rotate_left
              · intro w hSw
                try dsimp only at hSw
                go_simp
                try with_reducible rfl
              try simp only [Act.put, List.setIfInBounds_toArray, List.set_cons_zero, List.set_cons_succ]
              refine wpAnyH_take (i := 19) (v := ?_) rfl (by kernel_rfl) (by kernel_rfl) (by kernel_rfl) (fun _ _ _ h => h) (Or.inl ⟨by rfl, ?_⟩) hHeld ?_
              rotate_left
              · intro w hSw
                try dsimp only at hSw
                go_simp
                try with_reducible rfl
              try simp only [Act.put, List.setIfInBounds_toArray, List.set_cons_zero, List.set_cons_succ]
              refine wpAnyH_take (i := 20) (v := ?_) rfl (by kernel_rfl) (by kernel_rfl) (by kernel_rfl) (fun _ _ _ h => h) (Or.inl ⟨by rfl, ?_⟩) hHeld ?_
              rotate_left
              · intro w hSw
                try dsimp only at hSw
                go_simp
                try with_reducible rfl
              try simp only [Act.put, List.setIfInBounds_toArray, List.set_cons_zero, List.set_cons_succ]
              refine wpAnyH_ready (rs := [1, 13]) (by kernel_rfl) (by simp) ?_
              refine AllReadyH.cons rfl (fun K hK => ?_) (AllReadyH.cons rfl (fun K hK => ?_) AllReadyH.nil)
              · go_simp
                refine hK.out _ _ (HCL.out _ HBA.out) (fun hHeld => ?_)
                clear hK K
                try simp only [Act.put, List.setIfInBounds_toArray, List.set_cons_zero, List.set_cons_succ]
                refine wpAnyH_ready (rs := [8, 13]) (by kernel_rfl) (by simp) ?_
                refine AllReadyH.cons rfl (fun K hK => ?_) (AllReadyH.cons rfl (fun K hK => ?_) AllReadyH.nil)
                · skip
                  refine step_append_files0 (by rfl) (.tmp 56) (.tmp 62) (by rfl) W0.heap.size (.slice (some ⟨W0.heap.size, 0, none⟩) 0 0) (by rfl) HOa.out none 0 0 [] (by rfl) rfl (fun j u hj => by simp at hj) (fun u hu => by cases hu) hat1 HBA.out.size ?_
                  intro A8 c8 w8 ho8 hg8 ha8
                  have hb8 : Below W0.heap.size W0 w8 := HBA.out.grown hg8 HBA.out.size (fun g e => by simp [Value.ownBlock] at e; omega)
                  have hsrc : (w8.alloc (.cells #[.string t, .slice F lf cf, .slice none 0 0] 82)).heap[w8.heap.size]? = some (.cells #[.string t, .slice F lf cf, .slice none 0 0] 82 (0, 0)) := heap_alloc_new w8 _
                  refine hK.out _ _ (HCL.out _ hb8) (fun hHeld => ?_)
                  clear hK K
                  try simp only [Act.put, List.setIfInBounds_toArray, List.set_cons_zero, List.set_cons_succ]
                  refine wpAnyH_ready (rs := [13]) (by kernel_rfl) (by simp) ?_
                  refine AllReadyH.cons rfl (fun K hK => ?_) AllReadyH.nil
                  go_simp
                  have hb8' : Below W0.heap.size W0 (w8.alloc (.cells #[.string t, .slice F lf cf, .slice none 0 0] 82)) := hb8.alloc hb8.size _
                  refine hK.out _ _ (HCL.out _ hb8') (fun hHeld => ?_)
                  clear hK K
                  try simp only [Act.put, List.setIfInBounds_toArray, List.set_cons_zero, List.set_cons_succ]
                  refine wpAnyH_ready (rs := [14]) (by kernel_rfl) (by simp) ?_
                  refine AllReadyH.cons rfl (fun K hK => ?_) AllReadyH.nil
                  refine step_append_files (by rfl) (.tmp 63) (.tmp 68) (by rfl) W0.heap.size (.slice A8 0 c8) 0 [] (by rfl) (ho8.alloc _) (some ⟨w8.heap.size, 0, none⟩) 1 1 [.string t, .slice F lf cf, .slice none 0 0] (by rfl) (by rfl) (fun j u hj => ⟨_, rfl, World.news_of_block (cs := #[.string t, .slice F lf cf, .slice none 0 0]) (t := 82) (fr := (0, 0)) hsrc j u hj⟩) (by simp [Value.oneCell']) HBD1.out (Below.size hb8') ?_
                  intro A9 cc9 w9 ho9 hg9 ha9
                  have hb9 : Below W0.heap.size W0 w9 := Below.grown hb8' hg9 (Below.size hb8') (fun g e => (own_lt ho8 e).1)
                  refine hK.out _ _ (HCL.out _ hb9) (fun hHeld => ?_)
                  clear hK K
                  try simp only [Act.put, List.setIfInBounds_toArray, List.set_cons_zero, List.set_cons_succ]
                  refine wpAnyH_ready (rs := [21]) (by kernel_rfl) (by simp) ?_
                  refine AllReadyH.cons rfl (fun K hK => ?_) AllReadyH.nil
                  refine step_append_files (by rfl) (.tmp 69) (.tmp 75) (by rfl) W0.heap.size (.slice A9 (0 + 1) cc9) (0 + 1) ([] ++ [.string t, .slice F lf cf, .slice none 0 0]) (by rfl) ho9 none 0 0 [] (by rfl) rfl (fun j u hj => by simp at hj) (fun u hu => by cases hu) HBD2.out hb9.size ?_
                  intro A10 c10 w10 ho10 hg10 ha10
                  have hb10 : Below W0.heap.size W0 w10 := hb9.grown hg10 hb9.size (fun g e => (own_lt ho9 e).1)
                  have HG9 := Lib.hid (HFIN.out w10 A10 c10 hb10 ho10)
                  obtain ⟨y0, y1, y2⟩ := HCL.out _ hb10
                  refine hK.out _ _ (HCL.out _ hb10) (fun hHeld => ?_)
                  clear hK K
                  try simp only [Act.put, List.setIfInBounds_toArray, List.set_cons_zero, List.set_cons_succ]
                  refine wpAnyH_take (i := 22) (v := ?_) rfl (by kernel_rfl) (by kernel_rfl) (by kernel_rfl) (fun _ _ _ h => h) (Or.inl ⟨by rfl, ?_⟩) hHeld ?_
                  rotate_left
                  · intro w hSw
                    try dsimp only at hSw
                    go_simp
                    try with_reducible rfl
                  try simp only [Act.put, List.setIfInBounds_toArray, List.set_cons_zero, List.set_cons_succ]
                  refine wpAnyH_take (i := 23) (v := ?_) rfl (by kernel_rfl) (by kernel_rfl) (by kernel_rfl) (fun _ _ _ h => h) (Or.inl ⟨by rfl, ?_⟩) hHeld ?_
                  rotate_left
                  · intro w hSw
                    try dsimp only at hSw
                    go_simp
                    try with_reducible rfl
                  try simp only [Act.put, List.setIfInBounds_toArray, List.set_cons_zero, List.set_cons_succ]
                  refine wpAnyH_done (by kernel_rfl) ?_ _
                  clear ho10 hg10 ha10 hb10 ho9 hg9 ha9 hb9 ho8 hg8 ha8 hb8 hHeld
                  unfold LastQ
                  go_simp
                  go_wp2_with fail
                  go_ret
                  exact HG9.out
                · go_simp
                  refine hK.out _ _ (HCL.out _ HBB.out) (fun hHeld => ?_)
                  clear hK K
                  try simp only [Act.put, List.setIfInBounds_toArray, List.set_cons_zero, List.set_cons_succ]
                  refine wpAnyH_ready (rs := [8]) (by kernel_rfl) (by simp) ?_
                  refine AllReadyH.cons rfl (fun K hK => ?_) AllReadyH.nil
                  refine step_append_files0 (by rfl) (.tmp 56) (.tmp 62) (by rfl) W0.heap.size (.slice (some ⟨W0.heap.size, 0, none⟩) 0 0) (by rfl) HOb.out none 0 0 [] (by rfl) rfl (fun j u hj => by simp at hj) (fun u hu => by cases hu) hat1 HBB.out.size ?_
                  intro A8 c8 w8 ho8 hg8 ha8
                  have hb8 : Below W0.heap.size W0 w8 := HBB.out.grown hg8 HBB.out.size (fun g e => by simp [Value.ownBlock] at e; omega)
                  have hsrc := (hg8.block (W0.heap.size + 1) (by simp) (by simp [Value.ownBlock])).trans HOO.out
                  refine hK.out _ _ (HCL.out _ hb8) (fun hHeld => ?_)
                  clear hK K
                  try simp only [Act.put, List.setIfInBounds_toArray, List.set_cons_zero, List.set_cons_succ]
                  refine wpAnyH_ready (rs := [14]) (by kernel_rfl) (by simp) ?_
                  refine AllReadyH.cons rfl (fun K hK => ?_) AllReadyH.nil
                  refine step_append_files (by rfl) (.tmp 63) (.tmp 68) (by rfl) W0.heap.size (.slice A8 0 c8) 0 [] (by rfl) ho8 (some ⟨W0.heap.size + 1, 0, none⟩) 1 1 [.string t, .slice F lf cf, .slice none 0 0] (by rfl) (by rfl) (fun j u hj => ⟨_, rfl, World.news_of_block (cs := #[.string t, .slice F lf cf, .slice none 0 0]) (t := 82) (fr := (0, 0)) hsrc j u hj⟩) (by simp [Value.oneCell']) HBD1.out (Below.size hb8) ?_
                  intro A9 cc9 w9 ho9 hg9 ha9
                  have hb9 : Below W0.heap.size W0 w9 := Below.grown hb8 hg9 (Below.size hb8) (fun g e => (own_lt ho8 e).1)
                  refine hK.out _ _ (HCL.out _ hb9) (fun hHeld => ?_)
                  clear hK K
                  try simp only [Act.put, List.setIfInBounds_toArray, List.set_cons_zero, List.set_cons_succ]
                  refine wpAnyH_ready (rs := [21]) (by kernel_rfl) (by simp) ?_
                  refine AllReadyH.cons rfl (fun K hK => ?_) AllReadyH.nil
                  refine step_append_files (by rfl) (.tmp 69) (.tmp 75) (by rfl) W0.heap.size (.slice A9 (0 + 1) cc9) (0 + 1) ([] ++ [.string t, .slice F lf cf, .slice none 0 0]) (by rfl) ho9 none 0 0 [] (by rfl) rfl (fun j u hj => by simp at hj) (fun u hu => by cases hu) HBD2.out hb9.size ?_
                  intro A10 c10 w10 ho10 hg10 ha10
                  have hb10 : Below W0.heap.size W0 w10 := hb9.grown hg10 hb9.size (fun g e => (own_lt ho9 e).1)
                  have HG9 := Lib.hid (HFIN.out w10 A10 c10 hb10 ho10)
                  obtain ⟨y0, y1, y2⟩ := HCL.out _ hb10
                  refine hK.out _ _ (HCL.out _ hb10) (fun hHeld => ?_)
                  clear hK K
                  try simp only [Act.put, List.setIfInBounds_toArray, List.set_cons_zero, List.set_cons_succ]
                  refine wpAnyH_take (i := 22) (v := ?_) rfl (by kernel_rfl) (by kernel_rfl) (by kernel_rfl) (fun _ _ _ h => h) (Or.inl ⟨by rfl, ?_⟩) hHeld ?_
                  rotate_left
                  · intro w hSw
                    try dsimp only at hSw
                    go_simp
                    try with_reducible rfl
                  try simp only [Act.put, List.setIfInBounds_toArray, List.set_cons_zero, List.set_cons_succ]
                  refine wpAnyH_take (i := 23) (v := ?_) rfl (by kernel_rfl) (by kernel_rfl) (by kernel_rfl) (fun _ _ _ h => h) (Or.inl ⟨by rfl, ?_⟩) hHeld ?_
                  rotate_left
                  · intro w hSw
                    try dsimp only at hSw
                    go_simp
                    try with_reducible rfl
                  try simp only [Act.put, List.setIfInBounds_toArray, List.set_cons_zero, List.set_cons_succ]
                  refine wpAnyH_done (by kernel_rfl) ?_ _
                  clear ho10 hg10 ha10 hb10 ho9 hg9 ha9 hb9 ho8 hg8 ha8 hb8 hHeld
                  unfold LastQ
                  go_simp
                  go_wp2_with fail
                  go_ret
                  exact HG9.out
              · go_simp
                refine hK.out _ _ (HCL.out _ HBD.out) (fun hHeld => ?_)
                clear hK K
                try simp only [Act.put, List.setIfInBounds_toArray, List.set_cons_zero, List.set_cons_succ]
                refine wpAnyH_ready (rs := [1]) (by kernel_rfl) (by simp) ?_
                refine AllReadyH.cons rfl (fun K hK => ?_) AllReadyH.nil
                go_simp
                refine hK.out _ _ (HCL.out _ HBC.out) (fun hHeld => ?_)
                clear hK K
                try simp only [Act.put, List.setIfInBounds_toArray, List.set_cons_zero, List.set_cons_succ]
                refine wpAnyH_ready (rs := [8]) (by kernel_rfl) (by simp) ?_
                refine AllReadyH.cons rfl (fun K hK => ?_) AllReadyH.nil
                refine step_append_files0 (by rfl) (.tmp 56) (.tmp 62) (by rfl) W0.heap.size (.slice (some ⟨W0.heap.size + 1, 0, none⟩) 0 0) (by rfl) HOc.out none 0 0 [] (by rfl) rfl (fun j u hj => by simp at hj) (fun u hu => by cases hu) hat1 HBC.out.size ?_
                intro A8 c8 w8 ho8 hg8 ha8
                have hb8 : Below W0.heap.size W0 w8 := HBC.out.grown hg8 HBC.out.size (fun g e => by simp [Value.ownBlock] at e; omega)
                have hsrc := (hg8.block W0.heap.size (by simp; omega) (by simp [Value.ownBlock])).trans HOX.out
                refine hK.out _ _ (HCL.out _ hb8) (fun hHeld => ?_)
                clear hK K
                try simp only [Act.put, List.setIfInBounds_toArray, List.set_cons_zero, List.set_cons_succ]
                refine wpAnyH_ready (rs := [14]) (by kernel_rfl) (by simp) ?_
                refine AllReadyH.cons rfl (fun K hK => ?_) AllReadyH.nil
                refine step_append_files (by rfl) (.tmp 63) (.tmp 68) (by rfl) W0.heap.size (.slice A8 0 c8) 0 [] (by rfl) ho8 (some ⟨W0.heap.size, 0, none⟩) 1 1 [.string t, .slice F lf cf, .slice none 0 0] (by rfl) (by rfl) (fun j u hj => ⟨_, rfl, World.news_of_block (cs := #[.string t, .slice F lf cf, .slice none 0 0]) (t := 82) (fr := (0, 0)) hsrc j u hj⟩) (by simp [Value.oneCell']) HBD1.out (Below.size hb8) ?_
                intro A9 cc9 w9 ho9 hg9 ha9
                have hb9 : Below W0.heap.size W0 w9 := Below.grown hb8 hg9 (Below.size hb8) (fun g e => (own_lt ho8 e).1)
                refine hK.out _ _ (HCL.out _ hb9) (fun hHeld => ?_)
                clear hK K
                try simp only [Act.put, List.setIfInBounds_toArray, List.set_cons_zero, List.set_cons_succ]
                refine wpAnyH_ready (rs := [21]) (by kernel_rfl) (by simp) ?_
                refine AllReadyH.cons rfl (fun K hK => ?_) AllReadyH.nil
                refine step_append_files (by rfl) (.tmp 69) (.tmp 75) (by rfl) W0.heap.size (.slice A9 (0 + 1) cc9) (0 + 1) ([] ++ [.string t, .slice F lf cf, .slice none 0 0]) (by rfl) ho9 none 0 0 [] (by rfl) rfl (fun j u hj => by simp at hj) (fun u hu => by cases hu) HBD2.out hb9.size ?_
                intro A10 c10 w10 ho10 hg10 ha10
                have hb10 : Below W0.heap.size W0 w10 := hb9.grown hg10 hb9.size (fun g e => (own_lt ho9 e).1)
                have HG9 := Lib.hid (HFIN.out w10 A10 c10 hb10 ho10)
                obtain ⟨y0, y1, y2⟩ := HCL.out _ hb10
                refine hK.out _ _ (HCL.out _ hb10) (fun hHeld => ?_)
                clear hK K
                try simp only [Act.put, List.setIfInBounds_toArray, List.set_cons_zero, List.set_cons_succ]
                refine wpAnyH_take (i := 22) (v := ?_) rfl (by kernel_rfl) (by kernel_rfl) (by kernel_rfl) (fun _ _ _ h => h) (Or.inl ⟨by rfl, ?_⟩) hHeld ?_
                rotate_left
                · intro w hSw
                  try dsimp only at hSw
                  go_simp
                  try with_reducible rfl
                try simp only [Act.put, List.setIfInBounds_toArray, List.set_cons_zero, List.set_cons_succ]
                refine wpAnyH_take (i := 23) (v := ?_) rfl (by kernel_rfl) (by kernel_rfl) (by kernel_rfl) (fun _ _ _ h => h) (Or.inl ⟨by rfl, ?_⟩) hHeld ?_
                rotate_left
                · intro w hSw
                  try dsimp only at hSw
                  go_simp
                  try with_reducible rfl
                try simp only [Act.put, List.setIfInBounds_toArray, List.set_cons_zero, List.set_cons_succ]
                refine wpAnyH_done (by kernel_rfl) ?_ _
                clear ho10 hg10 ha10 hb10 ho9 hg9 ha9 hb9 ho8 hg8 ha8 hb8 hHeld
                unfold LastQ
                go_simp
                go_wp2_with fail
                go_ret
                exact HG9.out
            · by_cases hce : c9 = at'
              · obtain rfl : c9 = at' := by omega
                have hLN : L3.length = c9 := by omega
                have HLN := Lib.hid hLN
                have HCL : Hid (∀ W, Below W0.heap.size W0 W → W.cell? ⟨x, 1, none⟩ = some (.slice (some ⟨g, 0, none⟩) c9 c9) ∧ W.cell? ⟨q, 1, none⟩ = some (.slice F lf cf) ∧ W.frozen? ⟨x, 1, none⟩ = false) := fun W hW => by
                  have r := HR0.out.below hW
                  exact ⟨by rw [r.cells.2.1, e9, hLN], four_q ((hW.block q (lt_of_block HQ0.out)).trans HQ0.out), r.free 1⟩
                have hcut := RD.cut2 hnc (by rw [← e9]; exact ho0) (by rw [← e9]; exact HCC.out) hpl
                have HN := Lib.hid (And.intro hcut.1 hcut.2.1)
                have HT := Lib.hid (And.intro hcut.2.2.1 hcut.2.2.2)
                have HFIN : Hid (∀ w9 A9 c10, Below W0.heap.size W0 w9 → w9.ownsRow W0.heap.size 82 3 (.slice A9 (c9 + 1 + 0) c10) (c9 + 1 + 0) ((cs.take (c9 * 3)) ++ [.string t, .slice F lf cf, .slice none 0 0] ++ []) → RSwap w B x p room v L s t (.returned (.int .i64 0)) (w9.setCell ⟨x, 1, none⟩ (.slice A9 (c9 + 1 + 0) c10))) := fun w9 A9 c10 hb9 ho9 => by
                  have hcs : cs.drop (c9 * 3) = [] := List.eq_nil_of_length_eq_zero (by have := HT.out.2.1; have := HLN.out; omega)
                  rw [HLF.out] at ho9
                  obtain ⟨z1, z2⟩ := HR0.out.ins (n9 := c9 + 1 + 0) (A9 := A9) (c9 := c10) (f := ⟨t, L[k].firm, []⟩) (k := c9) (G := none) (cg := 0) HCC.out (by rw [← HLF.out]; exact HCF.out) (Nat.le_refl _) HF0.out (by simpa [u8s] using Row.nil) hb9 (by have := HLN.out; omega) (by rw [hcs]; exact ho9) (by have := HLN.out; omega)
                  refine ⟨by rw [HE.out], _, ?_, HC0.out.trans z2⟩
                  rw [HE.out, if_pos rfl, HLL.out, insR, ← HAT.out]
                  exact z1
                clear hLN
                clear ho0 hc0 e9 hpl i3 hnc hh hcut
                have HBD1 : Hid (c9 + 1 ≤ 1000000) := by show _ ≤ _; omega
                have HBD2 : Hid (c9 + 1 + 0 ≤ 1000000) := by show _ ≤ _; omega
                have HOa : Hid ((W0.drew.alloc (.cells #[] 82)).ownsRow W0.heap.size 82 3 (.slice (some ⟨W0.heap.size, 0, none⟩) 0 0) 0 []) := World.ownsRow_lit W0.drew #[] 0 (Nat.le_refl _) (by decide) rfl
                have HOb : Hid (((W0.drew.alloc (.cells #[] 82)).alloc (.cells #[.string t, .slice F lf cf, .slice none 0 0] 82)).ownsRow W0.heap.size 82 3 (.slice (some ⟨W0.heap.size, 0, none⟩) 0 0) 0 []) := HOa.out.alloc _
                have HOc : Hid (((W0.drew.alloc (.cells #[.string t, .slice F lf cf, .slice none 0 0] 82)).alloc (.cells #[] 82)).ownsRow W0.heap.size 82 3 (.slice (some ⟨W0.heap.size + 1, 0, none⟩) 0 0) 0 []) := by
                  have := World.ownsRow_lit (base := W0.heap.size) (e := 82) (size := 3) (W0.drew.alloc (.cells #[.string t, .slice F lf cf, .slice none 0 0] 82)) #[] 0 (by simp) (by decide) rfl
                  have hz : (W0.drew.alloc (.cells #[.string t, .slice F lf cf, .slice none 0 0] 82)).heap.size = W0.heap.size + 1 := by simp
                  rw [hz] at this
                  exact this
                have HBA : Hid (Below W0.heap.size W0 (W0.drew.alloc (.cells #[] 82))) := ((Below.refl _ _).drew).alloc (Nat.le_refl _) _
                have HBB : Hid (Below W0.heap.size W0 ((W0.drew.alloc (.cells #[] 82)).alloc (.cells #[.string t, .slice F lf cf, .slice none 0 0] 82))) := HBA.out.alloc HBA.out.size _
                have HBD : Hid (Below W0.heap.size W0 (W0.drew.alloc (.cells #[.string t, .slice F lf cf, .slice none 0 0] 82))) := ((Below.refl _ _).drew).alloc (Nat.le_refl _) _
                have HBC : Hid (Below W0.heap.size W0 ((W0.drew.alloc (.cells #[.string t, .slice F lf cf, .slice none 0 0] 82)).alloc (.cells #[] 82))) := HBD.out.alloc HBD.out.size _
                have HOO : Hid (((W0.drew.alloc (.cells #[] 82)).alloc (.cells #[.string t, .slice F lf cf, .slice none 0 0] 82)).heap[W0.heap.size + 1]? = some (.cells #[.string t, .slice F lf cf, .slice none 0 0] 82 (0, 0))) := by
                  have := heap_alloc_new (W0.drew.alloc (.cells #[] 82)) (.cells #[.string t, .slice F lf cf, .slice none 0 0] 82)
                  exact (by simpa using this : ((W0.drew.alloc (.cells #[] 82)).alloc (.cells #[.string t, .slice F lf cf, .slice none 0 0] 82)).heap[W0.heap.size + 1]? = some (.cells #[.string t, .slice F lf cf, .slice none 0 0] 82 (0, 0)))
                have HOX : Hid (((W0.drew.alloc (.cells #[.string t, .slice F lf cf, .slice none 0 0] 82)).alloc (.cells #[] 82)).heap[W0.heap.size]? = some (.cells #[.string t, .slice F lf cf, .slice none 0 0] 82 (0, 0))) := by
                  show _ = _
                  rw [Below.heap_alloc _ _ _ (by simp)]
                  exact heap_alloc_new W0.drew _
                refine wp_region_pop (S := fun w' => w'.cell? ⟨x, 1, none⟩ = some (.slice (some ⟨g, 0, none⟩) c9 c9) ∧ w'.cell? ⟨q, 1, none⟩ = some (.slice F lf cf) ∧ w'.frozen? ⟨x, 1, none⟩ = false) (by kernel_rfl) (by simp only [List.pop_toArray, List.dropLast]; rfl) (by rfl) (by kernel_rfl) (HCL.out _ ((Below.refl _ _).drew)) (fun hHeld => ?_)
                refine wpAnyH_take (i := 0) (v := ?_) rfl (by kernel_rfl) (by kernel_rfl) (by kernel_rfl) (fun _ _ _ h => h) (Or.inl ⟨by rfl, ?_⟩) hHeld ?_
                rotate_left
                · intro w hSw
                  try dsimp only at hSw
                  go_simp
                  try with_reducible rfl
                try simp only [Act.put, List.setIfInBounds_toArray, List.set_cons_zero, List.set_cons_succ]
                refine wpAnyH_take (i := 2) (v := ?_) rfl (by kernel_rfl) (by kernel_rfl) (by kernel_rfl) (fun _ _ _ h => h) (Or.inl ⟨by rfl, ?_⟩) hHeld ?_
                rotate_left
                · intro w hSw
                  try dsimp only at hSw
                  go_simp
                  try with_reducible rfl
                try simp only [Act.put, List.setIfInBounds_toArray, List.set_cons_zero, List.set_cons_succ]
                refine wpAnyH_take (i := 3) (v := ?_) rfl (by kernel_rfl) (by kernel_rfl) (by kernel_rfl) (fun _ _ _ h => h) (Or.inl ⟨by rfl, ?_⟩) hHeld ?_
                rotate_left
                · intro w hSw
                  try dsimp only at hSw
                  go_simp
                  try with_reducible rfl
                try simp only [Act.put, List.setIfInBounds_toArray, List.set_cons_zero, List.set_cons_succ]
                refine wpAnyH_take (i := 4) (v := ?_) rfl (by kernel_rfl) (by kernel_rfl) (by kernel_rfl) (fun _ _ _ h => h) (Or.inl ⟨by rfl, ?_⟩) hHeld ?_
                rotate_left
                · intro w hSw
                  try dsimp only at hSw
                  go_simp
                  try with_reducible rfl
                try simp only [Act.put, List.setIfInBounds_toArray, List.set_cons_zero, List.set_cons_succ]
                refine wpAnyH_take (i := 5) (v := ?_) rfl (by kernel_rfl) (by kernel_rfl) (by kernel_rfl) (fun _ _ _ h => h) (Or.inl ⟨by rfl, ?_⟩) hHeld ?_
                rotate_left
                · intro w hSw
                  try dsimp only at hSw
                  go_simp
                  try with_reducible rfl
                try simp only [Act.put, List.setIfInBounds_toArray, List.set_cons_zero, List.set_cons_succ]
                refine wpAnyH_take (i := 6) (v := ?_) rfl (by kernel_rfl) (by kernel_rfl) (by kernel_rfl) (fun _ _ _ h => h) (Or.inl ⟨by rfl, ?_⟩) hHeld ?_
                rotate_left
                · intro w hSw
                  try dsimp only at hSw
                  go_simp
                  try with_reducible rfl
                try simp only [Act.put, List.setIfInBounds_toArray, List.set_cons_zero, List.set_cons_succ]
                refine wpAnyH_take (i := 7) (v := ?_) rfl (by kernel_rfl) (by kernel_rfl) (by kernel_rfl) (fun _ _ _ h => h) (Or.inl ⟨by rfl, ?_⟩) hHeld ?_
                rotate_left
                · intro w hSw
                  try dsimp only at hSw
                  go_simp
                  try with_reducible rfl
                try simp only [Act.put, List.setIfInBounds_toArray, List.set_cons_zero, List.set_cons_succ]
                refine wpAnyH_take (i := 9) (v := ?_) rfl (by kernel_rfl) (by kernel_rfl) (by kernel_rfl) (fun _ _ _ h => h) (Or.inl ⟨by rfl, ?_⟩) hHeld ?_
                rotate_left
                · intro w hSw
                  try dsimp only at hSw
                  go_simp
                  try with_reducible rfl
                try simp only [Act.put, List.setIfInBounds_toArray, List.set_cons_zero, List.set_cons_succ]
                refine wpAnyH_take (i := 10) (v := ?_) rfl (by kernel_rfl) (by kernel_rfl) (by kernel_rfl) (fun _ _ _ h => h) (Or.inl ⟨by rfl, ?_⟩) hHeld ?_
                rotate_left
                · intro w hSw
                  try dsimp only at hSw
                  go_simp
                  try with_reducible rfl
                try simp only [Act.put, List.setIfInBounds_toArray, List.set_cons_zero, List.set_cons_succ]
                refine wpAnyH_take (i := 11) (v := ?_) rfl (by kernel_rfl) (by kernel_rfl) (by kernel_rfl) (fun _ _ _ h => h) (Or.inl ⟨by rfl, ?_⟩) hHeld ?_
                rotate_left
                · intro w hSw
                  try dsimp only at hSw
                  go_simp
                  try with_reducible rfl
                try simp only [Act.put, List.setIfInBounds_toArray, List.set_cons_zero, List.set_cons_succ]
                refine wpAnyH_take (i := 12) (v := ?_) rfl (by kernel_rfl) (by kernel_rfl) (by kernel_rfl) (fun _ _ _ h => h) (Or.inl ⟨by rfl, ?_⟩) hHeld ?_
                rotate_left
                · intro w hSw
                  try dsimp only at hSw
                  go_simp
                  try with_reducible rfl
                try simp only [Act.put, List.setIfInBounds_toArray, List.set_cons_zero, List.set_cons_succ]
                refine wpAnyH_take (i := 15) (v := ?_) rfl (by kernel_rfl) (by kernel_rfl) (by kernel_rfl) (fun _ _ _ h => h) (Or.inl ⟨by rfl, ?_⟩) hHeld ?_
                rotate_left
                · intro w hSw
                  try dsimp only at hSw
                  go_simp
                  try with_reducible rfl
                try simp only [Act.put, List.setIfInBounds_toArray, List.set_cons_zero, List.set_cons_succ]
                refine wpAnyH_take (i := 16) (v := ?_) rfl (by kernel_rfl) (by kernel_rfl) (by kernel_rfl) (fun _ _ _ h => h) (Or.inl ⟨by rfl, ?_⟩) hHeld ?_
                rotate_left
                · intro w hSw
                  try dsimp only at hSw
                  go_simp
                  try with_reducible rfl
                try simp only [Act.put, List.setIfInBounds_toArray, List.set_cons_zero, List.set_cons_succ]
                refine wpAnyH_take (i := 17) (v := ?_) rfl (by kernel_rfl) (by kernel_rfl) (by kernel_rfl) (fun _ _ _ h => h) (Or.inl ⟨by rfl, ?_⟩) hHeld ?_
                rotate_left
                · intro w hSw
                  try dsimp only at hSw
                  go_simp
                  try with_reducible rfl
                try simp only [Act.put, List.setIfInBounds_toArray, List.set_cons_zero, List.set_cons_succ]
                refine wpAnyH_take (i := 18) (v := ?_) rfl (by kernel_rfl) (by kernel_rfl) (by kernel_rfl) (fun _ _ _ h => h) (Or.inl ⟨by rfl, ?_⟩) hHeld ?_
                rotate_left
                · intro w hSw
                  try dsimp only at hSw
                  go_simp
                  try with_reducible rfl
                try simp only [Act.put, List.setIfInBounds_toArray, List.set_cons_zero, List.set_cons_succ]
                refine wpAnyH_take (i := 19) (v := ?_) rfl (by kernel_rfl) (by kernel_rfl) (by kernel_rfl) (fun _ _ _ h => h) (Or.inl ⟨by rfl, ?_⟩) hHeld ?_
                rotate_left
                · intro w hSw
                  try dsimp only at hSw
                  go_simp
                  try with_reducible rfl
                try simp only [Act.put, List.setIfInBounds_toArray, List.set_cons_zero, List.set_cons_succ]
                refine wpAnyH_take (i := 20) (v := ?_) rfl (by kernel_rfl) (by kernel_rfl) (by kernel_rfl) (fun _ _ _ h => h) (Or.inl ⟨by rfl, ?_⟩) hHeld ?_
                rotate_left
                · intro w hSw
                  try dsimp only at hSw
                  go_simp
                  try with_reducible rfl
                try simp only [Act.put, List.setIfInBounds_toArray, List.set_cons_zero, List.set_cons_succ]
                refine wpAnyH_ready (rs := [1, 13]) (by kernel_rfl) (by simp) ?_
                refine AllReadyH.cons rfl (fun K hK => ?_) (AllReadyH.cons rfl (fun K hK => ?_) AllReadyH.nil)
                · go_simp
                  refine hK.out _ _ (HCL.out _ HBA.out) (fun hHeld => ?_)
                  clear hK K
                  try simp only [Act.put, List.setIfInBounds_toArray, List.set_cons_zero, List.set_cons_succ]
                  refine wpAnyH_ready (rs := [8, 13]) (by kernel_rfl) (by simp) ?_
                  refine AllReadyH.cons rfl (fun K hK => ?_) (AllReadyH.cons rfl (fun K hK => ?_) AllReadyH.nil)
                  · skip
                    refine step_append_files0 (by rfl) (.tmp 56) (.tmp 62) (by rfl) W0.heap.size (.slice (some ⟨W0.heap.size, 0, none⟩) 0 0) (by rfl) HOa.out (some ⟨g, 0, none⟩) c9 c9 (cs.take (c9 * 3)) (by rfl) HT.out.1.1 (HN.out.1 _ HBA.out) HT.out.1.2 hat1 HBA.out.size ?_
                    intro A8 c8 w8 ho8 hg8 ha8
                    have hb8 : Below W0.heap.size W0 w8 := HBA.out.grown hg8 HBA.out.size (fun g e => by simp [Value.ownBlock] at e; omega)
                    have hsrc : (w8.alloc (.cells #[.string t, .slice F lf cf, .slice none 0 0] 82)).heap[w8.heap.size]? = some (.cells #[.string t, .slice F lf cf, .slice none 0 0] 82 (0, 0)) := heap_alloc_new w8 _
                    refine hK.out _ _ (HCL.out _ hb8) (fun hHeld => ?_)
                    clear hK K
                    try simp only [Act.put, List.setIfInBounds_toArray, List.set_cons_zero, List.set_cons_succ]
                    refine wpAnyH_ready (rs := [13]) (by kernel_rfl) (by simp) ?_
                    refine AllReadyH.cons rfl (fun K hK => ?_) AllReadyH.nil
                    go_simp
                    have hb8' : Below W0.heap.size W0 (w8.alloc (.cells #[.string t, .slice F lf cf, .slice none 0 0] 82)) := hb8.alloc hb8.size _
                    refine hK.out _ _ (HCL.out _ hb8') (fun hHeld => ?_)
                    clear hK K
                    try simp only [Act.put, List.setIfInBounds_toArray, List.set_cons_zero, List.set_cons_succ]
                    refine wpAnyH_ready (rs := [14]) (by kernel_rfl) (by simp) ?_
                    refine AllReadyH.cons rfl (fun K hK => ?_) AllReadyH.nil
                    refine step_append_files (by rfl) (.tmp 63) (.tmp 68) (by rfl) W0.heap.size (.slice A8 c9 c8) c9 (cs.take (c9 * 3)) (by rfl) (ho8.alloc _) (some ⟨w8.heap.size, 0, none⟩) 1 1 [.string t, .slice F lf cf, .slice none 0 0] (by rfl) (by rfl) (fun j u hj => ⟨_, rfl, World.news_of_block (cs := #[.string t, .slice F lf cf, .slice none 0 0]) (t := 82) (fr := (0, 0)) hsrc j u hj⟩) (by simp [Value.oneCell']) HBD1.out (Below.size hb8') ?_
                    intro A9 cc9 w9 ho9 hg9 ha9
                    have hb9 : Below W0.heap.size W0 w9 := Below.grown hb8' hg9 (Below.size hb8') (fun g e => (own_lt ho8 e).1)
                    refine hK.out _ _ (HCL.out _ hb9) (fun hHeld => ?_)
                    clear hK K
                    try simp only [Act.put, List.setIfInBounds_toArray, List.set_cons_zero, List.set_cons_succ]
                    refine wpAnyH_ready (rs := [21]) (by kernel_rfl) (by simp) ?_
                    refine AllReadyH.cons rfl (fun K hK => ?_) AllReadyH.nil
                    refine step_append_files (by rfl) (.tmp 69) (.tmp 75) (by rfl) W0.heap.size (.slice A9 (c9 + 1) cc9) (c9 + 1) ((cs.take (c9 * 3)) ++ [.string t, .slice F lf cf, .slice none 0 0]) (by rfl) ho9 (some ⟨g, 0, none⟩) 0 _ [] (by rfl) rfl (fun j u hj => by simp at hj) (fun u hu => by cases hu) HBD2.out hb9.size ?_
                    intro A10 c10 w10 ho10 hg10 ha10
                    have hb10 : Below W0.heap.size W0 w10 := hb9.grown hg10 hb9.size (fun g e => (own_lt ho9 e).1)
                    have HG9 := Lib.hid (HFIN.out w10 A10 c10 hb10 ho10)
                    obtain ⟨y0, y1, y2⟩ := HCL.out _ hb10
                    refine hK.out _ _ (HCL.out _ hb10) (fun hHeld => ?_)
                    clear hK K
                    try simp only [Act.put, List.setIfInBounds_toArray, List.set_cons_zero, List.set_cons_succ]
                    refine wpAnyH_take (i := 22) (v := ?_) rfl (by kernel_rfl) (by kernel_rfl) (by kernel_rfl) (fun _ _ _ h => h) (Or.inl ⟨by rfl, ?_⟩) hHeld ?_
                    rotate_left
                    · intro w hSw
                      try dsimp only at hSw
                      go_simp
                      try with_reducible rfl
                    try simp only [Act.put, List.setIfInBounds_toArray, List.set_cons_zero, List.set_cons_succ]
                    refine wpAnyH_take (i := 23) (v := ?_) rfl (by kernel_rfl) (by kernel_rfl) (by kernel_rfl) (fun _ _ _ h => h) (Or.inl ⟨by rfl, ?_⟩) hHeld ?_
                    rotate_left
                    · intro w hSw
                      try dsimp only at hSw
                      go_simp
                      try with_reducible rfl
                    try simp only [Act.put, List.setIfInBounds_toArray, List.set_cons_zero, List.set_cons_succ]
                    refine wpAnyH_done (by kernel_rfl) ?_ _
                    clear ho10 hg10 ha10 hb10 ho9 hg9 ha9 hb9 ho8 hg8 ha8 hb8 hHeld
                    unfold LastQ
                    go_simp
                    go_wp2_with fail
                    go_ret
                    exact HG9.out
                  · go_simp
                    refine hK.out _ _ (HCL.out _ HBB.out) (fun hHeld => ?_)
                    clear hK K
                    try simp only [Act.put, List.setIfInBounds_toArray, List.set_cons_zero, List.set_cons_succ]
                    refine wpAnyH_ready (rs := [8]) (by kernel_rfl) (by simp) ?_
                    refine AllReadyH.cons rfl (fun K hK => ?_) AllReadyH.nil
                    refine step_append_files0 (by rfl) (.tmp 56) (.tmp 62) (by rfl) W0.heap.size (.slice (some ⟨W0.heap.size, 0, none⟩) 0 0) (by rfl) HOb.out (some ⟨g, 0, none⟩) c9 c9 (cs.take (c9 * 3)) (by rfl) HT.out.1.1 (HN.out.1 _ HBB.out) HT.out.1.2 hat1 HBB.out.size ?_
                    intro A8 c8 w8 ho8 hg8 ha8
                    have hb8 : Below W0.heap.size W0 w8 := HBB.out.grown hg8 HBB.out.size (fun g e => by simp [Value.ownBlock] at e; omega)
                    have hsrc := (hg8.block (W0.heap.size + 1) (by simp) (by simp [Value.ownBlock])).trans HOO.out
                    refine hK.out _ _ (HCL.out _ hb8) (fun hHeld => ?_)
                    clear hK K
                    try simp only [Act.put, List.setIfInBounds_toArray, List.set_cons_zero, List.set_cons_succ]
                    refine wpAnyH_ready (rs := [14]) (by kernel_rfl) (by simp) ?_
                    refine AllReadyH.cons rfl (fun K hK => ?_) AllReadyH.nil
                    refine step_append_files (by rfl) (.tmp 63) (.tmp 68) (by rfl) W0.heap.size (.slice A8 c9 c8) c9 (cs.take (c9 * 3)) (by rfl) ho8 (some ⟨W0.heap.size + 1, 0, none⟩) 1 1 [.string t, .slice F lf cf, .slice none 0 0] (by rfl) (by rfl) (fun j u hj => ⟨_, rfl, World.news_of_block (cs := #[.string t, .slice F lf cf, .slice none 0 0]) (t := 82) (fr := (0, 0)) hsrc j u hj⟩) (by simp [Value.oneCell']) HBD1.out (Below.size hb8) ?_
                    intro A9 cc9 w9 ho9 hg9 ha9
                    have hb9 : Below W0.heap.size W0 w9 := Below.grown hb8 hg9 (Below.size hb8) (fun g e => (own_lt ho8 e).1)
                    refine hK.out _ _ (HCL.out _ hb9) (fun hHeld => ?_)
                    clear hK K
                    try simp only [Act.put, List.setIfInBounds_toArray, List.set_cons_zero, List.set_cons_succ]
                    refine wpAnyH_ready (rs := [21]) (by kernel_rfl) (by simp) ?_
                    refine AllReadyH.cons rfl (fun K hK => ?_) AllReadyH.nil
                    refine step_append_files (by rfl) (.tmp 69) (.tmp 75) (by rfl) W0.heap.size (.slice A9 (c9 + 1) cc9) (c9 + 1) ((cs.take (c9 * 3)) ++ [.string t, .slice F lf cf, .slice none 0 0]) (by rfl) ho9 (some ⟨g, 0, none⟩) 0 _ [] (by rfl) rfl (fun j u hj => by simp at hj) (fun u hu => by cases hu) HBD2.out hb9.size ?_
                    intro A10 c10 w10 ho10 hg10 ha10
                    have hb10 : Below W0.heap.size W0 w10 := hb9.grown hg10 hb9.size (fun g e => (own_lt ho9 e).1)
                    have HG9 := Lib.hid (HFIN.out w10 A10 c10 hb10 ho10)
                    obtain ⟨y0, y1, y2⟩ := HCL.out _ hb10
                    refine hK.out _ _ (HCL.out _ hb10) (fun hHeld => ?_)
                    clear hK K
                    try simp only [Act.put, List.setIfInBounds_toArray, List.set_cons_zero, List.set_cons_succ]
                    refine wpAnyH_take (i := 22) (v := ?_) rfl (by kernel_rfl) (by kernel_rfl) (by kernel_rfl) (fun _ _ _ h => h) (Or.inl ⟨by rfl, ?_⟩) hHeld ?_
                    rotate_left
                    · intro w hSw
                      try dsimp only at hSw
                      go_simp
                      try with_reducible rfl
                    try simp only [Act.put, List.setIfInBounds_toArray, List.set_cons_zero, List.set_cons_succ]
                    refine wpAnyH_take (i := 23) (v := ?_) rfl (by kernel_rfl) (by kernel_rfl) (by kernel_rfl) (fun _ _ _ h => h) (Or.inl ⟨by rfl, ?_⟩) hHeld ?_
                    rotate_left
                    · intro w hSw
                      try dsimp only at hSw
                      go_simp
                      try with_reducible rfl
                    try simp only [Act.put, List.setIfInBounds_toArray, List.set_cons_zero, List.set_cons_succ]
                    refine wpAnyH_done (by kernel_rfl) ?_ _
                    clear ho10 hg10 ha10 hb10 ho9 hg9 ha9 hb9 ho8 hg8 ha8 hb8 hHeld
                    unfold LastQ
                    go_simp
                    go_wp2_with fail
                    go_ret
                    exact HG9.out
                · go_simp
                  refine hK.out _ _ (HCL.out _ HBD.out) (fun hHeld => ?_)
                  clear hK K
                  try simp only [Act.put, List.setIfInBounds_toArray, List.set_cons_zero, List.set_cons_succ]
                  refine wpAnyH_ready (rs := [1]) (by kernel_rfl) (by simp) ?_
                  refine AllReadyH.cons rfl (fun K hK => ?_) AllReadyH.nil
                  go_simp
                  refine hK.out _ _ (HCL.out _ HBC.out) (fun hHeld => ?_)
                  clear hK K
                  try simp only [Act.put, List.setIfInBounds_toArray, List.set_cons_zero, List.set_cons_succ]
                  refine wpAnyH_ready (rs := [8]) (by kernel_rfl) (by simp) ?_
                  refine AllReadyH.cons rfl (fun K hK => ?_) AllReadyH.nil
                  refine step_append_files0 (by rfl) (.tmp 56) (.tmp 62) (by rfl) W0.heap.size (.slice (some ⟨W0.heap.size + 1, 0, none⟩) 0 0) (by rfl) HOc.out (some ⟨g, 0, none⟩) c9 c9 (cs.take (c9 * 3)) (by rfl) HT.out.1.1 (HN.out.1 _ HBC.out) HT.out.1.2 hat1 HBC.out.size ?_
                  intro A8 c8 w8 ho8 hg8 ha8
                  have hb8 : Below W0.heap.size W0 w8 := HBC.out.grown hg8 HBC.out.size (fun g e => by simp [Value.ownBlock] at e; omega)
                  have hsrc := (hg8.block W0.heap.size (by simp; omega) (by simp [Value.ownBlock])).trans HOX.out
                  refine hK.out _ _ (HCL.out _ hb8) (fun hHeld => ?_)
                  clear hK K
                  try simp only [Act.put, List.setIfInBounds_toArray, List.set_cons_zero, List.set_cons_succ]
                  refine wpAnyH_ready (rs := [14]) (by kernel_rfl) (by simp) ?_
                  refine AllReadyH.cons rfl (fun K hK => ?_) AllReadyH.nil
                  refine step_append_files (by rfl) (.tmp 63) (.tmp 68) (by rfl) W0.heap.size (.slice A8 c9 c8) c9 (cs.take (c9 * 3)) (by rfl) ho8 (some ⟨W0.heap.size, 0, none⟩) 1 1 [.string t, .slice F lf cf, .slice none 0 0] (by rfl) (by rfl) (fun j u hj => ⟨_, rfl, World.news_of_block (cs := #[.string t, .slice F lf cf, .slice none 0 0]) (t := 82) (fr := (0, 0)) hsrc j u hj⟩) (by simp [Value.oneCell']) HBD1.out (Below.size hb8) ?_
                  intro A9 cc9 w9 ho9 hg9 ha9
                  have hb9 : Below W0.heap.size W0 w9 := Below.grown hb8 hg9 (Below.size hb8) (fun g e => (own_lt ho8 e).1)
                  refine hK.out _ _ (HCL.out _ hb9) (fun hHeld => ?_)
                  clear hK K
                  try simp only [Act.put, List.setIfInBounds_toArray, List.set_cons_zero, List.set_cons_succ]
                  refine wpAnyH_ready (rs := [21]) (by kernel_rfl) (by simp) ?_
                  refine AllReadyH.cons rfl (fun K hK => ?_) AllReadyH.nil
                  refine step_append_files (by rfl) (.tmp 69) (.tmp 75) (by rfl) W0.heap.size (.slice A9 (c9 + 1) cc9) (c9 + 1) ((cs.take (c9 * 3)) ++ [.string t, .slice F lf cf, .slice none 0 0]) (by rfl) ho9 (some ⟨g, 0, none⟩) 0 _ [] (by rfl) rfl (fun j u hj => by simp at hj) (fun u hu => by cases hu) HBD2.out hb9.size ?_
                  intro A10 c10 w10 ho10 hg10 ha10
                  have hb10 : Below W0.heap.size W0 w10 := hb9.grown hg10 hb9.size (fun g e => (own_lt ho9 e).1)
                  have HG9 := Lib.hid (HFIN.out w10 A10 c10 hb10 ho10)
                  obtain ⟨y0, y1, y2⟩ := HCL.out _ hb10
                  refine hK.out _ _ (HCL.out _ hb10) (fun hHeld => ?_)
                  clear hK K
                  try simp only [Act.put, List.setIfInBounds_toArray, List.set_cons_zero, List.set_cons_succ]
                  refine wpAnyH_take (i := 22) (v := ?_) rfl (by kernel_rfl) (by kernel_rfl) (by kernel_rfl) (fun _ _ _ h => h) (Or.inl ⟨by rfl, ?_⟩) hHeld ?_
                  rotate_left
                  · intro w hSw
                    try dsimp only at hSw
                    go_simp
                    try with_reducible rfl
                  try simp only [Act.put, List.setIfInBounds_toArray, List.set_cons_zero, List.set_cons_succ]
                  refine wpAnyH_take (i := 23) (v := ?_) rfl (by kernel_rfl) (by kernel_rfl) (by kernel_rfl) (fun _ _ _ h => h) (Or.inl ⟨by rfl, ?_⟩) hHeld ?_
                  rotate_left
                  · intro w hSw
                    try dsimp only at hSw
                    go_simp
                    try with_reducible rfl
                  try simp only [Act.put, List.setIfInBounds_toArray, List.set_cons_zero, List.set_cons_succ]
                  refine wpAnyH_done (by kernel_rfl) ?_ _
                  clear ho10 hg10 ha10 hb10 ho9 hg9 ha9 hb9 ho8 hg8 ha8 hb8 hHeld
                  unfold LastQ
                  go_simp
                  go_wp2_with fail
                  go_ret
                  exact HG9.out
              · have hac : at' < c9 := by omega
                obtain ⟨ln, hln⟩ : ∃ y, y = L3.length := ⟨_, rfl⟩
                have HLN := Lib.hid hln
                have hpl' : at' ≤ ln := by omega
                have hnc' : ln ≤ c9 := by omega
                have hln3 : ln ≤ 1000 := by omega
                have j1 : (at' : Int) ≤ (c9 : Int) := by omega
                have j2 : (at' : Int) ≤ (ln : Int) := by omega
                have j3 : (ln : Int) ≤ (c9 : Int) := by omega
                have j4 : (0 : Int) ≤ (at' : Int) := by omega
                have HCL : Hid (∀ W, Below W0.heap.size W0 W → W.cell? ⟨x, 1, none⟩ = some (.slice (some ⟨g, 0, none⟩) ln c9) ∧ W.cell? ⟨q, 1, none⟩ = some (.slice F lf cf) ∧ W.frozen? ⟨x, 1, none⟩ = false) := fun W hW => by
                  have r := HR0.out.below hW
                  exact ⟨by rw [r.cells.2.1, e9, hln], four_q ((hW.block q (lt_of_block HQ0.out)).trans HQ0.out), r.free 1⟩
                have hcut := RD.cut2 hnc (by rw [← e9]; exact ho0) (by rw [← e9]; exact HCC.out) hpl
                rw [← hln] at hcut
                have HN := Lib.hid (And.intro hcut.1 hcut.2.1)
                have HT := Lib.hid (And.intro hcut.2.2.1 hcut.2.2.2)
                have HFIN : Hid (∀ w9 A9 c10, Below W0.heap.size W0 w9 → w9.ownsRow W0.heap.size 82 3 (.slice A9 (at' + 1 + (ln - at')) c10) (at' + 1 + (ln - at')) ((cs.take (at' * 3)) ++ [.string t, .slice F lf cf, .slice none 0 0] ++ (cs.drop (at' * 3))) → RSwap w B x p room v L s t (.returned (.int .i64 0)) (w9.setCell ⟨x, 1, none⟩ (.slice A9 (at' + 1 + (ln - at')) c10))) := fun w9 A9 c10 hb9 ho9 => by
                  rw [HLF.out] at ho9
                  obtain ⟨z1, z2⟩ := HR0.out.ins (n9 := at' + 1 + (ln - at')) (f := ⟨t, L[k].firm, []⟩) (k := at') (G := none) (cg := 0) HCC.out (by rw [← HLF.out]; exact HCF.out) (Nat.le_refl _) HF0.out (by simpa [u8s] using Row.nil) hb9 (by have := HLN.out; omega) ho9 (by have := HLN.out; omega)
                  refine ⟨by rw [HE.out], _, ?_, HC0.out.trans z2⟩
                  rw [HE.out, if_pos rfl, HLL.out, insR, ← HAT.out]
                  exact z1
                clear hln hpl hnc
                clear ho0 hc0 e9 i3 hh hcut
                have HBD1 : Hid (at' + 1 ≤ 1000000) := by show _ ≤ _; omega
                have HBD2 : Hid (at' + 1 + (ln - at') ≤ 1000000) := by show _ ≤ _; omega
                have HOa : Hid ((W0.drew.alloc (.cells #[] 82)).ownsRow W0.heap.size 82 3 (.slice (some ⟨W0.heap.size, 0, none⟩) 0 0) 0 []) := World.ownsRow_lit W0.drew #[] 0 (Nat.le_refl _) (by decide) rfl
                have HOb : Hid (((W0.drew.alloc (.cells #[] 82)).alloc (.cells #[.string t, .slice F lf cf, .slice none 0 0] 82)).ownsRow W0.heap.size 82 3 (.slice (some ⟨W0.heap.size, 0, none⟩) 0 0) 0 []) := HOa.out.alloc _
                have HOc : Hid (((W0.drew.alloc (.cells #[.string t, .slice F lf cf, .slice none 0 0] 82)).alloc (.cells #[] 82)).ownsRow W0.heap.size 82 3 (.slice (some ⟨W0.heap.size + 1, 0, none⟩) 0 0) 0 []) := by
                  have := World.ownsRow_lit (base := W0.heap.size) (e := 82) (size := 3) (W0.drew.alloc (.cells #[.string t, .slice F lf cf, .slice none 0 0] 82)) #[] 0 (by simp) (by decide) rfl
                  have hz : (W0.drew.alloc (.cells #[.string t, .slice F lf cf, .slice none 0 0] 82)).heap.size = W0.heap.size + 1 := by simp
                  rw [hz] at this
                  exact this
                have HBA : Hid (Below W0.heap.size W0 (W0.drew.alloc (.cells #[] 82))) := ((Below.refl _ _).drew).alloc (Nat.le_refl _) _
                have HBB : Hid (Below W0.heap.size W0 ((W0.drew.alloc (.cells #[] 82)).alloc (.cells #[.string t, .slice F lf cf, .slice none 0 0] 82))) := HBA.out.alloc HBA.out.size _
                have HBD : Hid (Below W0.heap.size W0 (W0.drew.alloc (.cells #[.string t, .slice F lf cf, .slice none 0 0] 82))) := ((Below.refl _ _).drew).alloc (Nat.le_refl _) _
                have HBC : Hid (Below W0.heap.size W0 ((W0.drew.alloc (.cells #[.string t, .slice F lf cf, .slice none 0 0] 82)).alloc (.cells #[] 82))) := HBD.out.alloc HBD.out.size _
                have HOO : Hid (((W0.drew.alloc (.cells #[] 82)).alloc (.cells #[.string t, .slice F lf cf, .slice none 0 0] 82)).heap[W0.heap.size + 1]? = some (.cells #[.string t, .slice F lf cf, .slice none 0 0] 82 (0, 0))) := by
                  have := heap_alloc_new (W0.drew.alloc (.cells #[] 82)) (.cells #[.string t, .slice F lf cf, .slice none 0 0] 82)
                  exact (by simpa using this : ((W0.drew.alloc (.cells #[] 82)).alloc (.cells #[.string t, .slice F lf cf, .slice none 0 0] 82)).heap[W0.heap.size + 1]? = some (.cells #[.string t, .slice F lf cf, .slice none 0 0] 82 (0, 0)))
                have HOX : Hid (((W0.drew.alloc (.cells #[.string t, .slice F lf cf, .slice none 0 0] 82)).alloc (.cells #[] 82)).heap[W0.heap.size]? = some (.cells #[.string t, .slice F lf cf, .slice none 0 0] 82 (0, 0))) := by
                  show _ = _
                  rw [Below.heap_alloc _ _ _ (by simp)]
                  exact heap_alloc_new W0.drew _
                refine wp_region_pop (S := fun w' => w'.cell? ⟨x, 1, none⟩ = some (.slice (some ⟨g, 0, none⟩) ln c9) ∧ w'.cell? ⟨q, 1, none⟩ = some (.slice F lf cf) ∧ w'.frozen? ⟨x, 1, none⟩ = false) (by kernel_rfl) (by simp only [List.pop_toArray, List.dropLast]; rfl) (by rfl) (by kernel_rfl) (HCL.out _ ((Below.refl _ _).drew)) (fun hHeld => ?_)
                refine wpAnyH_take (i := 0) (v := ?_) rfl (by kernel_rfl) (by kernel_rfl) (by kernel_rfl) (fun _ _ _ h => h) (Or.inl ⟨by rfl, ?_⟩) hHeld ?_
                rotate_left
                · intro w hSw
                  try dsimp only at hSw
                  go_simp
                  try with_reducible rfl
                try simp only [Act.put, List.setIfInBounds_toArray, List.set_cons_zero, List.set_cons_succ]
                refine wpAnyH_take (i := 2) (v := ?_) rfl (by kernel_rfl) (by kernel_rfl) (by kernel_rfl) (fun _ _ _ h => h) (Or.inl ⟨by rfl, ?_⟩) hHeld ?_
                rotate_left
                · intro w hSw
                  try dsimp only at hSw
                  go_simp
                  try with_reducible rfl
                try simp only [Act.put, List.setIfInBounds_toArray, List.set_cons_zero, List.set_cons_succ]
                refine wpAnyH_take (i := 3) (v := ?_) rfl (by kernel_rfl) (by kernel_rfl) (by kernel_rfl) (fun _ _ _ h => h) (Or.inl ⟨by rfl, ?_⟩) hHeld ?_
                rotate_left
                · intro w hSw
                  try dsimp only at hSw
                  go_simp
                  try with_reducible rfl
                try simp only [Act.put, List.setIfInBounds_toArray, List.set_cons_zero, List.set_cons_succ]
                refine wpAnyH_take (i := 4) (v := ?_) rfl (by kernel_rfl) (by kernel_rfl) (by kernel_rfl) (fun _ _ _ h => h) (Or.inl ⟨by rfl, ?_⟩) hHeld ?_
                rotate_left
                · intro w hSw
                  try dsimp only at hSw
                  go_simp
                  try with_reducible rfl
                try simp only [Act.put, List.setIfInBounds_toArray, List.set_cons_zero, List.set_cons_succ]
                refine wpAnyH_take (i := 5) (v := ?_) rfl (by kernel_rfl) (by kernel_rfl) (by kernel_rfl) (fun _ _ _ h => h) (Or.inl ⟨by rfl, ?_⟩) hHeld ?_
                rotate_left
                · intro w hSw
                  try dsimp only at hSw
                  go_simp
                  try with_reducible rfl
                try simp only [Act.put, List.setIfInBounds_toArray, List.set_cons_zero, List.set_cons_succ]
                refine wpAnyH_take (i := 6) (v := ?_) rfl (by kernel_rfl) (by kernel_rfl) (by kernel_rfl) (fun _ _ _ h => h) (Or.inl ⟨by rfl, ?_⟩) hHeld ?_
                rotate_left
                · intro w hSw
                  try dsimp only at hSw
                  go_simp
                  try with_reducible rfl
                try simp only [Act.put, List.setIfInBounds_toArray, List.set_cons_zero, List.set_cons_succ]
                refine wpAnyH_take (i := 7) (v := ?_) rfl (by kernel_rfl) (by kernel_rfl) (by kernel_rfl) (fun _ _ _ h => h) (Or.inl ⟨by rfl, ?_⟩) hHeld ?_
                rotate_left
                · intro w hSw
                  try dsimp only at hSw
                  go_simp
                  try with_reducible rfl
                try simp only [Act.put, List.setIfInBounds_toArray, List.set_cons_zero, List.set_cons_succ]
                refine wpAnyH_take (i := 9) (v := ?_) rfl (by kernel_rfl) (by kernel_rfl) (by kernel_rfl) (fun _ _ _ h => h) (Or.inl ⟨by rfl, ?_⟩) hHeld ?_
                rotate_left
                · intro w hSw
                  try dsimp only at hSw
                  go_simp
                  try with_reducible rfl
                try simp only [Act.put, List.setIfInBounds_toArray, List.set_cons_zero, List.set_cons_succ]
                refine wpAnyH_take (i := 10) (v := ?_) rfl (by kernel_rfl) (by kernel_rfl) (by kernel_rfl) (fun _ _ _ h => h) (Or.inl ⟨by rfl, ?_⟩) hHeld ?_
                rotate_left
                · intro w hSw
                  try dsimp only at hSw
                  go_simp
                  try with_reducible rfl
                try simp only [Act.put, List.setIfInBounds_toArray, List.set_cons_zero, List.set_cons_succ]
                refine wpAnyH_take (i := 11) (v := ?_) rfl (by kernel_rfl) (by kernel_rfl) (by kernel_rfl) (fun _ _ _ h => h) (Or.inl ⟨by rfl, ?_⟩) hHeld ?_
                rotate_left
                · intro w hSw
                  try dsimp only at hSw
                  go_simp
                  try with_reducible rfl
                try simp only [Act.put, List.setIfInBounds_toArray, List.set_cons_zero, List.set_cons_succ]
                refine wpAnyH_take (i := 12) (v := ?_) rfl (by kernel_rfl) (by kernel_rfl) (by kernel_rfl) (fun _ _ _ h => h) (Or.inl ⟨by rfl, ?_⟩) hHeld ?_
                rotate_left
                · intro w hSw
                  try dsimp only at hSw
                  go_simp
                  try with_reducible rfl
                try simp only [Act.put, List.setIfInBounds_toArray, List.set_cons_zero, List.set_cons_succ]
                refine wpAnyH_take (i := 15) (v := ?_) rfl (by kernel_rfl) (by kernel_rfl) (by kernel_rfl) (fun _ _ _ h => h) (Or.inl ⟨by rfl, ?_⟩) hHeld ?_
                rotate_left
                · intro w hSw
                  try dsimp only at hSw
                  go_simp
                  try with_reducible rfl
                try simp only [Act.put, List.setIfInBounds_toArray, List.set_cons_zero, List.set_cons_succ]
                refine wpAnyH_take (i := 16) (v := ?_) rfl (by kernel_rfl) (by kernel_rfl) (by kernel_rfl) (fun _ _ _ h => h) (Or.inl ⟨by rfl, ?_⟩) hHeld ?_
                rotate_left
                · intro w hSw
                  try dsimp only at hSw
                  go_simp
                  try with_reducible rfl
                try simp only [Act.put, List.setIfInBounds_toArray, List.set_cons_zero, List.set_cons_succ]
                refine wpAnyH_take (i := 17) (v := ?_) rfl (by kernel_rfl) (by kernel_rfl) (by kernel_rfl) (fun _ _ _ h => h) (Or.inl ⟨by rfl, ?_⟩) hHeld ?_
                rotate_left
                · intro w hSw
                  try dsimp only at hSw
                  go_simp
                  try with_reducible rfl
                try simp only [Act.put, List.setIfInBounds_toArray, List.set_cons_zero, List.set_cons_succ]
                refine wpAnyH_take (i := 18) (v := ?_) rfl (by kernel_rfl) (by kernel_rfl) (by kernel_rfl) (fun _ _ _ h => h) (Or.inl ⟨by rfl, ?_⟩) hHeld ?_
                rotate_left
                · intro w hSw
                  try dsimp only at hSw
                  go_simp
                  try with_reducible rfl
                try simp only [Act.put, List.setIfInBounds_toArray, List.set_cons_zero, List.set_cons_succ]
                refine wpAnyH_take (i := 19) (v := ?_) rfl (by kernel_rfl) (by kernel_rfl) (by kernel_rfl) (fun _ _ _ h => h) (Or.inl ⟨by rfl, ?_⟩) hHeld ?_
                rotate_left
                · intro w hSw
                  try dsimp only at hSw
                  go_simp
                  try with_reducible rfl
                try simp only [Act.put, List.setIfInBounds_toArray, List.set_cons_zero, List.set_cons_succ]
                refine wpAnyH_take (i := 20) (v := ?_) rfl (by kernel_rfl) (by kernel_rfl) (by kernel_rfl) (fun _ _ _ h => h) (Or.inl ⟨by rfl, ?_⟩) hHeld ?_
                rotate_left
                · intro w hSw
                  try dsimp only at hSw
                  go_simp
                  try with_reducible rfl
                try simp only [Act.put, List.setIfInBounds_toArray, List.set_cons_zero, List.set_cons_succ]
                refine wpAnyH_ready (rs := [1, 13]) (by kernel_rfl) (by simp) ?_
                refine AllReadyH.cons rfl (fun K hK => ?_) (AllReadyH.cons rfl (fun K hK => ?_) AllReadyH.nil)
                · go_simp
                  refine hK.out _ _ (HCL.out _ HBA.out) (fun hHeld => ?_)
                  clear hK K
                  try simp only [Act.put, List.setIfInBounds_toArray, List.set_cons_zero, List.set_cons_succ]
                  refine wpAnyH_ready (rs := [8, 13]) (by kernel_rfl) (by simp) ?_
                  refine AllReadyH.cons rfl (fun K hK => ?_) (AllReadyH.cons rfl (fun K hK => ?_) AllReadyH.nil)
                  · skip
                    refine step_append_files0 (by rfl) (.tmp 56) (.tmp 62) (by rfl) W0.heap.size (.slice (some ⟨W0.heap.size, 0, none⟩) 0 0) (by rfl) HOa.out (some ⟨g, 0, none⟩) at' c9 (cs.take (at' * 3)) (by rfl) HT.out.1.1 (HN.out.1 _ HBA.out) HT.out.1.2 hat1 HBA.out.size ?_
                    intro A8 c8 w8 ho8 hg8 ha8
                    have hb8 : Below W0.heap.size W0 w8 := HBA.out.grown hg8 HBA.out.size (fun g e => by simp [Value.ownBlock] at e; omega)
                    have hsrc : (w8.alloc (.cells #[.string t, .slice F lf cf, .slice none 0 0] 82)).heap[w8.heap.size]? = some (.cells #[.string t, .slice F lf cf, .slice none 0 0] 82 (0, 0)) := heap_alloc_new w8 _
                    refine hK.out _ _ (HCL.out _ hb8) (fun hHeld => ?_)
                    clear hK K
                    try simp only [Act.put, List.setIfInBounds_toArray, List.set_cons_zero, List.set_cons_succ]
                    refine wpAnyH_ready (rs := [13]) (by kernel_rfl) (by simp) ?_
                    refine AllReadyH.cons rfl (fun K hK => ?_) AllReadyH.nil
                    go_simp
                    have hb8' : Below W0.heap.size W0 (w8.alloc (.cells #[.string t, .slice F lf cf, .slice none 0 0] 82)) := hb8.alloc hb8.size _
                    refine hK.out _ _ (HCL.out _ hb8') (fun hHeld => ?_)
                    clear hK K
                    try simp only [Act.put, List.setIfInBounds_toArray, List.set_cons_zero, List.set_cons_succ]
                    refine wpAnyH_ready (rs := [14]) (by kernel_rfl) (by simp) ?_
                    refine AllReadyH.cons rfl (fun K hK => ?_) AllReadyH.nil
                    refine step_append_files (by rfl) (.tmp 63) (.tmp 68) (by rfl) W0.heap.size (.slice A8 at' c8) at' (cs.take (at' * 3)) (by rfl) (ho8.alloc _) (some ⟨w8.heap.size, 0, none⟩) 1 1 [.string t, .slice F lf cf, .slice none 0 0] (by rfl) (by rfl) (fun j u hj => ⟨_, rfl, World.news_of_block (cs := #[.string t, .slice F lf cf, .slice none 0 0]) (t := 82) (fr := (0, 0)) hsrc j u hj⟩) (by simp [Value.oneCell']) HBD1.out (Below.size hb8') ?_
                    intro A9 cc9 w9 ho9 hg9 ha9
                    have hb9 : Below W0.heap.size W0 w9 := Below.grown hb8' hg9 (Below.size hb8') (fun g e => (own_lt ho8 e).1)
                    refine hK.out _ _ (HCL.out _ hb9) (fun hHeld => ?_)
                    clear hK K
                    try simp only [Act.put, List.setIfInBounds_toArray, List.set_cons_zero, List.set_cons_succ]
                    refine wpAnyH_ready (rs := [21]) (by kernel_rfl) (by simp) ?_
                    refine AllReadyH.cons rfl (fun K hK => ?_) AllReadyH.nil
                    refine step_append_files (by rfl) (.tmp 69) (.tmp 75) (by rfl) W0.heap.size (.slice A9 (at' + 1) cc9) (at' + 1) ((cs.take (at' * 3)) ++ [.string t, .slice F lf cf, .slice none 0 0]) (by rfl) ho9 (some ⟨g, at' * 3, none⟩) (ln - at') (c9 - at') (cs.drop (at' * 3)) (by rfl) HT.out.2.1 (HN.out.2 _ hb9) HT.out.2.2 HBD2.out hb9.size ?_
                    intro A10 c10 w10 ho10 hg10 ha10
                    have hb10 : Below W0.heap.size W0 w10 := hb9.grown hg10 hb9.size (fun g e => (own_lt ho9 e).1)
                    have HG9 := Lib.hid (HFIN.out w10 A10 c10 hb10 ho10)
                    obtain ⟨y0, y1, y2⟩ := HCL.out _ hb10
                    refine hK.out _ _ (HCL.out _ hb10) (fun hHeld => ?_)
                    clear hK K
                    try simp only [Act.put, List.setIfInBounds_toArray, List.set_cons_zero, List.set_cons_succ]
                    refine wpAnyH_take (i := 22) (v := ?_) rfl (by kernel_rfl) (by kernel_rfl) (by kernel_rfl) (fun _ _ _ h => h) (Or.inl ⟨by rfl, ?_⟩) hHeld ?_
                    rotate_left
                    · intro w hSw
                      try dsimp only at hSw
                      go_simp
                      try with_reducible rfl
                    try simp only [Act.put, List.setIfInBounds_toArray, List.set_cons_zero, List.set_cons_succ]
                    refine wpAnyH_take (i := 23) (v := ?_) rfl (by kernel_rfl) (by kernel_rfl) (by kernel_rfl) (fun _ _ _ h => h) (Or.inl ⟨by rfl, ?_⟩) hHeld ?_
                    rotate_left
                    · intro w hSw
                      try dsimp only at hSw
                      go_simp
                      try with_reducible rfl
                    try simp only [Act.put, List.setIfInBounds_toArray, List.set_cons_zero, List.set_cons_succ]
                    refine wpAnyH_done (by kernel_rfl) ?_ _
                    clear ho10 hg10 ha10 hb10 ho9 hg9 ha9 hb9 ho8 hg8 ha8 hb8 hHeld
                    unfold LastQ
                    go_simp
                    go_wp2_with fail
                    go_ret
                    exact HG9.out
                  · go_simp
                    refine hK.out _ _ (HCL.out _ HBB.out) (fun hHeld => ?_)
                    clear hK K
                    try simp only [Act.put, List.setIfInBounds_toArray, List.set_cons_zero, List.set_cons_succ]
                    refine wpAnyH_ready (rs := [8]) (by kernel_rfl) (by simp) ?_
                    refine AllReadyH.cons rfl (fun K hK => ?_) AllReadyH.nil
                    refine step_append_files0 (by rfl) (.tmp 56) (.tmp 62) (by rfl) W0.heap.size (.slice (some ⟨W0.heap.size, 0, none⟩) 0 0) (by rfl) HOb.out (some ⟨g, 0, none⟩) at' c9 (cs.take (at' * 3)) (by rfl) HT.out.1.1 (HN.out.1 _ HBB.out) HT.out.1.2 hat1 HBB.out.size ?_
                    intro A8 c8 w8 ho8 hg8 ha8
                    have hb8 : Below W0.heap.size W0 w8 := HBB.out.grown hg8 HBB.out.size (fun g e => by simp [Value.ownBlock] at e; omega)
                    have hsrc := (hg8.block (W0.heap.size + 1) (by simp) (by simp [Value.ownBlock])).trans HOO.out
                    refine hK.out _ _ (HCL.out _ hb8) (fun hHeld => ?_)
                    clear hK K
                    try simp only [Act.put, List.setIfInBounds_toArray, List.set_cons_zero, List.set_cons_succ]
                    refine wpAnyH_ready (rs := [14]) (by kernel_rfl) (by simp) ?_
                    refine AllReadyH.cons rfl (fun K hK => ?_) AllReadyH.nil
                    refine step_append_files (by rfl) (.tmp 63) (.tmp 68) (by rfl) W0.heap.size (.slice A8 at' c8) at' (cs.take (at' * 3)) (by rfl) ho8 (some ⟨W0.heap.size + 1, 0, none⟩) 1 1 [.string t, .slice F lf cf, .slice none 0 0] (by rfl) (by rfl) (fun j u hj => ⟨_, rfl, World.news_of_block (cs := #[.string t, .slice F lf cf, .slice none 0 0]) (t := 82) (fr := (0, 0)) hsrc j u hj⟩) (by simp [Value.oneCell']) HBD1.out (Below.size hb8) ?_
                    intro A9 cc9 w9 ho9 hg9 ha9
                    have hb9 : Below W0.heap.size W0 w9 := Below.grown hb8 hg9 (Below.size hb8) (fun g e => (own_lt ho8 e).1)
                    refine hK.out _ _ (HCL.out _ hb9) (fun hHeld => ?_)
                    clear hK K
                    try simp only [Act.put, List.setIfInBounds_toArray, List.set_cons_zero, List.set_cons_succ]
                    refine wpAnyH_ready (rs := [21]) (by kernel_rfl) (by simp) ?_
                    refine AllReadyH.cons rfl (fun K hK => ?_) AllReadyH.nil
                    refine step_append_files (by rfl) (.tmp 69) (.tmp 75) (by rfl) W0.heap.size (.slice A9 (at' + 1) cc9) (at' + 1) ((cs.take (at' * 3)) ++ [.string t, .slice F lf cf, .slice none 0 0]) (by rfl) ho9 (some ⟨g, at' * 3, none⟩) (ln - at') (c9 - at') (cs.drop (at' * 3)) (by rfl) HT.out.2.1 (HN.out.2 _ hb9) HT.out.2.2 HBD2.out hb9.size ?_
                    intro A10 c10 w10 ho10 hg10 ha10
                    have hb10 : Below W0.heap.size W0 w10 := hb9.grown hg10 hb9.size (fun g e => (own_lt ho9 e).1)
                    have HG9 := Lib.hid (HFIN.out w10 A10 c10 hb10 ho10)
                    obtain ⟨y0, y1, y2⟩ := HCL.out _ hb10
                    refine hK.out _ _ (HCL.out _ hb10) (fun hHeld => ?_)
                    clear hK K
                    try simp only [Act.put, List.setIfInBounds_toArray, List.set_cons_zero, List.set_cons_succ]
                    refine wpAnyH_take (i := 22) (v := ?_) rfl (by kernel_rfl) (by kernel_rfl) (by kernel_rfl) (fun _ _ _ h => h) (Or.inl ⟨by rfl, ?_⟩) hHeld ?_
                    rotate_left
                    · intro w hSw
                      try dsimp only at hSw
                      go_simp
                      try with_reducible rfl
                    try simp only [Act.put, List.setIfInBounds_toArray, List.set_cons_zero, List.set_cons_succ]
                    refine wpAnyH_take (i := 23) (v := ?_) rfl (by kernel_rfl) (by kernel_rfl) (by kernel_rfl) (fun _ _ _ h => h) (Or.inl ⟨by rfl, ?_⟩) hHeld ?_
                    rotate_left
                    · intro w hSw
                      try dsimp only at hSw
                      go_simp
                      try with_reducible rfl
                    try simp only [Act.put, List.setIfInBounds_toArray, List.set_cons_zero, List.set_cons_succ]
                    refine wpAnyH_done (by kernel_rfl) ?_ _
                    clear ho10 hg10 ha10 hb10 ho9 hg9 ha9 hb9 ho8 hg8 ha8 hb8 hHeld
                    unfold LastQ
                    go_simp
                    go_wp2_with fail
                    go_ret
                    exact HG9.out
                · go_simp
                  refine hK.out _ _ (HCL.out _ HBD.out) (fun hHeld => ?_)
                  clear hK K
                  try simp only [Act.put, List.setIfInBounds_toArray, List.set_cons_zero, List.set_cons_succ]
                  refine wpAnyH_ready (rs := [1]) (by kernel_rfl) (by simp) ?_
                  refine AllReadyH.cons rfl (fun K hK => ?_) AllReadyH.nil
                  go_simp
                  refine hK.out _ _ (HCL.out _ HBC.out) (fun hHeld => ?_)
                  clear hK K
                  try simp only [Act.put, List.setIfInBounds_toArray, List.set_cons_zero, List.set_cons_succ]
                  refine wpAnyH_ready (rs := [8]) (by kernel_rfl) (by simp) ?_
                  refine AllReadyH.cons rfl (fun K hK => ?_) AllReadyH.nil
                  refine step_append_files0 (by rfl) (.tmp 56) (.tmp 62) (by rfl) W0.heap.size (.slice (some ⟨W0.heap.size + 1, 0, none⟩) 0 0) (by rfl) HOc.out (some ⟨g, 0, none⟩) at' c9 (cs.take (at' * 3)) (by rfl) HT.out.1.1 (HN.out.1 _ HBC.out) HT.out.1.2 hat1 HBC.out.size ?_
                  intro A8 c8 w8 ho8 hg8 ha8
                  have hb8 : Below W0.heap.size W0 w8 := HBC.out.grown hg8 HBC.out.size (fun g e => by simp [Value.ownBlock] at e; omega)
                  have hsrc := (hg8.block W0.heap.size (by simp; omega) (by simp [Value.ownBlock])).trans HOX.out
                  refine hK.out _ _ (HCL.out _ hb8) (fun hHeld => ?_)
                  clear hK K
                  try simp only [Act.put, List.setIfInBounds_toArray, List.set_cons_zero, List.set_cons_succ]
                  refine wpAnyH_ready (rs := [14]) (by kernel_rfl) (by simp) ?_
                  refine AllReadyH.cons rfl (fun K hK => ?_) AllReadyH.nil
                  refine step_append_files (by rfl) (.tmp 63) (.tmp 68) (by rfl) W0.heap.size (.slice A8 at' c8) at' (cs.take (at' * 3)) (by rfl) ho8 (some ⟨W0.heap.size, 0, none⟩) 1 1 [.string t, .slice F lf cf, .slice none 0 0] (by rfl) (by rfl) (fun j u hj => ⟨_, rfl, World.news_of_block (cs := #[.string t, .slice F lf cf, .slice none 0 0]) (t := 82) (fr := (0, 0)) hsrc j u hj⟩) (by simp [Value.oneCell']) HBD1.out (Below.size hb8) ?_
                  intro A9 cc9 w9 ho9 hg9 ha9
                  have hb9 : Below W0.heap.size W0 w9 := Below.grown hb8 hg9 (Below.size hb8) (fun g e => (own_lt ho8 e).1)
                  refine hK.out _ _ (HCL.out _ hb9) (fun hHeld => ?_)
                  clear hK K
                  try simp only [Act.put, List.setIfInBounds_toArray, List.set_cons_zero, List.set_cons_succ]
                  refine wpAnyH_ready (rs := [21]) (by kernel_rfl) (by simp) ?_
                  refine AllReadyH.cons rfl (fun K hK => ?_) AllReadyH.nil
                  refine step_append_files (by rfl) (.tmp 69) (.tmp 75) (by rfl) W0.heap.size (.slice A9 (at' + 1) cc9) (at' + 1) ((cs.take (at' * 3)) ++ [.string t, .slice F lf cf, .slice none 0 0]) (by rfl) ho9 (some ⟨g, at' * 3, none⟩) (ln - at') (c9 - at') (cs.drop (at' * 3)) (by rfl) HT.out.2.1 (HN.out.2 _ hb9) HT.out.2.2 HBD2.out hb9.size ?_
                  intro A10 c10 w10 ho10 hg10 ha10
                  have hb10 : Below W0.heap.size W0 w10 := hb9.grown hg10 hb9.size (fun g e => (own_lt ho9 e).1)
                  have HG9 := Lib.hid (HFIN.out w10 A10 c10 hb10 ho10)
                  obtain ⟨y0, y1, y2⟩ := HCL.out _ hb10
                  refine hK.out _ _ (HCL.out _ hb10) (fun hHeld => ?_)
                  clear hK K
                  try simp only [Act.put, List.setIfInBounds_toArray, List.set_cons_zero, List.set_cons_succ]
                  refine wpAnyH_take (i := 22) (v := ?_) rfl (by kernel_rfl) (by kernel_rfl) (by kernel_rfl) (fun _ _ _ h => h) (Or.inl ⟨by rfl, ?_⟩) hHeld ?_
                  rotate_left
                  · intro w hSw
                    try dsimp only at hSw
                    go_simp
                    try with_reducible rfl
                  try simp only [Act.put, List.setIfInBounds_toArray, List.set_cons_zero, List.set_cons_succ]
                  refine wpAnyH_take (i := 23) (v := ?_) rfl (by kernel_rfl) (by kernel_rfl) (by kernel_rfl) (fun _ _ _ h => h) (Or.inl ⟨by rfl, ?_⟩) hHeld ?_
                  rotate_left
                  · intro w hSw
                    try dsimp only at hSw
                    go_simp
                    try with_reducible rfl
                  try simp only [Act.put, List.setIfInBounds_toArray, List.set_cons_zero, List.set_cons_succ]
                  refine wpAnyH_done (by kernel_rfl) ?_ _
                  clear ho10 hg10 ha10 hb10 ho9 hg9 ha9 hb9 ho8 hg8 ha8 hb8 hHeld
                  unfold LastQ
                  go_simp
                  go_wp2_with fail
                  go_ret
                  exact HG9.out
end

end Go.Proofs.Ytchedflfinkppaa
