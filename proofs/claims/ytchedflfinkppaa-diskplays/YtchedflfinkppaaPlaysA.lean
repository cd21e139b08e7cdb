/-
  The contract of the law's same: both disks tell the same.
-/
import Derived.Test.YtchedflfinkppaaDo2
import Derived.Test.YtchedflfinkppaaQuiet
import Derived.Test.YtchedflfinkppaaOpen
namespace Go.Proofs.Ytchedflfinkppaa
open Go.RowKit Go.Maps Go.Sort Go.Shelf
set_option linter.unusedSimpArgs false
set_option linter.unusedVariables false

set_option maxRecDepth 100000 in
set_option maxHeartbeats 400000 in
theorem same_eq (S T : Nat → Prop) (A B : Option Addr) (c d : Nat) (l : List Int) (n : Nat) (hn : n = l.length) (w : World) (h1 : Row S w A (u8s l)) (h2 : Row T w B (u8s l)) :
    Calls Try.prog 22 #[.slice A n c, .slice B n d] w fun e w' => e = .returned (.bool true) ∧ w = w' := by
  subst hn
  have r1 := run_str c h1
  have r2 := run_str d h2
  have HE : Hid (((strOf l).toList == (strOf l).toList) = true) := by show _ = _; simp
  go_enter Try.func22, Try.ntmps22
  go_wp2
  go_ret
  exact ⟨by rw [← HE.out]; rfl, rfl⟩

/-- what a Read answers -/
def readOf (p : Pw) (A : List AFile) (y : List UInt8) : List Int × Int := if p.down = true then ([], 9) else match findA A y with | none => ([], 6) | some a => (a.2.1, 0)

section
variable (w0 w : World) (b mb x : Nat) (p pr : Pw) (room : Nat) (E : List Ent) (v : Value) (L : List RF)
theorem readD (s : ByteArray) (h : Lv w0 w b mb p room E) (hs : s.size ≤ maxLen) : Calls Try.prog 17 #[.pointer (some ⟨b, 0, none⟩), .string s] w fun e w' => GivesR w (readOf p (abs E) s.data.toList).1 (readOf p (abs E) s.data.toList).2 e w' := by
  unfold readOf
  by_cases hd : p.down = true
  · rw [if_pos hd]
    obtain ⟨D, hD⟩ := h.dsk
    exact read_down w0.heap.size b mb 16 D p room E s w hD hd
  · rw [if_neg hd]
    have hd' : p.down = false := by simpa using hd
    cases hf : findA (abs E) s.data.toList with
    | none => exact read_lv_none w0 w b mb p room E s h hd' hs (findA_none hf)
    | some a =>
      obtain ⟨h1, h2⟩ := findA_some hf
      exact read_lv w0 w b mb p room E s a h hd' hs h1 h2
theorem readR {B : BK} {A : List AFile} (s : ByteArray) (h : RD w B x pr room v L) (hl : L.length ≤ 1000) (hz : sumR L ≤ 1048576) (ht : Tied A L) (hp : PwEq p pr) : Calls Try.prog 40 #[.pointer (some ⟨x, 0, none⟩), .string s] w fun e w' => GivesR w (readOf p A s.data.toList).1 (readOf p A s.data.toList).2 e w' := by
  unfold readOf
  rw [hp.1]
  by_cases hd : pr.down = true
  · rw [if_pos hd]
    exact rread_down w B x room pr v L s h hd
  · rw [if_neg hd]
    have hd' : pr.down = false := by simpa using hd
    rcases ht.find s with ⟨k, hk, hs, hi, hf, ha⟩ | ⟨hn, hi, hf, ha⟩
    · rw [ha]
      exact rread_some w B x room pr v L s k hk h hl hd' hf (by have := size_at hk; omega)
    · rw [ha]
      exact rread_none w B x room pr v L s h hl hd' hf
theorem readOf_len (ht : Tied (abs E) L) (hz : sumR L ≤ 1048576) (y : List UInt8) : (readOf p (abs E) y).1.length ≤ 1048576 := by
  unfold readOf
  split
  · exact Nat.zero_le _
  · cases hf : findA (abs E) y with
    | none => exact Nat.zero_le _
    | some a =>
      obtain ⟨h1, _⟩ := findA_some hf
      obtain ⟨f, hfm, rfl⟩ := List.mem_map.1 ((ht.mem a).1 h1)
      obtain ⟨k, hk, rfl⟩ := List.mem_iff_getElem.1 hfm
      have := size_at hk
      show (toA L[k]).2.1.length ≤ _
      simp only [toA, List.length_append]
      omega

set_option maxRecDepth 100000 in
set_option maxHeartbeats 4000000 in
theorem alike_any (h : Duo w0 w (fun _ => False) b mb x p pr room E v L) (ht : Tied (abs E) L) (hp : PwEq p pr) :
    Calls Try.prog 14 #[.pointer (some ⟨b, 0, none⟩), .pointer (some ⟨x, 0, none⟩)] w fun e w' => e = .returned (.bool true) ∧ Below w.heap.size w w' := by
  have hfit := h.lv.fits
  have hL16 : L.length ≤ 16 := by rw [← ht.len]; exact hfit.2.2
  have hLz : sumR L ≤ 1048576 := by rw [← ht.sum]; omega
  have HDU := Lib.hid h
  have HT := Lib.hid ht
  have HP := Lib.hid hp
  have HLZ := Lib.hid hLz
  have hnames := ht.names
  have HN0 := Lib.hid (names_lv w0 w b mb p room E h.lv)
  have hnl : (namesA (abs E)).length = L.length := by rw [hnames, List.length_map]
  obtain ⟨nms, hnms⟩ : ∃ y, y = namesA (abs E) := ⟨_, rfl⟩
  have hnl2 : nms.length = L.length := by rw [hnms, hnl]
  have hat : ∀ k (hk : k < L.length), nms[k]? = some L[k].name := fun k hk => by
    rw [hnms, hnames, List.getElem?_map, List.getElem?_eq_getElem hk]
    rfl
  rw [← hnms] at HN0
  have HAT := Lib.hid hat
  have HNL := Lib.hid hnl2
  clear h ht hp hfit hLz hnames hnl hnms hat
  go_enter Try.func14, Try.ntmps14
  go_wp2_with fail
  refine (HN0.out).mono ?_
  rintro e w1 ⟨X, cX, rfl, hcX, hrX, hb1⟩
  rw [HNL.out]
  have HD1 := Lib.hid (HDU.out.below hb1)
  have HB1 := Lib.hid hb1
  have HRX := Lib.hid hrX
  obtain ⟨tot, htot⟩ : ∃ y, y = sumR L := ⟨_, rfl⟩
  have HTOT := Lib.hid htot
  have HUS : Hid (∀ W, Below w1.heap.size w1 W → Calls Try.prog 25 #[.pointer (some ⟨b, 0, none⟩)] W fun e w' => e = .returned (.int .i64 (tot : Int)) ∧ Below w1.heap.size w1 w') := fun W hW => by
    have h0 := used_lv w0 W b mb p room E (HD1.out.below hW).lv
    rw [HT.out.sum, ← HTOT.out] at h0
    refine h0.mono ?_
    rintro e w' ⟨e1, hb'⟩
    exact ⟨e1, hW.trans (hb'.mono hW.size)⟩
  have HUR : Hid (∀ W, Below w1.heap.size w1 W → Calls Try.prog 39 #[.pointer (some ⟨x, 0, none⟩)] W fun e w' => e = .returned (.int .i64 (tot : Int)) ∧ Below w1.heap.size w1 w') := fun W hW => by
    obtain ⟨Bk, r, _, _⟩ := (HD1.out.below hW).ref
    have h0 := rused_any W Bk x room pr v L r (by omega) HLZ.out
    rw [← HTOT.out] at h0
    refine h0.mono ?_
    rintro e w' ⟨e1, hb'⟩
    exact ⟨e1, hW.trans (hb'.mono hW.size)⟩
  obtain ⟨dn, hdn⟩ : ∃ y, y = p.down := ⟨_, rfl⟩
  have hdn2 : pr.down = dn := by rw [hdn]; exact HP.out.1.symm
  have HUP : Hid (∀ W, Below w1.heap.size w1 W → Calls Try.prog 29 #[.pointer (some ⟨b, 0, none⟩)] W fun e w' => e = .returned (.bool (!dn)) ∧ Below w1.heap.size w1 w') := fun W hW => by
    have h0 := up_lv w0 W b mb p room E (HD1.out.below hW).lv
    rw [← hdn] at h0
    refine h0.mono ?_
    rintro e w' ⟨e1, rfl⟩
    exact ⟨e1, hW⟩
  obtain ⟨Bk0, r0, _, _⟩ := HD1.out.ref
  obtain ⟨FA, fc, hvv, hfc, hFl⟩ := r0.files
  have HFL := Lib.hid hFl
  obtain ⟨ln, hln⟩ : ∃ y, y = L.length := ⟨_, rfl⟩
  have HLN := Lib.hid hln
  have HCE : Hid (∀ W, Below w1.heap.size w1 W → W.cell? ⟨x, 1, none⟩ = some (.slice FA ln fc) ∧ W.cell? ⟨x, 4, none⟩ = some (.bool dn)) := fun W hW => by
    have r := (r0.below hW).cells
    exact ⟨by rw [r.2.1, hvv, ← HLN.out], by rw [r.2.2.2.2, hdn2]⟩
  have hneq : ((!dn) == dn) = false := by cases dn <;> rfl
  have HDN := Lib.hid hdn
  rw [← hln] at hL16 ⊢
  clear hb1 hrX htot hdn hdn2 r0 hvv hfc hFl hcX hnl2
  obtain ⟨z0, z1⟩ := HCE.out w1 (Below.refl _ _)
  go_wp2_with fail
  refine region_class (fun W => Below w1.heap.size w1 W) (by kernel_rfl) (by kernel_rfl) (Below.refl _ _).drew ?_
  repeat (first
    | go_big_quiet_skip
    | (go_big_quiet_want
       first
        | (go_big_quiet_op; go_big_quiet_on)
        | (refine quiet_call 25 _ _ rfl (args := #[.pointer (some ⟨b, 0, none⟩)]) (fun W => by go_simp; done) (fun W hW => HUS.out W hW) ?_; (try simp only [Act.put, List.setIfInBounds_toArray, List.set_cons_zero, List.set_cons_succ]); go_big_quiet_on)
        | (refine quiet_call 39 _ _ rfl (args := #[.pointer (some ⟨x, 0, none⟩)]) (fun W => by go_simp; done) (fun W hW => HUR.out W hW) ?_; (try simp only [Act.put, List.setIfInBounds_toArray, List.set_cons_zero, List.set_cons_succ]); go_big_quiet_on)
        | (refine quiet_call 29 _ _ rfl (args := #[.pointer (some ⟨b, 0, none⟩)]) (fun W => by go_simp; done) (fun W hW => HUP.out W hW) ?_; (try simp only [Act.put, List.setIfInBounds_toArray, List.set_cons_zero, List.set_cons_succ]); go_big_quiet_on)
        | (refine quiet_run (v := ?_) ?_ ?_
           rotate_left
           · (intro W hW; have z := HCE.out W hW; go_simp; first | done | with_reducible rfl)
           (try simp only [Act.put, List.setIfInBounds_toArray, List.set_cons_zero, List.set_cons_succ]); go_big_quiet_on)))
  refine wpQuiet_nil ?_
  intro w2 hw2
  have HB2 := Lib.hid hw2
  clear hw2 z0 z1 HUS HUR HUP
  go_wp2_with fail
  go_loopw [6, 7, 8, 9, 10, 11, 59] (fun _ _ _ _ _ _ i wr => ∃ k : Nat, k ≤ ln ∧ i = .int .i64 k ∧ Below w1.heap.size w1 wr) (fun _ _ _ _ _ _ i _ => ln - (intOf i).toNat)
  case atStart => exact ⟨0, Nat.zero_le _, rfl, HB2.out⟩
  case round =>
    obtain ⟨k, hk, rfl, hbr⟩ := hrel
    by_cases hlt : k < ln
    · have i1 : (k : Int) < (ln : Int) := by omega
      have hkL : k < L.length := by rw [← HLN.out]; exact hlt
      have hkN : k < nms.length := by rw [HNL.out]; exact hkL
      obtain ⟨ad, rfl, _, _, hcs⟩ := (HRX.out.below hbr) k (by rw [strs_len]; exact hkN)
      rw [strs_at hkN] at hcs
      have hnm0 : nms[k] = L[k].name := by
        have := HAT.out k hkL
        rw [List.getElem?_eq_getElem hkN] at this
        injection this
      rw [hnm0] at hcs
      have hDr := HD1.out.below hbr
      have hsz : L[k].name.size ≤ maxLen := by
        have hm : toA L[k] ∈ abs E := (HT.out.mem _).2 (List.mem_map.2 ⟨L[k], List.getElem_mem hkL, rfl⟩)
        obtain ⟨e0, he0, hea⟩ := mem_abs hm
        have h8 := hDr.lv.names e0.name (List.mem_map.2 ⟨e0, he0, rfl⟩)
        have hn : e0.name = L[k].name.data.toList := congrArg Prod.fst hea
        rw [hn, Array.length_toList] at h8
        have : L[k].name.size ≤ 8 := h8
        unfold maxLen
        omega
      have hlo := HT.out.loose hkL
      obtain ⟨ad2, hFA, _, _, m0, _, G, cg, m2, _, _⟩ := (HFL.out.below hbr) k hkL
      subst hFA
      have HM0 : Hid (∀ W, Below wr.heap.size wr W → W.cell? (ad2.add (k * 3)) = some (.string L[k].name) ∧ W.cell? ⟨(ad2.add (k * 3)).block, (ad2.add (k * 3)).off + 2, none⟩ = some (.slice G L[k].loose.length cg)) := fun W hW => ⟨(hW.cell (lt_of_cell m0)).trans m0, (hW.cell (lt_of_cell m2)).trans m2⟩
      have HRD := Lib.hid (readD w0 wr b mb p room E L[k].name hDr.lv hsz)
      have HRR : Hid (∀ W, Below w1.heap.size w1 W → Calls Try.prog 40 #[.pointer (some ⟨x, 0, none⟩), .string L[k].name] W fun e w' => GivesR W (readOf p (abs E) L[k].name.data.toList).1 (readOf p (abs E) L[k].name.data.toList).2 e w') := fun W hW => by
        obtain ⟨Bk, r, _, _⟩ := (HD1.out.below hW).ref
        exact readR W x p pr room v L L[k].name r (by omega) HLZ.out HT.out HP.out
      have HLO : Hid (∀ W, Below w1.heap.size w1 W → Calls Try.prog 23 #[.pointer (some ⟨b, 0, none⟩), .string L[k].name] W fun e w' => e = .returned (.int .i64 (L[k].loose.length : Nat)) ∧ Below W.heap.size W w') := fun W hW => by
        have h0 := loose_lv w0 W b mb p room E L[k].name (HD1.out.below hW).lv hsz
        have hlo' : looseA (abs E) L[k].name.data.toList = L[k].loose.length := hlo
        rw [hlo'] at h0
        refine h0.mono ?_
        rintro e w' ⟨e1, n, rfl⟩
        exact ⟨e1, ⟨rfl, rfl, rfl, Nat.le_refl _, fun _ _ => rfl⟩⟩
      have HBR := Lib.hid hbr
      clear hbr hnm0 hDr hsz hlo m0 m2
      generalize L[k].loose.length = lg at *
      generalize L[k].name = nm at *
      generalize (readOf p (abs E) nm.data.toList).1 = rb at *
      generalize (readOf p (abs E) nm.data.toList).2 = re at *
      have hba := ba_yes nm
      go_wp2_with fail
      refine (HRD.out).mono ?_
      rintro e w3 ⟨A3, c3, rfl, _, hr3, hb3⟩
      have HR3 := Lib.hid hr3
      have HB3 := Lib.hid hb3
      have HRR3 := Lib.hid (HRR.out w3 (HBR.out.trans (hb3.mono HBR.out.size)))
      clear hr3 hb3
      go_wp2_with fail
      refine (HRR3.out).mono ?_
      rintro e w4 ⟨A4, c4, rfl, _, hr4, hb4⟩
      obtain ⟨n, hn⟩ : ∃ y, y = rb.length := ⟨_, rfl⟩
      have hbr4 : Below wr.heap.size wr w4 := HB3.out.trans (hb4.mono HB3.out.size)
      have hb14 : Below w1.heap.size w1 w4 := HBR.out.trans (hbr4.mono HBR.out.size)
      have HB14 := Lib.hid hb14
      have HSM : Hid (∀ W, Below w4.heap.size w4 W → Calls Try.prog 22 #[.slice A3 n c3, .slice A4 n c4] W fun e w' => e = .returned (.bool true) ∧ Below w4.heap.size w4 w') := fun W hW => by
        refine (same_eq _ _ A3 A4 c3 c4 rb n hn W (HR3.out.below (hb4.trans (hW.mono hb4.size))) (hr4.below hW)).mono ?_
        rintro e w' ⟨e1, rfl⟩
        exact ⟨e1, hW⟩
      have HLO4 : Hid (∀ W, Below w4.heap.size w4 W → Calls Try.prog 23 #[.pointer (some ⟨b, 0, none⟩), .string nm] W fun e w' => e = .returned (.int .i64 (lg : Nat)) ∧ Below w4.heap.size w4 w') := fun W hW => by
        refine (HLO.out W (hb14.trans (hW.mono hb14.size))).mono ?_
        rintro e w' ⟨e1, hb'⟩
        exact ⟨e1, hW.trans (hb'.mono hW.size)⟩
      have HCE4 : Hid (∀ W, Below w4.heap.size w4 W → W.cell? ⟨x, 1, none⟩ = some (.slice (some ad2) ln fc) ∧ W.cell? (ad2.add (k * 3)) = some (.string nm) ∧ W.cell? ⟨(ad2.add (k * 3)).block, (ad2.add (k * 3)).off + 2, none⟩ = some (.slice G lg cg)) := fun W hW =>
        ⟨(HCE.out W (hb14.trans (hW.mono hb14.size))).1, HM0.out W (hbr4.trans (hW.mono hbr4.size))⟩
      rw [← hn]
      clear hr4 hb4 hbr4 hb14 hn
      obtain ⟨z0, z1, z2⟩ := HCE4.out w4 (Below.refl _ _)
      go_wp2_with fail
      refine region_class (fun W => Below w4.heap.size w4 W) (by kernel_rfl) (by kernel_rfl) (Below.refl _ _).drew ?_
      repeat (first
        | go_big_quiet_skip
        | (go_big_quiet_want
           first
            | (go_big_quiet_op; go_big_quiet_on)
            | (refine quiet_call 22 _ _ rfl (args := #[.slice A3 n c3, .slice A4 n c4]) (fun W => by go_simp; done) (fun W hW => HSM.out W hW) ?_; (try simp only [Act.put, List.setIfInBounds_toArray, List.set_cons_zero, List.set_cons_succ]); go_big_quiet_on)
            | (refine quiet_call 23 _ _ rfl (args := #[.pointer (some ⟨b, 0, none⟩), .string nm]) (fun W => by go_simp; done) (fun W hW => HLO4.out W hW) ?_; (try simp only [Act.put, List.setIfInBounds_toArray, List.set_cons_zero, List.set_cons_succ]); go_big_quiet_on)
            | (refine quiet_run (v := ?_) ?_ ?_
               rotate_left
               · (intro W hW; have z := HCE4.out W hW; go_simp; first | done | with_reducible rfl)
               (try simp only [Act.put, List.setIfInBounds_toArray, List.set_cons_zero, List.set_cons_succ]); go_big_quiet_on)))
      refine wpQuiet_nil ?_
      intro w5 hw5
      have HB5 : Hid (Below w1.heap.size w1 w5) := HB14.out.trans (hw5.mono HB14.out.size)
      clear hw5
      go_wp2_with fail
      go_roundw
      case rel => exact ⟨k + 1, by omega, by go_num, HB5.out⟩
      case measure => simp [intOf]; omega
    · have i1 : ¬ (k : Int) < (ln : Int) := by omega
      obtain ⟨nm, hnm⟩ : ∃ y : ByteArray, y = ⟨#[110, 111, 115, 117, 99, 104, 57]⟩ := ⟨_, rfl⟩
      have hsz : nm.size ≤ maxLen := by rw [hnm]; decide
      have HRD : Hid (Calls Try.prog 17 #[.pointer (some ⟨b, 0, none⟩), .string ⟨#[110, 111, 115, 117, 99, 104, 57]⟩] wr fun e w' => GivesR wr (readOf p (abs E) nm.data.toList).1 (readOf p (abs E) nm.data.toList).2 e w') := by
        rw [← hnm]
        exact readD w0 wr b mb p room E nm (HD1.out.below hbr).lv hsz
      have HRR : Hid (∀ W, Below w1.heap.size w1 W → Calls Try.prog 40 #[.pointer (some ⟨x, 0, none⟩), .string ⟨#[110, 111, 115, 117, 99, 104, 57]⟩] W fun e w' => GivesR W (readOf p (abs E) nm.data.toList).1 (readOf p (abs E) nm.data.toList).2 e w') := fun W hW => by
        obtain ⟨Bk, r, _, _⟩ := (HD1.out.below hW).ref
        rw [← hnm]
        exact readR W x p pr room v L nm r (by omega) HLZ.out HT.out HP.out
      have HBR := Lib.hid hbr
      clear hbr hsz hnm
      generalize (readOf p (abs E) nm.data.toList).1 = rb at *
      generalize (readOf p (abs E) nm.data.toList).2 = re at *
      go_wp2_with fail
      refine (HRD.out).mono ?_
      rintro e w3 ⟨A3, c3, rfl, _, _, hb3⟩
      have hb13 : Below w1.heap.size w1 w3 := HBR.out.trans (hb3.mono HBR.out.size)
      have HRR3 := Lib.hid (HRR.out w3 hb13)
      have HB13 := Lib.hid hb13
      clear hb3 hb13
      go_wp2_with fail
      refine (HRR3.out).mono ?_
      rintro e w4 ⟨A4, c4, rfl, _, _, hb4⟩
      have HF : Hid (Below w.heap.size w w4) := HB1.out.trans ((HB13.out.trans (hb4.mono HB13.out.size)).mono HB1.out.size)
      clear hb4
      go_wp2_with fail
      go_ret
      exact ⟨by simp, HF.out⟩
end

end Go.Proofs.Ytchedflfinkppaa

/-
  The contracts of both disks' calls where there is no disk.
-/
namespace Go.Proofs.Ytchedflfinkppaa
open Go.RowKit Go.Maps Go.Sort Go.Shelf
set_option linter.unusedSimpArgs false
set_option linter.unusedVariables false

section
variable (w : World) (s t : ByteArray) (A : Option Addr) (l c : Nat) (z : Int)
set_option maxHeartbeats 400000 in
theorem change_nilW : Calls Try.prog 43 #[.pointer none] w fun e w' => e = .returned (.int .i64 6) ∧ w = w' := by
  go_enter Try.func43, Try.ntmps43
  go_wp2_with fail
  go_ret
  exact ⟨rfl, rfl⟩
set_option maxHeartbeats 400000 in
theorem begin_nilW : Calls Try.prog 58 #[.pointer none] w fun e w' => e = .returned (.int .i64 6) ∧ w = w' := by
  go_enter Try.func58, Try.ntmps58
  go_wp2_with fail
  go_ret
  exact ⟨rfl, rfl⟩
set_option maxHeartbeats 400000 in
theorem used_nil : Calls Try.prog 25 #[.pointer none] w fun e w' => e = .returned (.int .i64 0) ∧ w = w' := by
  go_enter Try.func25, Try.ntmps25
  go_wp2_with fail
  go_ret
  exact ⟨rfl, rfl⟩
set_option maxHeartbeats 400000 in
theorem up_nilW : Calls Try.prog 29 #[.pointer none] w fun e w' => e = .returned (.bool false) ∧ w = w' := by
  go_enter Try.func29, Try.ntmps29
  go_wp2_with fail
  go_ret
  exact ⟨rfl, rfl⟩
set_option maxHeartbeats 400000 in
theorem firm_nil : Calls Try.prog 16 #[.pointer none, .slice A l c] w fun e w' => e = .returned (.int .i64 6) ∧ w = w' := by
  have HC := Lib.hid (change_nilW w)
  go_enter Try.func16, Try.ntmps16
  go_wp2_with fail
  refine (HC.out).mono ?_
  rintro e w1 ⟨rfl, rfl⟩
  go_wp2_with fail
  go_ret
  exact ⟨rfl, rfl⟩
set_option maxHeartbeats 400000 in
theorem drop_nil : Calls Try.prog 28 #[.pointer none, .slice A l c] w fun e w' => e = .returned (.int .i64 6) ∧ w = w' := by
  have HC := Lib.hid (change_nilW w)
  go_enter Try.func28, Try.ntmps28
  go_wp2_with fail
  refine (HC.out).mono ?_
  rintro e w1 ⟨rfl, rfl⟩
  go_wp2_with fail
  go_ret
  exact ⟨rfl, rfl⟩
set_option maxHeartbeats 400000 in
theorem swap_nil : Calls Try.prog 26 #[.pointer none, .string s, .string t] w fun e w' => e = .returned (.int .i64 6) ∧ w = w' := by
  have HC := Lib.hid (change_nilW w)
  go_enter Try.func26, Try.ntmps26
  go_wp2_with fail
  refine (HC.out).mono ?_
  rintro e w1 ⟨rfl, rfl⟩
  go_wp2_with fail
  go_ret
  exact ⟨rfl, rfl⟩
set_option maxHeartbeats 400000 in
theorem trim_nil : Calls Try.prog 27 #[.pointer none, .string s, .int .i64 z] w fun e w' => e = .returned (.int .i64 6) ∧ w = w' := by
  have HC := Lib.hid (change_nilW w)
  go_enter Try.func27, Try.ntmps27
  go_wp2_with fail
  refine (HC.out).mono ?_
  rintro e w1 ⟨rfl, rfl⟩
  go_wp2_with fail
  go_ret
  exact ⟨rfl, rfl⟩
set_option maxHeartbeats 400000 in
theorem write_nil : Calls Try.prog 19 #[.pointer none, .string s, .slice A l c] w fun e w' => e = .returned (.int .i64 6) ∧ w = w' := by
  have HC := Lib.hid (change_nilW w)
  go_enter Try.func19, Try.ntmps19
  go_wp2_with fail
  refine (HC.out).mono ?_
  rintro e w1 ⟨rfl, rfl⟩
  go_wp2_with fail
  go_ret
  exact ⟨rfl, rfl⟩
set_option maxHeartbeats 400000 in
theorem rfirm_nil : Calls Try.prog 33 #[.pointer none, .slice A l c] w fun e w' => e = .returned (.int .i64 6) ∧ w = w' := by
  have HC := Lib.hid (begin_nilW w)
  go_enter Try.func33, Try.ntmps33
  go_wp2_with fail
  refine (HC.out).mono ?_
  rintro e w1 ⟨rfl, rfl⟩
  go_wp2_with fail
  go_ret
  exact ⟨rfl, rfl⟩
set_option maxHeartbeats 400000 in
theorem rdrop_nil : Calls Try.prog 36 #[.pointer none, .slice A l c] w fun e w' => e = .returned (.int .i64 6) ∧ w = w' := by
  have HC := Lib.hid (begin_nilW w)
  go_enter Try.func36, Try.ntmps36
  go_wp2_with fail
  refine (HC.out).mono ?_
  rintro e w1 ⟨rfl, rfl⟩
  go_wp2_with fail
  go_ret
  exact ⟨rfl, rfl⟩
set_option maxHeartbeats 400000 in
theorem rswap_nil : Calls Try.prog 34 #[.pointer none, .string s, .string t] w fun e w' => e = .returned (.int .i64 6) ∧ w = w' := by
  have HC := Lib.hid (begin_nilW w)
  go_enter Try.func34, Try.ntmps34
  go_wp2_with fail
  refine (HC.out).mono ?_
  rintro e w1 ⟨rfl, rfl⟩
  go_wp2_with fail
  go_ret
  exact ⟨rfl, rfl⟩
set_option maxHeartbeats 400000 in
theorem rtrim_nil : Calls Try.prog 35 #[.pointer none, .string s, .int .i64 z] w fun e w' => e = .returned (.int .i64 6) ∧ w = w' := by
  have HC := Lib.hid (begin_nilW w)
  go_enter Try.func35, Try.ntmps35
  go_wp2_with fail
  refine (HC.out).mono ?_
  rintro e w1 ⟨rfl, rfl⟩
  go_wp2_with fail
  go_ret
  exact ⟨rfl, rfl⟩
set_option maxHeartbeats 400000 in
theorem rwrite_nil : Calls Try.prog 38 #[.pointer none, .string s, .slice A l c] w fun e w' => e = .returned (.int .i64 6) ∧ w = w' := by
  have HC := Lib.hid (begin_nilW w)
  go_enter Try.func38, Try.ntmps38
  go_wp2_with fail
  refine (HC.out).mono ?_
  rintro e w1 ⟨rfl, rfl⟩
  go_wp2_with fail
  go_ret
  exact ⟨rfl, rfl⟩
set_option maxHeartbeats 400000 in
theorem rcrash_nil : Calls Try.prog 31 #[.pointer none, .slice A l c] w fun e w' => e = .returned (.tuple #[]) ∧ w = w' := by
  go_enter Try.func31, Try.ntmps31
  go_wp2_with fail
  refine bodyPost_ret (results_none rfl _ _ _) rfl ?_
  exact ⟨rfl, rfl⟩
end

set_option maxRecDepth 100000 in
set_option maxHeartbeats 1000000 in
theorem alike_nil (w : World) : Calls Try.prog 14 #[.pointer none, .pointer none] w fun e w' => e = .returned (.bool true) ∧ w = w' := by
  have HN := Lib.hid (names_nil w)
  have HU := Lib.hid (used_nil w)
  have HP := Lib.hid (up_nilW w)
  go_enter Try.func14, Try.ntmps14
  go_wp2_with fail
  refine (HN.out).mono ?_
  rintro e w1 ⟨rfl, rfl⟩
  go_wp2_with fail
  refine (HU.out).mono ?_
  rintro e w1 ⟨rfl, rfl⟩
  go_wp2_with fail
  refine (HP.out).mono ?_
  rintro e w1 ⟨rfl, rfl⟩
  go_wp2_with fail
  go_ret
  exact ⟨by simp, rfl⟩

end Go.Proofs.Ytchedflfinkppaa

/-
  The law's do where there is no disk.
-/
namespace Go.Proofs.Ytchedflfinkppaa
open Go.RowKit Go.Maps Go.Sort Go.Shelf
set_option linter.unusedSimpArgs false
set_option linter.unusedVariables false

theorem below_only {w0 w w' : World} {g : Nat} (h : Below w0.heap.size w0 w) (ho : Only g w w') (hg : w0.heap.size ≤ g) : Below w0.heap.size w0 w' :=
  ⟨ho.os.trans h.os, ho.tape.trans h.tape, ho.output.trans h.output, Nat.le_trans h.size ho.size, fun k hk => (ho.block k (by have := h.size; omega) (by omega)).trans (h.block k hk)⟩
theorem flp_of {S : Nat → Prop} {w : World} {A2 : Option Addr} {ps : List (List Int)} (hps : TxtAt S w A2 ps) (hfree : FreeT S w A2 ps.length) (hp : ∀ t ∈ ps, t.length ≤ 200) : ∃ f, Flp S A2 ps.length f w := by
  have hall : ∀ j, ∃ y : Option Addr × Nat × Nat, j < ps.length → ∃ ad, A2 = some ad ∧ w.cell? (ad.add j) = some (.slice y.1 y.2.1 y.2.2) ∧ y.2.1 ≤ 200 ∧ ∀ i, i < y.2.1 → ∃ g z, y.1 = some ⟨g, 0, none⟩ ∧ S g ∧ w.cell? ⟨g, i, none⟩ = some (.int .u8 z) ∧ w.frozen? ⟨g, i, none⟩ = false := fun j => by
    by_cases hj : j < ps.length
    · obtain ⟨ad, X, c, e, _, _, h0, h1, h2⟩ := hps j hj
      have hfr := hfree j hj ad X _ c e h0
      refine ⟨(X, (ps[j]).length, c), fun _ => ⟨ad, e, h0, hp _ (List.getElem_mem hj), fun i hi => ?_⟩⟩
      obtain ⟨a, ea, s, _, hc⟩ := h2 i (by rw [u8s_len]; exact hi)
      obtain ⟨f1, f2, _, f4⟩ := hfr a ea
      refine ⟨a.block, (ps[j])[i], by rw [ea, ← f1], s, ?_, f4 i⟩
      rw [f1, Addr.add_lit, Nat.zero_add] at hc
      rw [hc]
      simp [u8s]
    · exact ⟨(none, 0, 0), fun h => absurd h hj⟩
  obtain ⟨f, hf'⟩ := Classical.skolem.1 hall
  exact ⟨f, fun j hj => hf' j hj⟩

section
variable (w : World) (S : Nat → Prop) (o : Opn) (A1 : Option Addr) (c1 : Nat) (A2 : Option Addr) (c2 : Nat) (A3 : Option Addr) (c3 : Nat)

set_option maxRecDepth 100000 in
set_option maxHeartbeats 2000000 in
theorem don_firm4 (hat : OpAt S w o A1 c1 A2 c2 A3 c3) (hok : OpOk o) (hk : o.d % 11 = 4) :
    Calls Try.prog 13 #[.pointer none, .pointer none, .agg (opV o A1 c1 A2 c2 A3 c3).toArray] w fun e w' => e = .returned (.bool true) ∧ Below w.heap.size w w' := by
  have HAT := Lib.hid hat
  have HOK := Lib.hid hok
  have hkk := hk
  unfold opV
  clear hat hok hk
  go_enter Try.func13, Try.ntmps13
  go_wp2_with fail
  obtain ⟨wa, hwa⟩ : ∃ y, y = w.alloc (.cells #[.int .u8 o.d, .string o.nm, .string o.to, .slice A1 o.ns.length c1, .slice A2 o.ps.length c2, .int .i64 o.n, .slice A3 o.ks.length c3] 34) := ⟨_, rfl⟩
  rw [← hwa]
  have hTa : wa.heap[w.heap.size]? = some (.cells [.int .u8 o.d, .string o.nm, .string o.to, .slice A1 o.ns.length c1, .slice A2 o.ps.length c2, .int .i64 o.n, .slice A3 o.ks.length c3].toArray 34 (0, 0)) := by rw [hwa]; exact new_at rfl
  have hba : Below w.heap.size w wa := by rw [hwa]; exact (Below.refl _ _).alloc (Nat.le_refl _) _
  have hsa : wa.heap.size = w.heap.size + 1 := by rw [hwa]; simp
  obtain ⟨q, hq⟩ : ∃ q, q = w.heap.size := ⟨_, rfl⟩
  rw [← hq] at hTa hsa ⊢
  have HFW := Lib.hid (few_any _ o A1 A2 A3 c1 c2 c3 wa (HAT.out.below hba) HOK.out)
  have HTa := Lib.hid hTa
  have HBa := Lib.hid hba
  have HQ := Lib.hid hq
  clear hwa hTa hba hq
  refine (HFW.out).mono ?_
  rintro e w3 ⟨B1, e1', B2, e2', B3, e3', rfl, hat3, hfr3, hb3⟩
  have hfew := OpFew.of HOK.out
  have hdd : (fewO o).d = o.d := rfl
  obtain ⟨o', ho'⟩ : ∃ x, x = fewO o := ⟨_, rfl⟩
  rw [← ho'] at hat3 hfr3 hfew hdd ⊢
  have hT3 : w3.heap[q]? = _ := (hb3.block q (by omega)).trans HTa.out
  have y0 := sv_cell hT3 0
  have y1 := sv_cell hT3 1
  have y2 := sv_cell hT3 2
  have y3 := sv_cell hT3 3
  have y4 := sv_cell hT3 4
  have y5 := sv_cell hT3 5
  have y6 := sv_cell hT3 6
  simp only [List.getElem?_cons_zero, List.getElem?_cons_succ] at y0 y1 y2 y3 y4 y5 y6
  have p0 := sv_free (k := 0) hT3
  have p1 := sv_free (k := 1) hT3
  have p2 := sv_free (k := 2) hT3
  have p3 := sv_free (k := 3) hT3
  have p4 := sv_free (k := 4) hT3
  have p5 := sv_free (k := 5) hT3
  have p6 := sv_free (k := 6) hT3
  have HT3 := Lib.hid hT3
  have HAT3 := Lib.hid hat3
  have HFR3 := Lib.hid hfr3
  have HB3 := Lib.hid hb3
  have HFEW := Lib.hid hfew
  have d1 : o'.d.tmod 11 = 4 := by rw [hdd, Int.tmod_eq_emod_of_nonneg HOK.out.d.1]; omega
  have d2 : o'.d % 11 = 4 := by rw [hdd]; omega
  unfold opV
  clear hT3 hat3 hfr3 hb3 hfew ho' hdd
  go_upto_region 2 with fail
  obtain ⟨w4, hw4⟩ : ∃ x, x = ((((((w3.setCell ⟨q, 0, none⟩ (.int .u8 o'.d)).setCell ⟨q, 1, none⟩ (.string o'.nm)).setCell ⟨q, 2, none⟩ (.string o'.to)).setCell ⟨q, 3, none⟩ (.slice B1 o'.ns.length e1')).setCell ⟨q, 4, none⟩ (.slice B2 o'.ps.length e2')).setCell ⟨q, 5, none⟩ (.int .i64 o'.n)).setCell ⟨q, 6, none⟩ (.slice B3 o'.ks.length e3') := ⟨_, rfl⟩
  rw [← hw4]
  obtain ⟨k1, k2⟩ := sev_set (v0 := .int .u8 o'.d) (v1 := .string o'.nm) (v2 := .string o'.to) (v3 := .slice B1 o'.ns.length e1') (v4 := .slice B2 o'.ps.length e2') (v5 := .int .i64 o'.n) (v6 := .slice B3 o'.ks.length e3') HT3.out
  rw [← hw4] at k1 k2
  have HB4 : Hid (Below w.heap.size w w4) := below_only (HBa.out.trans (HB3.out.mono HBa.out.size)) k1 (by have := HQ.out; omega)
  have HCE : Hid (∀ W, Below w4.heap.size w4 W → W.cell? ⟨q, 0, none⟩ = some (.int .u8 o'.d) ∧ W.cell? ⟨q, 1, none⟩ = some (.string o'.nm) ∧ W.cell? ⟨q, 2, none⟩ = some (.string o'.to) ∧ W.cell? ⟨q, 3, none⟩ = some (.slice B1 o'.ns.length e1') ∧ W.cell? ⟨q, 4, none⟩ = some (.slice B2 o'.ps.length e2') ∧ W.cell? ⟨q, 5, none⟩ = some (.int .i64 o'.n) ∧ W.cell? ⟨q, 6, none⟩ = some (.slice B3 o'.ks.length e3')) := fun W hW => by
    have hq' := (hW.block q (lt_of_block k2)).trans k2
    exact ⟨sv_cell hq' 0, sv_cell hq' 1, sv_cell hq' 2, sv_cell hq' 3, sv_cell hq' 4, sv_cell hq' 5, sv_cell hq' 6⟩
  have hkk4 : ∀ g, g < w3.heap.size → wa.heap.size ≤ g → w4.heap[g]? = w3.heap[g]? := fun g hg hw => k1.block g hg (by omega)
  have HPS : Hid (TxtAt (fun g => wa.heap.size ≤ g) w4 B2 o'.ps) := HAT3.out.ps.kept k1.size hkk4
  have HFT : Hid (FreeT (fun g => wa.heap.size ≤ g) w4 B2 o'.ps.length) := FreeT.kept HAT3.out.ps HFR3.out k1.size fun g hg s => ⟨hkk4 g hg s, s⟩
  have HWA := Lib.hid hsa
  obtain ⟨z0, z1, z2, z3, z4, z5, z6⟩ := HCE.out w4 (Below.refl _ _)
  clear hw4 k1 k2 y0 y1 y2 y3 y4 y5 y6 p0 p1 p2 p3 p4 p5 p6 HT3 HAT3 HFR3 HB3 HTa HFW HAT HOK hsa hkk4
  go_wp2_with fail
  refine region_class (fun W => Below w4.heap.size w4 W) (by kernel_rfl) (by kernel_rfl) (Below.refl _ _).drew ?_
  repeat (first
    | go_big_quiet_skip
    | (go_big_quiet_want
       first
        | (go_big_quiet_op; go_big_quiet_on)
        | (refine quiet_call 16 _ _ rfl (args := #[.pointer none, .slice B1 o'.ns.length e1']) (fun W => by go_simp; done) (fun W hW => (firm_nil W B1 o'.ns.length e1').mono fun e w' h => ⟨h.1, h.2 ▸ hW⟩) ?_; (try simp only [Act.put, List.setIfInBounds_toArray, List.set_cons_zero, List.set_cons_succ]); go_big_quiet_on)
        | (refine quiet_call 33 _ _ rfl (args := #[.pointer none, .slice B1 o'.ns.length e1']) (fun W => by go_simp; done) (fun W hW => (rfirm_nil W B1 o'.ns.length e1').mono fun e w' h => ⟨h.1, h.2 ▸ hW⟩) ?_; (try simp only [Act.put, List.setIfInBounds_toArray, List.set_cons_zero, List.set_cons_succ]); go_big_quiet_on)
        | (refine quiet_run (v := ?_) ?_ ?_
           rotate_left
           · (intro W hW; have z := HCE.out W hW; go_simp; first | done | with_reducible rfl)
           (try simp only [Act.put, List.setIfInBounds_toArray, List.set_cons_zero, List.set_cons_succ]); go_big_quiet_on)))
  refine wpQuiet_nil ?_
  intro w5 hw5
  have HF : Hid (Below w.heap.size w w5) := HB4.out.trans (hw5.mono HB4.out.size)
  clear hw5
  go_wp2_with fail
  go_ret
  exact ⟨rfl, HF.out⟩

set_option maxRecDepth 100000 in
set_option maxHeartbeats 2000000 in
theorem don_firm5 (hat : OpAt S w o A1 c1 A2 c2 A3 c3) (hok : OpOk o) (hk : o.d % 11 = 5) :
    Calls Try.prog 13 #[.pointer none, .pointer none, .agg (opV o A1 c1 A2 c2 A3 c3).toArray] w fun e w' => e = .returned (.bool true) ∧ Below w.heap.size w w' := by
  have HAT := Lib.hid hat
  have HOK := Lib.hid hok
  have hkk := hk
  unfold opV
  clear hat hok hk
  go_enter Try.func13, Try.ntmps13
  go_wp2_with fail
  obtain ⟨wa, hwa⟩ : ∃ y, y = w.alloc (.cells #[.int .u8 o.d, .string o.nm, .string o.to, .slice A1 o.ns.length c1, .slice A2 o.ps.length c2, .int .i64 o.n, .slice A3 o.ks.length c3] 34) := ⟨_, rfl⟩
  rw [← hwa]
  have hTa : wa.heap[w.heap.size]? = some (.cells [.int .u8 o.d, .string o.nm, .string o.to, .slice A1 o.ns.length c1, .slice A2 o.ps.length c2, .int .i64 o.n, .slice A3 o.ks.length c3].toArray 34 (0, 0)) := by rw [hwa]; exact new_at rfl
  have hba : Below w.heap.size w wa := by rw [hwa]; exact (Below.refl _ _).alloc (Nat.le_refl _) _
  have hsa : wa.heap.size = w.heap.size + 1 := by rw [hwa]; simp
  obtain ⟨q, hq⟩ : ∃ q, q = w.heap.size := ⟨_, rfl⟩
  rw [← hq] at hTa hsa ⊢
  have HFW := Lib.hid (few_any _ o A1 A2 A3 c1 c2 c3 wa (HAT.out.below hba) HOK.out)
  have HTa := Lib.hid hTa
  have HBa := Lib.hid hba
  have HQ := Lib.hid hq
  clear hwa hTa hba hq
  refine (HFW.out).mono ?_
  rintro e w3 ⟨B1, e1', B2, e2', B3, e3', rfl, hat3, hfr3, hb3⟩
  have hfew := OpFew.of HOK.out
  have hdd : (fewO o).d = o.d := rfl
  obtain ⟨o', ho'⟩ : ∃ x, x = fewO o := ⟨_, rfl⟩
  rw [← ho'] at hat3 hfr3 hfew hdd ⊢
  have hT3 : w3.heap[q]? = _ := (hb3.block q (by omega)).trans HTa.out
  have y0 := sv_cell hT3 0
  have y1 := sv_cell hT3 1
  have y2 := sv_cell hT3 2
  have y3 := sv_cell hT3 3
  have y4 := sv_cell hT3 4
  have y5 := sv_cell hT3 5
  have y6 := sv_cell hT3 6
  simp only [List.getElem?_cons_zero, List.getElem?_cons_succ] at y0 y1 y2 y3 y4 y5 y6
  have p0 := sv_free (k := 0) hT3
  have p1 := sv_free (k := 1) hT3
  have p2 := sv_free (k := 2) hT3
  have p3 := sv_free (k := 3) hT3
  have p4 := sv_free (k := 4) hT3
  have p5 := sv_free (k := 5) hT3
  have p6 := sv_free (k := 6) hT3
  have HT3 := Lib.hid hT3
  have HAT3 := Lib.hid hat3
  have HFR3 := Lib.hid hfr3
  have HB3 := Lib.hid hb3
  have HFEW := Lib.hid hfew
  have d1 : o'.d.tmod 11 = 5 := by rw [hdd, Int.tmod_eq_emod_of_nonneg HOK.out.d.1]; omega
  have d2 : o'.d % 11 = 5 := by rw [hdd]; omega
  unfold opV
  clear hT3 hat3 hfr3 hb3 hfew ho' hdd
  go_upto_region 2 with fail
  obtain ⟨w4, hw4⟩ : ∃ x, x = ((((((w3.setCell ⟨q, 0, none⟩ (.int .u8 o'.d)).setCell ⟨q, 1, none⟩ (.string o'.nm)).setCell ⟨q, 2, none⟩ (.string o'.to)).setCell ⟨q, 3, none⟩ (.slice B1 o'.ns.length e1')).setCell ⟨q, 4, none⟩ (.slice B2 o'.ps.length e2')).setCell ⟨q, 5, none⟩ (.int .i64 o'.n)).setCell ⟨q, 6, none⟩ (.slice B3 o'.ks.length e3') := ⟨_, rfl⟩
  rw [← hw4]
  obtain ⟨k1, k2⟩ := sev_set (v0 := .int .u8 o'.d) (v1 := .string o'.nm) (v2 := .string o'.to) (v3 := .slice B1 o'.ns.length e1') (v4 := .slice B2 o'.ps.length e2') (v5 := .int .i64 o'.n) (v6 := .slice B3 o'.ks.length e3') HT3.out
  rw [← hw4] at k1 k2
  have HB4 : Hid (Below w.heap.size w w4) := below_only (HBa.out.trans (HB3.out.mono HBa.out.size)) k1 (by have := HQ.out; omega)
  have HCE : Hid (∀ W, Below w4.heap.size w4 W → W.cell? ⟨q, 0, none⟩ = some (.int .u8 o'.d) ∧ W.cell? ⟨q, 1, none⟩ = some (.string o'.nm) ∧ W.cell? ⟨q, 2, none⟩ = some (.string o'.to) ∧ W.cell? ⟨q, 3, none⟩ = some (.slice B1 o'.ns.length e1') ∧ W.cell? ⟨q, 4, none⟩ = some (.slice B2 o'.ps.length e2') ∧ W.cell? ⟨q, 5, none⟩ = some (.int .i64 o'.n) ∧ W.cell? ⟨q, 6, none⟩ = some (.slice B3 o'.ks.length e3')) := fun W hW => by
    have hq' := (hW.block q (lt_of_block k2)).trans k2
    exact ⟨sv_cell hq' 0, sv_cell hq' 1, sv_cell hq' 2, sv_cell hq' 3, sv_cell hq' 4, sv_cell hq' 5, sv_cell hq' 6⟩
  have hkk4 : ∀ g, g < w3.heap.size → wa.heap.size ≤ g → w4.heap[g]? = w3.heap[g]? := fun g hg hw => k1.block g hg (by omega)
  have HPS : Hid (TxtAt (fun g => wa.heap.size ≤ g) w4 B2 o'.ps) := HAT3.out.ps.kept k1.size hkk4
  have HFT : Hid (FreeT (fun g => wa.heap.size ≤ g) w4 B2 o'.ps.length) := FreeT.kept HAT3.out.ps HFR3.out k1.size fun g hg s => ⟨hkk4 g hg s, s⟩
  have HWA := Lib.hid hsa
  obtain ⟨z0, z1, z2, z3, z4, z5, z6⟩ := HCE.out w4 (Below.refl _ _)
  clear hw4 k1 k2 y0 y1 y2 y3 y4 y5 y6 p0 p1 p2 p3 p4 p5 p6 HT3 HAT3 HFR3 HB3 HTa HFW HAT HOK hsa hkk4
  go_wp2_with fail
  refine region_class (fun W => Below w4.heap.size w4 W) (by kernel_rfl) (by kernel_rfl) (Below.refl _ _).drew ?_
  repeat (first
    | go_big_quiet_skip
    | (go_big_quiet_want
       first
        | (go_big_quiet_op; go_big_quiet_on)
        | (refine quiet_call 16 _ _ rfl (args := #[.pointer none, .slice B1 o'.ns.length e1']) (fun W => by go_simp; done) (fun W hW => (firm_nil W B1 o'.ns.length e1').mono fun e w' h => ⟨h.1, h.2 ▸ hW⟩) ?_; (try simp only [Act.put, List.setIfInBounds_toArray, List.set_cons_zero, List.set_cons_succ]); go_big_quiet_on)
        | (refine quiet_call 33 _ _ rfl (args := #[.pointer none, .slice B1 o'.ns.length e1']) (fun W => by go_simp; done) (fun W hW => (rfirm_nil W B1 o'.ns.length e1').mono fun e w' h => ⟨h.1, h.2 ▸ hW⟩) ?_; (try simp only [Act.put, List.setIfInBounds_toArray, List.set_cons_zero, List.set_cons_succ]); go_big_quiet_on)
        | (refine quiet_run (v := ?_) ?_ ?_
           rotate_left
           · (intro W hW; have z := HCE.out W hW; go_simp; first | done | with_reducible rfl)
           (try simp only [Act.put, List.setIfInBounds_toArray, List.set_cons_zero, List.set_cons_succ]); go_big_quiet_on)))
  refine wpQuiet_nil ?_
  intro w5 hw5
  have HF : Hid (Below w.heap.size w w5) := HB4.out.trans (hw5.mono HB4.out.size)
  clear hw5
  go_wp2_with fail
  go_ret
  exact ⟨rfl, HF.out⟩

set_option maxRecDepth 100000 in
set_option maxHeartbeats 2000000 in
theorem don_swap (hat : OpAt S w o A1 c1 A2 c2 A3 c3) (hok : OpOk o) (hk : o.d % 11 = 6) :
    Calls Try.prog 13 #[.pointer none, .pointer none, .agg (opV o A1 c1 A2 c2 A3 c3).toArray] w fun e w' => e = .returned (.bool true) ∧ Below w.heap.size w w' := by
  have HAT := Lib.hid hat
  have HOK := Lib.hid hok
  have hkk := hk
  unfold opV
  clear hat hok hk
  go_enter Try.func13, Try.ntmps13
  go_wp2_with fail
  obtain ⟨wa, hwa⟩ : ∃ y, y = w.alloc (.cells #[.int .u8 o.d, .string o.nm, .string o.to, .slice A1 o.ns.length c1, .slice A2 o.ps.length c2, .int .i64 o.n, .slice A3 o.ks.length c3] 34) := ⟨_, rfl⟩
  rw [← hwa]
  have hTa : wa.heap[w.heap.size]? = some (.cells [.int .u8 o.d, .string o.nm, .string o.to, .slice A1 o.ns.length c1, .slice A2 o.ps.length c2, .int .i64 o.n, .slice A3 o.ks.length c3].toArray 34 (0, 0)) := by rw [hwa]; exact new_at rfl
  have hba : Below w.heap.size w wa := by rw [hwa]; exact (Below.refl _ _).alloc (Nat.le_refl _) _
  have hsa : wa.heap.size = w.heap.size + 1 := by rw [hwa]; simp
  obtain ⟨q, hq⟩ : ∃ q, q = w.heap.size := ⟨_, rfl⟩
  rw [← hq] at hTa hsa ⊢
  have HFW := Lib.hid (few_any _ o A1 A2 A3 c1 c2 c3 wa (HAT.out.below hba) HOK.out)
  have HTa := Lib.hid hTa
  have HBa := Lib.hid hba
  have HQ := Lib.hid hq
  clear hwa hTa hba hq
  refine (HFW.out).mono ?_
  rintro e w3 ⟨B1, e1', B2, e2', B3, e3', rfl, hat3, hfr3, hb3⟩
  have hfew := OpFew.of HOK.out
  have hdd : (fewO o).d = o.d := rfl
  obtain ⟨o', ho'⟩ : ∃ x, x = fewO o := ⟨_, rfl⟩
  rw [← ho'] at hat3 hfr3 hfew hdd ⊢
  have hT3 : w3.heap[q]? = _ := (hb3.block q (by omega)).trans HTa.out
  have y0 := sv_cell hT3 0
  have y1 := sv_cell hT3 1
  have y2 := sv_cell hT3 2
  have y3 := sv_cell hT3 3
  have y4 := sv_cell hT3 4
  have y5 := sv_cell hT3 5
  have y6 := sv_cell hT3 6
  simp only [List.getElem?_cons_zero, List.getElem?_cons_succ] at y0 y1 y2 y3 y4 y5 y6
  have p0 := sv_free (k := 0) hT3
  have p1 := sv_free (k := 1) hT3
  have p2 := sv_free (k := 2) hT3
  have p3 := sv_free (k := 3) hT3
  have p4 := sv_free (k := 4) hT3
  have p5 := sv_free (k := 5) hT3
  have p6 := sv_free (k := 6) hT3
  have HT3 := Lib.hid hT3
  have HAT3 := Lib.hid hat3
  have HFR3 := Lib.hid hfr3
  have HB3 := Lib.hid hb3
  have HFEW := Lib.hid hfew
  have d1 : o'.d.tmod 11 = 6 := by rw [hdd, Int.tmod_eq_emod_of_nonneg HOK.out.d.1]; omega
  have d2 : o'.d % 11 = 6 := by rw [hdd]; omega
  unfold opV
  clear hT3 hat3 hfr3 hb3 hfew ho' hdd
  go_upto_region 2 with fail
  obtain ⟨w4, hw4⟩ : ∃ x, x = ((((((w3.setCell ⟨q, 0, none⟩ (.int .u8 o'.d)).setCell ⟨q, 1, none⟩ (.string o'.nm)).setCell ⟨q, 2, none⟩ (.string o'.to)).setCell ⟨q, 3, none⟩ (.slice B1 o'.ns.length e1')).setCell ⟨q, 4, none⟩ (.slice B2 o'.ps.length e2')).setCell ⟨q, 5, none⟩ (.int .i64 o'.n)).setCell ⟨q, 6, none⟩ (.slice B3 o'.ks.length e3') := ⟨_, rfl⟩
  rw [← hw4]
  obtain ⟨k1, k2⟩ := sev_set (v0 := .int .u8 o'.d) (v1 := .string o'.nm) (v2 := .string o'.to) (v3 := .slice B1 o'.ns.length e1') (v4 := .slice B2 o'.ps.length e2') (v5 := .int .i64 o'.n) (v6 := .slice B3 o'.ks.length e3') HT3.out
  rw [← hw4] at k1 k2
  have HB4 : Hid (Below w.heap.size w w4) := below_only (HBa.out.trans (HB3.out.mono HBa.out.size)) k1 (by have := HQ.out; omega)
  have HCE : Hid (∀ W, Below w4.heap.size w4 W → W.cell? ⟨q, 0, none⟩ = some (.int .u8 o'.d) ∧ W.cell? ⟨q, 1, none⟩ = some (.string o'.nm) ∧ W.cell? ⟨q, 2, none⟩ = some (.string o'.to) ∧ W.cell? ⟨q, 3, none⟩ = some (.slice B1 o'.ns.length e1') ∧ W.cell? ⟨q, 4, none⟩ = some (.slice B2 o'.ps.length e2') ∧ W.cell? ⟨q, 5, none⟩ = some (.int .i64 o'.n) ∧ W.cell? ⟨q, 6, none⟩ = some (.slice B3 o'.ks.length e3')) := fun W hW => by
    have hq' := (hW.block q (lt_of_block k2)).trans k2
    exact ⟨sv_cell hq' 0, sv_cell hq' 1, sv_cell hq' 2, sv_cell hq' 3, sv_cell hq' 4, sv_cell hq' 5, sv_cell hq' 6⟩
  have hkk4 : ∀ g, g < w3.heap.size → wa.heap.size ≤ g → w4.heap[g]? = w3.heap[g]? := fun g hg hw => k1.block g hg (by omega)
  have HPS : Hid (TxtAt (fun g => wa.heap.size ≤ g) w4 B2 o'.ps) := HAT3.out.ps.kept k1.size hkk4
  have HFT : Hid (FreeT (fun g => wa.heap.size ≤ g) w4 B2 o'.ps.length) := FreeT.kept HAT3.out.ps HFR3.out k1.size fun g hg s => ⟨hkk4 g hg s, s⟩
  have HWA := Lib.hid hsa
  obtain ⟨z0, z1, z2, z3, z4, z5, z6⟩ := HCE.out w4 (Below.refl _ _)
  clear hw4 k1 k2 y0 y1 y2 y3 y4 y5 y6 p0 p1 p2 p3 p4 p5 p6 HT3 HAT3 HFR3 HB3 HTa HFW HAT HOK hsa hkk4
  go_wp2_with fail
  refine region_class (fun W => Below w4.heap.size w4 W) (by kernel_rfl) (by kernel_rfl) (Below.refl _ _).drew ?_
  repeat (first
    | go_big_quiet_skip
    | (go_big_quiet_want
       first
        | (go_big_quiet_op; go_big_quiet_on)
        | (refine quiet_call 26 _ _ rfl (args := #[.pointer none, .string o'.nm, .string o'.to]) (fun W => by go_simp; done) (fun W hW => (swap_nil W o'.nm o'.to).mono fun e w' h => ⟨h.1, h.2 ▸ hW⟩) ?_; (try simp only [Act.put, List.setIfInBounds_toArray, List.set_cons_zero, List.set_cons_succ]); go_big_quiet_on)
        | (refine quiet_call 34 _ _ rfl (args := #[.pointer none, .string o'.nm, .string o'.to]) (fun W => by go_simp; done) (fun W hW => (rswap_nil W o'.nm o'.to).mono fun e w' h => ⟨h.1, h.2 ▸ hW⟩) ?_; (try simp only [Act.put, List.setIfInBounds_toArray, List.set_cons_zero, List.set_cons_succ]); go_big_quiet_on)
        | (refine quiet_run (v := ?_) ?_ ?_
           rotate_left
           · (intro W hW; have z := HCE.out W hW; go_simp; first | done | with_reducible rfl)
           (try simp only [Act.put, List.setIfInBounds_toArray, List.set_cons_zero, List.set_cons_succ]); go_big_quiet_on)))
  refine wpQuiet_nil ?_
  intro w5 hw5
  have HF : Hid (Below w.heap.size w w5) := HB4.out.trans (hw5.mono HB4.out.size)
  clear hw5
  go_wp2_with fail
  go_ret
  exact ⟨rfl, HF.out⟩

set_option maxRecDepth 100000 in
set_option maxHeartbeats 2000000 in
theorem don_trim (hat : OpAt S w o A1 c1 A2 c2 A3 c3) (hok : OpOk o) (hk : o.d % 11 = 7) :
    Calls Try.prog 13 #[.pointer none, .pointer none, .agg (opV o A1 c1 A2 c2 A3 c3).toArray] w fun e w' => e = .returned (.bool true) ∧ Below w.heap.size w w' := by
  have HAT := Lib.hid hat
  have HOK := Lib.hid hok
  have hkk := hk
  unfold opV
  clear hat hok hk
  go_enter Try.func13, Try.ntmps13
  go_wp2_with fail
  obtain ⟨wa, hwa⟩ : ∃ y, y = w.alloc (.cells #[.int .u8 o.d, .string o.nm, .string o.to, .slice A1 o.ns.length c1, .slice A2 o.ps.length c2, .int .i64 o.n, .slice A3 o.ks.length c3] 34) := ⟨_, rfl⟩
  rw [← hwa]
  have hTa : wa.heap[w.heap.size]? = some (.cells [.int .u8 o.d, .string o.nm, .string o.to, .slice A1 o.ns.length c1, .slice A2 o.ps.length c2, .int .i64 o.n, .slice A3 o.ks.length c3].toArray 34 (0, 0)) := by rw [hwa]; exact new_at rfl
  have hba : Below w.heap.size w wa := by rw [hwa]; exact (Below.refl _ _).alloc (Nat.le_refl _) _
  have hsa : wa.heap.size = w.heap.size + 1 := by rw [hwa]; simp
  obtain ⟨q, hq⟩ : ∃ q, q = w.heap.size := ⟨_, rfl⟩
  rw [← hq] at hTa hsa ⊢
  have HFW := Lib.hid (few_any _ o A1 A2 A3 c1 c2 c3 wa (HAT.out.below hba) HOK.out)
  have HTa := Lib.hid hTa
  have HBa := Lib.hid hba
  have HQ := Lib.hid hq
  clear hwa hTa hba hq
  refine (HFW.out).mono ?_
  rintro e w3 ⟨B1, e1', B2, e2', B3, e3', rfl, hat3, hfr3, hb3⟩
  have hfew := OpFew.of HOK.out
  have hdd : (fewO o).d = o.d := rfl
  obtain ⟨o', ho'⟩ : ∃ x, x = fewO o := ⟨_, rfl⟩
  rw [← ho'] at hat3 hfr3 hfew hdd ⊢
  have hT3 : w3.heap[q]? = _ := (hb3.block q (by omega)).trans HTa.out
  have y0 := sv_cell hT3 0
  have y1 := sv_cell hT3 1
  have y2 := sv_cell hT3 2
  have y3 := sv_cell hT3 3
  have y4 := sv_cell hT3 4
  have y5 := sv_cell hT3 5
  have y6 := sv_cell hT3 6
  simp only [List.getElem?_cons_zero, List.getElem?_cons_succ] at y0 y1 y2 y3 y4 y5 y6
  have p0 := sv_free (k := 0) hT3
  have p1 := sv_free (k := 1) hT3
  have p2 := sv_free (k := 2) hT3
  have p3 := sv_free (k := 3) hT3
  have p4 := sv_free (k := 4) hT3
  have p5 := sv_free (k := 5) hT3
  have p6 := sv_free (k := 6) hT3
  have HT3 := Lib.hid hT3
  have HAT3 := Lib.hid hat3
  have HFR3 := Lib.hid hfr3
  have HB3 := Lib.hid hb3
  have HFEW := Lib.hid hfew
  have d1 : o'.d.tmod 11 = 7 := by rw [hdd, Int.tmod_eq_emod_of_nonneg HOK.out.d.1]; omega
  have d2 : o'.d % 11 = 7 := by rw [hdd]; omega
  unfold opV
  clear hT3 hat3 hfr3 hb3 hfew ho' hdd
  go_upto_region 2 with fail
  obtain ⟨w4, hw4⟩ : ∃ x, x = ((((((w3.setCell ⟨q, 0, none⟩ (.int .u8 o'.d)).setCell ⟨q, 1, none⟩ (.string o'.nm)).setCell ⟨q, 2, none⟩ (.string o'.to)).setCell ⟨q, 3, none⟩ (.slice B1 o'.ns.length e1')).setCell ⟨q, 4, none⟩ (.slice B2 o'.ps.length e2')).setCell ⟨q, 5, none⟩ (.int .i64 o'.n)).setCell ⟨q, 6, none⟩ (.slice B3 o'.ks.length e3') := ⟨_, rfl⟩
  rw [← hw4]
  obtain ⟨k1, k2⟩ := sev_set (v0 := .int .u8 o'.d) (v1 := .string o'.nm) (v2 := .string o'.to) (v3 := .slice B1 o'.ns.length e1') (v4 := .slice B2 o'.ps.length e2') (v5 := .int .i64 o'.n) (v6 := .slice B3 o'.ks.length e3') HT3.out
  rw [← hw4] at k1 k2
  have HB4 : Hid (Below w.heap.size w w4) := below_only (HBa.out.trans (HB3.out.mono HBa.out.size)) k1 (by have := HQ.out; omega)
  have HCE : Hid (∀ W, Below w4.heap.size w4 W → W.cell? ⟨q, 0, none⟩ = some (.int .u8 o'.d) ∧ W.cell? ⟨q, 1, none⟩ = some (.string o'.nm) ∧ W.cell? ⟨q, 2, none⟩ = some (.string o'.to) ∧ W.cell? ⟨q, 3, none⟩ = some (.slice B1 o'.ns.length e1') ∧ W.cell? ⟨q, 4, none⟩ = some (.slice B2 o'.ps.length e2') ∧ W.cell? ⟨q, 5, none⟩ = some (.int .i64 o'.n) ∧ W.cell? ⟨q, 6, none⟩ = some (.slice B3 o'.ks.length e3')) := fun W hW => by
    have hq' := (hW.block q (lt_of_block k2)).trans k2
    exact ⟨sv_cell hq' 0, sv_cell hq' 1, sv_cell hq' 2, sv_cell hq' 3, sv_cell hq' 4, sv_cell hq' 5, sv_cell hq' 6⟩
  have hkk4 : ∀ g, g < w3.heap.size → wa.heap.size ≤ g → w4.heap[g]? = w3.heap[g]? := fun g hg hw => k1.block g hg (by omega)
  have HPS : Hid (TxtAt (fun g => wa.heap.size ≤ g) w4 B2 o'.ps) := HAT3.out.ps.kept k1.size hkk4
  have HFT : Hid (FreeT (fun g => wa.heap.size ≤ g) w4 B2 o'.ps.length) := FreeT.kept HAT3.out.ps HFR3.out k1.size fun g hg s => ⟨hkk4 g hg s, s⟩
  have HWA := Lib.hid hsa
  obtain ⟨z0, z1, z2, z3, z4, z5, z6⟩ := HCE.out w4 (Below.refl _ _)
  clear hw4 k1 k2 y0 y1 y2 y3 y4 y5 y6 p0 p1 p2 p3 p4 p5 p6 HT3 HAT3 HFR3 HB3 HTa HFW HAT HOK hsa hkk4
  go_wp2_with fail
  refine region_class (fun W => Below w4.heap.size w4 W) (by kernel_rfl) (by kernel_rfl) (Below.refl _ _).drew ?_
  repeat (first
    | go_big_quiet_skip
    | (go_big_quiet_want
       first
        | (go_big_quiet_op; go_big_quiet_on)
        | (refine quiet_call 27 _ _ rfl (args := #[.pointer none, .string o'.nm, .int .i64 o'.n]) (fun W => by go_simp; done) (fun W hW => (trim_nil W o'.nm o'.n).mono fun e w' h => ⟨h.1, h.2 ▸ hW⟩) ?_; (try simp only [Act.put, List.setIfInBounds_toArray, List.set_cons_zero, List.set_cons_succ]); go_big_quiet_on)
        | (refine quiet_call 35 _ _ rfl (args := #[.pointer none, .string o'.nm, .int .i64 o'.n]) (fun W => by go_simp; done) (fun W hW => (rtrim_nil W o'.nm o'.n).mono fun e w' h => ⟨h.1, h.2 ▸ hW⟩) ?_; (try simp only [Act.put, List.setIfInBounds_toArray, List.set_cons_zero, List.set_cons_succ]); go_big_quiet_on)
        | (refine quiet_run (v := ?_) ?_ ?_
           rotate_left
           · (intro W hW; have z := HCE.out W hW; go_simp; first | done | with_reducible rfl)
           (try simp only [Act.put, List.setIfInBounds_toArray, List.set_cons_zero, List.set_cons_succ]); go_big_quiet_on)))
  refine wpQuiet_nil ?_
  intro w5 hw5
  have HF : Hid (Below w.heap.size w w5) := HB4.out.trans (hw5.mono HB4.out.size)
  clear hw5
  go_wp2_with fail
  go_ret
  exact ⟨rfl, HF.out⟩

set_option maxRecDepth 100000 in
set_option maxHeartbeats 2000000 in
theorem don_drop (hat : OpAt S w o A1 c1 A2 c2 A3 c3) (hok : OpOk o) (hk : o.d % 11 = 8) :
    Calls Try.prog 13 #[.pointer none, .pointer none, .agg (opV o A1 c1 A2 c2 A3 c3).toArray] w fun e w' => e = .returned (.bool true) ∧ Below w.heap.size w w' := by
  have HAT := Lib.hid hat
  have HOK := Lib.hid hok
  have hkk := hk
  unfold opV
  clear hat hok hk
  go_enter Try.func13, Try.ntmps13
  go_wp2_with fail
  obtain ⟨wa, hwa⟩ : ∃ y, y = w.alloc (.cells #[.int .u8 o.d, .string o.nm, .string o.to, .slice A1 o.ns.length c1, .slice A2 o.ps.length c2, .int .i64 o.n, .slice A3 o.ks.length c3] 34) := ⟨_, rfl⟩
  rw [← hwa]
  have hTa : wa.heap[w.heap.size]? = some (.cells [.int .u8 o.d, .string o.nm, .string o.to, .slice A1 o.ns.length c1, .slice A2 o.ps.length c2, .int .i64 o.n, .slice A3 o.ks.length c3].toArray 34 (0, 0)) := by rw [hwa]; exact new_at rfl
  have hba : Below w.heap.size w wa := by rw [hwa]; exact (Below.refl _ _).alloc (Nat.le_refl _) _
  have hsa : wa.heap.size = w.heap.size + 1 := by rw [hwa]; simp
  obtain ⟨q, hq⟩ : ∃ q, q = w.heap.size := ⟨_, rfl⟩
  rw [← hq] at hTa hsa ⊢
  have HFW := Lib.hid (few_any _ o A1 A2 A3 c1 c2 c3 wa (HAT.out.below hba) HOK.out)
  have HTa := Lib.hid hTa
  have HBa := Lib.hid hba
  have HQ := Lib.hid hq
  clear hwa hTa hba hq
  refine (HFW.out).mono ?_
  rintro e w3 ⟨B1, e1', B2, e2', B3, e3', rfl, hat3, hfr3, hb3⟩
  have hfew := OpFew.of HOK.out
  have hdd : (fewO o).d = o.d := rfl
  obtain ⟨o', ho'⟩ : ∃ x, x = fewO o := ⟨_, rfl⟩
  rw [← ho'] at hat3 hfr3 hfew hdd ⊢
  have hT3 : w3.heap[q]? = _ := (hb3.block q (by omega)).trans HTa.out
  have y0 := sv_cell hT3 0
  have y1 := sv_cell hT3 1
  have y2 := sv_cell hT3 2
  have y3 := sv_cell hT3 3
  have y4 := sv_cell hT3 4
  have y5 := sv_cell hT3 5
  have y6 := sv_cell hT3 6
  simp only [List.getElem?_cons_zero, List.getElem?_cons_succ] at y0 y1 y2 y3 y4 y5 y6
  have p0 := sv_free (k := 0) hT3
  have p1 := sv_free (k := 1) hT3
  have p2 := sv_free (k := 2) hT3
  have p3 := sv_free (k := 3) hT3
  have p4 := sv_free (k := 4) hT3
  have p5 := sv_free (k := 5) hT3
  have p6 := sv_free (k := 6) hT3
  have HT3 := Lib.hid hT3
  have HAT3 := Lib.hid hat3
  have HFR3 := Lib.hid hfr3
  have HB3 := Lib.hid hb3
  have HFEW := Lib.hid hfew
  have d1 : o'.d.tmod 11 = 8 := by rw [hdd, Int.tmod_eq_emod_of_nonneg HOK.out.d.1]; omega
  have d2 : o'.d % 11 = 8 := by rw [hdd]; omega
  unfold opV
  clear hT3 hat3 hfr3 hb3 hfew ho' hdd
  go_upto_region 2 with fail
  obtain ⟨w4, hw4⟩ : ∃ x, x = ((((((w3.setCell ⟨q, 0, none⟩ (.int .u8 o'.d)).setCell ⟨q, 1, none⟩ (.string o'.nm)).setCell ⟨q, 2, none⟩ (.string o'.to)).setCell ⟨q, 3, none⟩ (.slice B1 o'.ns.length e1')).setCell ⟨q, 4, none⟩ (.slice B2 o'.ps.length e2')).setCell ⟨q, 5, none⟩ (.int .i64 o'.n)).setCell ⟨q, 6, none⟩ (.slice B3 o'.ks.length e3') := ⟨_, rfl⟩
  rw [← hw4]
  obtain ⟨k1, k2⟩ := sev_set (v0 := .int .u8 o'.d) (v1 := .string o'.nm) (v2 := .string o'.to) (v3 := .slice B1 o'.ns.length e1') (v4 := .slice B2 o'.ps.length e2') (v5 := .int .i64 o'.n) (v6 := .slice B3 o'.ks.length e3') HT3.out
  rw [← hw4] at k1 k2
  have HB4 : Hid (Below w.heap.size w w4) := below_only (HBa.out.trans (HB3.out.mono HBa.out.size)) k1 (by have := HQ.out; omega)
  have HCE : Hid (∀ W, Below w4.heap.size w4 W → W.cell? ⟨q, 0, none⟩ = some (.int .u8 o'.d) ∧ W.cell? ⟨q, 1, none⟩ = some (.string o'.nm) ∧ W.cell? ⟨q, 2, none⟩ = some (.string o'.to) ∧ W.cell? ⟨q, 3, none⟩ = some (.slice B1 o'.ns.length e1') ∧ W.cell? ⟨q, 4, none⟩ = some (.slice B2 o'.ps.length e2') ∧ W.cell? ⟨q, 5, none⟩ = some (.int .i64 o'.n) ∧ W.cell? ⟨q, 6, none⟩ = some (.slice B3 o'.ks.length e3')) := fun W hW => by
    have hq' := (hW.block q (lt_of_block k2)).trans k2
    exact ⟨sv_cell hq' 0, sv_cell hq' 1, sv_cell hq' 2, sv_cell hq' 3, sv_cell hq' 4, sv_cell hq' 5, sv_cell hq' 6⟩
  have hkk4 : ∀ g, g < w3.heap.size → wa.heap.size ≤ g → w4.heap[g]? = w3.heap[g]? := fun g hg hw => k1.block g hg (by omega)
  have HPS : Hid (TxtAt (fun g => wa.heap.size ≤ g) w4 B2 o'.ps) := HAT3.out.ps.kept k1.size hkk4
  have HFT : Hid (FreeT (fun g => wa.heap.size ≤ g) w4 B2 o'.ps.length) := FreeT.kept HAT3.out.ps HFR3.out k1.size fun g hg s => ⟨hkk4 g hg s, s⟩
  have HWA := Lib.hid hsa
  obtain ⟨z0, z1, z2, z3, z4, z5, z6⟩ := HCE.out w4 (Below.refl _ _)
  clear hw4 k1 k2 y0 y1 y2 y3 y4 y5 y6 p0 p1 p2 p3 p4 p5 p6 HT3 HAT3 HFR3 HB3 HTa HFW HAT HOK hsa hkk4
  go_wp2_with fail
  refine region_class (fun W => Below w4.heap.size w4 W) (by kernel_rfl) (by kernel_rfl) (Below.refl _ _).drew ?_
  repeat (first
    | go_big_quiet_skip
    | (go_big_quiet_want
       first
        | (go_big_quiet_op; go_big_quiet_on)
        | (refine quiet_call 28 _ _ rfl (args := #[.pointer none, .slice B1 o'.ns.length e1']) (fun W => by go_simp; done) (fun W hW => (drop_nil W B1 o'.ns.length e1').mono fun e w' h => ⟨h.1, h.2 ▸ hW⟩) ?_; (try simp only [Act.put, List.setIfInBounds_toArray, List.set_cons_zero, List.set_cons_succ]); go_big_quiet_on)
        | (refine quiet_call 36 _ _ rfl (args := #[.pointer none, .slice B1 o'.ns.length e1']) (fun W => by go_simp; done) (fun W hW => (rdrop_nil W B1 o'.ns.length e1').mono fun e w' h => ⟨h.1, h.2 ▸ hW⟩) ?_; (try simp only [Act.put, List.setIfInBounds_toArray, List.set_cons_zero, List.set_cons_succ]); go_big_quiet_on)
        | (refine quiet_run (v := ?_) ?_ ?_
           rotate_left
           · (intro W hW; have z := HCE.out W hW; go_simp; first | done | with_reducible rfl)
           (try simp only [Act.put, List.setIfInBounds_toArray, List.set_cons_zero, List.set_cons_succ]); go_big_quiet_on)))
  refine wpQuiet_nil ?_
  intro w5 hw5
  have HF : Hid (Below w.heap.size w w5) := HB4.out.trans (hw5.mono HB4.out.size)
  clear hw5
  go_wp2_with fail
  go_ret
  exact ⟨rfl, HF.out⟩

set_option maxRecDepth 100000 in
set_option maxHeartbeats 2000000 in
theorem don_arm (hat : OpAt S w o A1 c1 A2 c2 A3 c3) (hok : OpOk o) (hk : o.d % 11 = 9) :
    Calls Try.prog 13 #[.pointer none, .pointer none, .agg (opV o A1 c1 A2 c2 A3 c3).toArray] w fun e w' => e = .returned (.bool true) ∧ Below w.heap.size w w' := by
  have HAT := Lib.hid hat
  have HOK := Lib.hid hok
  have hkk := hk
  unfold opV
  clear hat hok hk
  go_enter Try.func13, Try.ntmps13
  go_wp2_with fail
  obtain ⟨wa, hwa⟩ : ∃ y, y = w.alloc (.cells #[.int .u8 o.d, .string o.nm, .string o.to, .slice A1 o.ns.length c1, .slice A2 o.ps.length c2, .int .i64 o.n, .slice A3 o.ks.length c3] 34) := ⟨_, rfl⟩
  rw [← hwa]
  have hTa : wa.heap[w.heap.size]? = some (.cells [.int .u8 o.d, .string o.nm, .string o.to, .slice A1 o.ns.length c1, .slice A2 o.ps.length c2, .int .i64 o.n, .slice A3 o.ks.length c3].toArray 34 (0, 0)) := by rw [hwa]; exact new_at rfl
  have hba : Below w.heap.size w wa := by rw [hwa]; exact (Below.refl _ _).alloc (Nat.le_refl _) _
  have hsa : wa.heap.size = w.heap.size + 1 := by rw [hwa]; simp
  obtain ⟨q, hq⟩ : ∃ q, q = w.heap.size := ⟨_, rfl⟩
  rw [← hq] at hTa hsa ⊢
  have HFW := Lib.hid (few_any _ o A1 A2 A3 c1 c2 c3 wa (HAT.out.below hba) HOK.out)
  have HTa := Lib.hid hTa
  have HBa := Lib.hid hba
  have HQ := Lib.hid hq
  clear hwa hTa hba hq
  refine (HFW.out).mono ?_
  rintro e w3 ⟨B1, e1', B2, e2', B3, e3', rfl, hat3, hfr3, hb3⟩
  have hfew := OpFew.of HOK.out
  have hdd : (fewO o).d = o.d := rfl
  obtain ⟨o', ho'⟩ : ∃ x, x = fewO o := ⟨_, rfl⟩
  rw [← ho'] at hat3 hfr3 hfew hdd ⊢
  have hT3 : w3.heap[q]? = _ := (hb3.block q (by omega)).trans HTa.out
  have y0 := sv_cell hT3 0
  have y1 := sv_cell hT3 1
  have y2 := sv_cell hT3 2
  have y3 := sv_cell hT3 3
  have y4 := sv_cell hT3 4
  have y5 := sv_cell hT3 5
  have y6 := sv_cell hT3 6
  simp only [List.getElem?_cons_zero, List.getElem?_cons_succ] at y0 y1 y2 y3 y4 y5 y6
  have p0 := sv_free (k := 0) hT3
  have p1 := sv_free (k := 1) hT3
  have p2 := sv_free (k := 2) hT3
  have p3 := sv_free (k := 3) hT3
  have p4 := sv_free (k := 4) hT3
  have p5 := sv_free (k := 5) hT3
  have p6 := sv_free (k := 6) hT3
  have HT3 := Lib.hid hT3
  have HAT3 := Lib.hid hat3
  have HFR3 := Lib.hid hfr3
  have HB3 := Lib.hid hb3
  have HFEW := Lib.hid hfew
  have d1 : o'.d.tmod 11 = 9 := by rw [hdd, Int.tmod_eq_emod_of_nonneg HOK.out.d.1]; omega
  have d2 : o'.d % 11 = 9 := by rw [hdd]; omega
  unfold opV
  clear hT3 hat3 hfr3 hb3 hfew ho' hdd
  go_upto_region 2 with fail
  obtain ⟨w4, hw4⟩ : ∃ x, x = ((((((w3.setCell ⟨q, 0, none⟩ (.int .u8 o'.d)).setCell ⟨q, 1, none⟩ (.string o'.nm)).setCell ⟨q, 2, none⟩ (.string o'.to)).setCell ⟨q, 3, none⟩ (.slice B1 o'.ns.length e1')).setCell ⟨q, 4, none⟩ (.slice B2 o'.ps.length e2')).setCell ⟨q, 5, none⟩ (.int .i64 o'.n)).setCell ⟨q, 6, none⟩ (.slice B3 o'.ks.length e3') := ⟨_, rfl⟩
  rw [← hw4]
  obtain ⟨k1, k2⟩ := sev_set (v0 := .int .u8 o'.d) (v1 := .string o'.nm) (v2 := .string o'.to) (v3 := .slice B1 o'.ns.length e1') (v4 := .slice B2 o'.ps.length e2') (v5 := .int .i64 o'.n) (v6 := .slice B3 o'.ks.length e3') HT3.out
  rw [← hw4] at k1 k2
  have HB4 : Hid (Below w.heap.size w w4) := below_only (HBa.out.trans (HB3.out.mono HBa.out.size)) k1 (by have := HQ.out; omega)
  have HCE : Hid (∀ W, Below w4.heap.size w4 W → W.cell? ⟨q, 0, none⟩ = some (.int .u8 o'.d) ∧ W.cell? ⟨q, 1, none⟩ = some (.string o'.nm) ∧ W.cell? ⟨q, 2, none⟩ = some (.string o'.to) ∧ W.cell? ⟨q, 3, none⟩ = some (.slice B1 o'.ns.length e1') ∧ W.cell? ⟨q, 4, none⟩ = some (.slice B2 o'.ps.length e2') ∧ W.cell? ⟨q, 5, none⟩ = some (.int .i64 o'.n) ∧ W.cell? ⟨q, 6, none⟩ = some (.slice B3 o'.ks.length e3')) := fun W hW => by
    have hq' := (hW.block q (lt_of_block k2)).trans k2
    exact ⟨sv_cell hq' 0, sv_cell hq' 1, sv_cell hq' 2, sv_cell hq' 3, sv_cell hq' 4, sv_cell hq' 5, sv_cell hq' 6⟩
  have hkk4 : ∀ g, g < w3.heap.size → wa.heap.size ≤ g → w4.heap[g]? = w3.heap[g]? := fun g hg hw => k1.block g hg (by omega)
  have HPS : Hid (TxtAt (fun g => wa.heap.size ≤ g) w4 B2 o'.ps) := HAT3.out.ps.kept k1.size hkk4
  have HFT : Hid (FreeT (fun g => wa.heap.size ≤ g) w4 B2 o'.ps.length) := FreeT.kept HAT3.out.ps HFR3.out k1.size fun g hg s => ⟨hkk4 g hg s, s⟩
  have HWA := Lib.hid hsa
  obtain ⟨z0, z1, z2, z3, z4, z5, z6⟩ := HCE.out w4 (Below.refl _ _)
  clear hw4 k1 k2 y0 y1 y2 y3 y4 y5 y6 p0 p1 p2 p3 p4 p5 p6 HT3 HAT3 HFR3 HB3 HTa HFW HAT HOK hsa hkk4
  have HD := Lib.hid (arm_nil o'.n w4)
  have HR := Lib.hid (rarm_nil w4 o'.n)
  go_wp2_with fail
  refine (HD.out).mono ?_
  rintro e w5 ⟨rfl, rfl⟩
  go_wp2_with fail
  refine (HR.out).mono ?_
  rintro e w5 ⟨rfl, rfl⟩
  go_wp2_with fail
  go_ret
  exact ⟨rfl, HB4.out⟩

set_option maxRecDepth 100000 in
set_option maxHeartbeats 2000000 in
theorem don_crash (hat : OpAt S w o A1 c1 A2 c2 A3 c3) (hok : OpOk o) (hk : o.d % 11 = 10) :
    Calls Try.prog 13 #[.pointer none, .pointer none, .agg (opV o A1 c1 A2 c2 A3 c3).toArray] w fun e w' => e = .returned (.bool true) ∧ Below w.heap.size w w' := by
  have HAT := Lib.hid hat
  have HOK := Lib.hid hok
  have hkk := hk
  unfold opV
  clear hat hok hk
  go_enter Try.func13, Try.ntmps13
  go_wp2_with fail
  obtain ⟨wa, hwa⟩ : ∃ y, y = w.alloc (.cells #[.int .u8 o.d, .string o.nm, .string o.to, .slice A1 o.ns.length c1, .slice A2 o.ps.length c2, .int .i64 o.n, .slice A3 o.ks.length c3] 34) := ⟨_, rfl⟩
  rw [← hwa]
  have hTa : wa.heap[w.heap.size]? = some (.cells [.int .u8 o.d, .string o.nm, .string o.to, .slice A1 o.ns.length c1, .slice A2 o.ps.length c2, .int .i64 o.n, .slice A3 o.ks.length c3].toArray 34 (0, 0)) := by rw [hwa]; exact new_at rfl
  have hba : Below w.heap.size w wa := by rw [hwa]; exact (Below.refl _ _).alloc (Nat.le_refl _) _
  have hsa : wa.heap.size = w.heap.size + 1 := by rw [hwa]; simp
  obtain ⟨q, hq⟩ : ∃ q, q = w.heap.size := ⟨_, rfl⟩
  rw [← hq] at hTa hsa ⊢
  have HFW := Lib.hid (few_any _ o A1 A2 A3 c1 c2 c3 wa (HAT.out.below hba) HOK.out)
  have HTa := Lib.hid hTa
  have HBa := Lib.hid hba
  have HQ := Lib.hid hq
  clear hwa hTa hba hq
  refine (HFW.out).mono ?_
  rintro e w3 ⟨B1, e1', B2, e2', B3, e3', rfl, hat3, hfr3, hb3⟩
  have hfew := OpFew.of HOK.out
  have hdd : (fewO o).d = o.d := rfl
  obtain ⟨o', ho'⟩ : ∃ x, x = fewO o := ⟨_, rfl⟩
  rw [← ho'] at hat3 hfr3 hfew hdd ⊢
  have hT3 : w3.heap[q]? = _ := (hb3.block q (by omega)).trans HTa.out
  have y0 := sv_cell hT3 0
  have y1 := sv_cell hT3 1
  have y2 := sv_cell hT3 2
  have y3 := sv_cell hT3 3
  have y4 := sv_cell hT3 4
  have y5 := sv_cell hT3 5
  have y6 := sv_cell hT3 6
  simp only [List.getElem?_cons_zero, List.getElem?_cons_succ] at y0 y1 y2 y3 y4 y5 y6
  have p0 := sv_free (k := 0) hT3
  have p1 := sv_free (k := 1) hT3
  have p2 := sv_free (k := 2) hT3
  have p3 := sv_free (k := 3) hT3
  have p4 := sv_free (k := 4) hT3
  have p5 := sv_free (k := 5) hT3
  have p6 := sv_free (k := 6) hT3
  have HT3 := Lib.hid hT3
  have HAT3 := Lib.hid hat3
  have HFR3 := Lib.hid hfr3
  have HB3 := Lib.hid hb3
  have HFEW := Lib.hid hfew
  have d1 : o'.d.tmod 11 = 10 := by rw [hdd, Int.tmod_eq_emod_of_nonneg HOK.out.d.1]; omega
  have d2 : o'.d % 11 = 10 := by rw [hdd]; omega
  unfold opV
  clear hT3 hat3 hfr3 hb3 hfew ho' hdd
  go_upto_region 2 with fail
  obtain ⟨w4, hw4⟩ : ∃ x, x = ((((((w3.setCell ⟨q, 0, none⟩ (.int .u8 o'.d)).setCell ⟨q, 1, none⟩ (.string o'.nm)).setCell ⟨q, 2, none⟩ (.string o'.to)).setCell ⟨q, 3, none⟩ (.slice B1 o'.ns.length e1')).setCell ⟨q, 4, none⟩ (.slice B2 o'.ps.length e2')).setCell ⟨q, 5, none⟩ (.int .i64 o'.n)).setCell ⟨q, 6, none⟩ (.slice B3 o'.ks.length e3') := ⟨_, rfl⟩
  rw [← hw4]
  obtain ⟨k1, k2⟩ := sev_set (v0 := .int .u8 o'.d) (v1 := .string o'.nm) (v2 := .string o'.to) (v3 := .slice B1 o'.ns.length e1') (v4 := .slice B2 o'.ps.length e2') (v5 := .int .i64 o'.n) (v6 := .slice B3 o'.ks.length e3') HT3.out
  rw [← hw4] at k1 k2
  have HB4 : Hid (Below w.heap.size w w4) := below_only (HBa.out.trans (HB3.out.mono HBa.out.size)) k1 (by have := HQ.out; omega)
  have HCE : Hid (∀ W, Below w4.heap.size w4 W → W.cell? ⟨q, 0, none⟩ = some (.int .u8 o'.d) ∧ W.cell? ⟨q, 1, none⟩ = some (.string o'.nm) ∧ W.cell? ⟨q, 2, none⟩ = some (.string o'.to) ∧ W.cell? ⟨q, 3, none⟩ = some (.slice B1 o'.ns.length e1') ∧ W.cell? ⟨q, 4, none⟩ = some (.slice B2 o'.ps.length e2') ∧ W.cell? ⟨q, 5, none⟩ = some (.int .i64 o'.n) ∧ W.cell? ⟨q, 6, none⟩ = some (.slice B3 o'.ks.length e3')) := fun W hW => by
    have hq' := (hW.block q (lt_of_block k2)).trans k2
    exact ⟨sv_cell hq' 0, sv_cell hq' 1, sv_cell hq' 2, sv_cell hq' 3, sv_cell hq' 4, sv_cell hq' 5, sv_cell hq' 6⟩
  have hkk4 : ∀ g, g < w3.heap.size → wa.heap.size ≤ g → w4.heap[g]? = w3.heap[g]? := fun g hg hw => k1.block g hg (by omega)
  have HPS : Hid (TxtAt (fun g => wa.heap.size ≤ g) w4 B2 o'.ps) := HAT3.out.ps.kept k1.size hkk4
  have HFT : Hid (FreeT (fun g => wa.heap.size ≤ g) w4 B2 o'.ps.length) := FreeT.kept HAT3.out.ps HFR3.out k1.size fun g hg s => ⟨hkk4 g hg s, s⟩
  have HWA := Lib.hid hsa
  obtain ⟨z0, z1, z2, z3, z4, z5, z6⟩ := HCE.out w4 (Below.refl _ _)
  clear hw4 k1 k2 y0 y1 y2 y3 y4 y5 y6 p0 p1 p2 p3 p4 p5 p6 HT3 HAT3 HFR3 HB3 HTa HFW HAT HOK hsa hkk4
  have HD := Lib.hid (crash_nil B3 o'.ks.length e3' w4)
  have HR := Lib.hid (rcrash_nil w4 B3 o'.ks.length e3')
  go_wp2_with fail
  refine (HD.out).mono ?_
  rintro e w5 ⟨rfl, rfl⟩
  go_wp2_with fail
  refine (HR.out).mono ?_
  rintro e w5 ⟨rfl, rfl⟩
  go_wp2_with fail
  go_ret
  exact ⟨rfl, HB4.out⟩

set_option maxRecDepth 100000 in
set_option maxHeartbeats 2000000 in
theorem don_write (hat : OpAt S w o A1 c1 A2 c2 A3 c3) (hok : OpOk o) (hk : o.d % 11 < 4) :
    Calls Try.prog 13 #[.pointer none, .pointer none, .agg (opV o A1 c1 A2 c2 A3 c3).toArray] w fun e w' => e = .returned (.bool true) ∧ Below w.heap.size w w' := by
  have HAT := Lib.hid hat
  have HOK := Lib.hid hok
  have hkk := hk
  unfold opV
  clear hat hok hk
  go_enter Try.func13, Try.ntmps13
  go_wp2_with fail
  obtain ⟨wa, hwa⟩ : ∃ y, y = w.alloc (.cells #[.int .u8 o.d, .string o.nm, .string o.to, .slice A1 o.ns.length c1, .slice A2 o.ps.length c2, .int .i64 o.n, .slice A3 o.ks.length c3] 34) := ⟨_, rfl⟩
  rw [← hwa]
  have hTa : wa.heap[w.heap.size]? = some (.cells [.int .u8 o.d, .string o.nm, .string o.to, .slice A1 o.ns.length c1, .slice A2 o.ps.length c2, .int .i64 o.n, .slice A3 o.ks.length c3].toArray 34 (0, 0)) := by rw [hwa]; exact new_at rfl
  have hba : Below w.heap.size w wa := by rw [hwa]; exact (Below.refl _ _).alloc (Nat.le_refl _) _
  have hsa : wa.heap.size = w.heap.size + 1 := by rw [hwa]; simp
  obtain ⟨q, hq⟩ : ∃ q, q = w.heap.size := ⟨_, rfl⟩
  rw [← hq] at hTa hsa ⊢
  have HFW := Lib.hid (few_any _ o A1 A2 A3 c1 c2 c3 wa (HAT.out.below hba) HOK.out)
  have HTa := Lib.hid hTa
  have HBa := Lib.hid hba
  have HQ := Lib.hid hq
  clear hwa hTa hba hq
  refine (HFW.out).mono ?_
  rintro e w3 ⟨B1, e1', B2, e2', B3, e3', rfl, hat3, hfr3, hb3⟩
  have hfew := OpFew.of HOK.out
  have hdd : (fewO o).d = o.d := rfl
  obtain ⟨o', ho'⟩ : ∃ x, x = fewO o := ⟨_, rfl⟩
  rw [← ho'] at hat3 hfr3 hfew hdd ⊢
  have hT3 : w3.heap[q]? = _ := (hb3.block q (by omega)).trans HTa.out
  have y0 := sv_cell hT3 0
  have y1 := sv_cell hT3 1
  have y2 := sv_cell hT3 2
  have y3 := sv_cell hT3 3
  have y4 := sv_cell hT3 4
  have y5 := sv_cell hT3 5
  have y6 := sv_cell hT3 6
  simp only [List.getElem?_cons_zero, List.getElem?_cons_succ] at y0 y1 y2 y3 y4 y5 y6
  have p0 := sv_free (k := 0) hT3
  have p1 := sv_free (k := 1) hT3
  have p2 := sv_free (k := 2) hT3
  have p3 := sv_free (k := 3) hT3
  have p4 := sv_free (k := 4) hT3
  have p5 := sv_free (k := 5) hT3
  have p6 := sv_free (k := 6) hT3
  have HT3 := Lib.hid hT3
  have HAT3 := Lib.hid hat3
  have HFR3 := Lib.hid hfr3
  have HB3 := Lib.hid hb3
  have HFEW := Lib.hid hfew
  obtain ⟨dm, hdm⟩ : ∃ y, y = o.d % 11 := ⟨_, rfl⟩
  have d1 : o'.d.tmod 11 = dm := by rw [hdd, Int.tmod_eq_emod_of_nonneg HOK.out.d.1]; omega
  have d2 : o'.d % 11 = dm := by rw [hdd]; omega
  have n4 : (dm == 4) = false := beq_false_of_ne (by omega)
  have n5 : (dm == 5) = false := beq_false_of_ne (by omega)
  have n6 : (dm == 6) = false := beq_false_of_ne (by omega)
  have n7 : (dm == 7) = false := beq_false_of_ne (by omega)
  have n8 : (dm == 8) = false := beq_false_of_ne (by omega)
  have n9 : (dm == 9) = false := beq_false_of_ne (by omega)
  have n10 : (dm == 10) = false := beq_false_of_ne (by omega)
  clear hdm hkk
  unfold opV
  clear hT3 hat3 hfr3 hb3 hfew ho' hdd
  go_upto_region 2 with fail
  obtain ⟨w4, hw4⟩ : ∃ x, x = ((((((w3.setCell ⟨q, 0, none⟩ (.int .u8 o'.d)).setCell ⟨q, 1, none⟩ (.string o'.nm)).setCell ⟨q, 2, none⟩ (.string o'.to)).setCell ⟨q, 3, none⟩ (.slice B1 o'.ns.length e1')).setCell ⟨q, 4, none⟩ (.slice B2 o'.ps.length e2')).setCell ⟨q, 5, none⟩ (.int .i64 o'.n)).setCell ⟨q, 6, none⟩ (.slice B3 o'.ks.length e3') := ⟨_, rfl⟩
  rw [← hw4]
  obtain ⟨k1, k2⟩ := sev_set (v0 := .int .u8 o'.d) (v1 := .string o'.nm) (v2 := .string o'.to) (v3 := .slice B1 o'.ns.length e1') (v4 := .slice B2 o'.ps.length e2') (v5 := .int .i64 o'.n) (v6 := .slice B3 o'.ks.length e3') HT3.out
  rw [← hw4] at k1 k2
  have HB4 : Hid (Below w.heap.size w w4) := below_only (HBa.out.trans (HB3.out.mono HBa.out.size)) k1 (by have := HQ.out; omega)
  have HCE : Hid (∀ W, Below w4.heap.size w4 W → W.cell? ⟨q, 0, none⟩ = some (.int .u8 o'.d) ∧ W.cell? ⟨q, 1, none⟩ = some (.string o'.nm) ∧ W.cell? ⟨q, 2, none⟩ = some (.string o'.to) ∧ W.cell? ⟨q, 3, none⟩ = some (.slice B1 o'.ns.length e1') ∧ W.cell? ⟨q, 4, none⟩ = some (.slice B2 o'.ps.length e2') ∧ W.cell? ⟨q, 5, none⟩ = some (.int .i64 o'.n) ∧ W.cell? ⟨q, 6, none⟩ = some (.slice B3 o'.ks.length e3')) := fun W hW => by
    have hq' := (hW.block q (lt_of_block k2)).trans k2
    exact ⟨sv_cell hq' 0, sv_cell hq' 1, sv_cell hq' 2, sv_cell hq' 3, sv_cell hq' 4, sv_cell hq' 5, sv_cell hq' 6⟩
  have hkk4 : ∀ g, g < w3.heap.size → wa.heap.size ≤ g → w4.heap[g]? = w3.heap[g]? := fun g hg hw => k1.block g hg (by omega)
  have HPS : Hid (TxtAt (fun g => wa.heap.size ≤ g) w4 B2 o'.ps) := HAT3.out.ps.kept k1.size hkk4
  have HFT : Hid (FreeT (fun g => wa.heap.size ≤ g) w4 B2 o'.ps.length) := FreeT.kept HAT3.out.ps HFR3.out k1.size fun g hg s => ⟨hkk4 g hg s, s⟩
  have HWA := Lib.hid hsa
  obtain ⟨z0, z1, z2, z3, z4, z5, z6⟩ := HCE.out w4 (Below.refl _ _)
  clear hw4 k1 k2 y0 y1 y2 y3 y4 y5 y6 p0 p1 p2 p3 p4 p5 p6 HT3 HAT3 HFR3 HB3 HTa HFW HAT HOK hsa hkk4
  obtain ⟨i0, hi, hz0, hz1, hz2⟩ := info_parts Try.info5
  go_wp2_with fail
  go_loopw [7, 9, 95] (fun a _ i wr => ∃ (k : Nat) (A : Option Addr) (c : Nat), k ≤ o'.ps.length ∧ i = .int .i64 k ∧ a = .slice A (o'.ps.take k).flatten.length c ∧ wr.ownsRow w4.heap.size 5 1 (.slice A (o'.ps.take k).flatten.length c) (o'.ps.take k).flatten.length (u8s (o'.ps.take k).flatten) ∧ (o'.ps.take k).flatten.length ≤ k * 200 ∧ Below w4.heap.size w4 wr) (fun _ _ i _ => o'.ps.length - (intOf i).toNat)
  case atStart => exact ⟨0, none, 0, Nat.zero_le _, rfl, by simp, (show w4.ownsRow w4.heap.size 5 1 (.slice none 0 0) 0 [] from ⟨rfl, .inl ⟨rfl, rfl⟩⟩), by simp, Below.refl _ _⟩
  case round =>
    obtain ⟨k, A, c, hk, rfl, rfl, hown, hsz, hbr⟩ := hrel
    by_cases hlt : k < o'.ps.length
    · have i1 : (k : Int) < (o'.ps.length : Int) := by omega
      obtain ⟨ad, X, cX, rfl, _, _, m0, m1, m2⟩ := (HPS.out.below hbr) k hlt
      have hk4 : k ≤ 4 := by have := HFEW.out.ps; omega
      have hx2 := HFEW.out.pss _ (List.getElem_mem hlt)
      have hfl := flat_take hlt
      have HNX : Hid (u8s (o'.ps.take k).flatten ++ u8s o'.ps[k] = u8s (o'.ps.take (k + 1)).flatten ∧ (o'.ps.take k).flatten.length + o'.ps[k].length = (o'.ps.take (k + 1)).flatten.length) := ⟨by rw [hfl]; simp [u8s], by rw [hfl, List.length_append]⟩
      have HX1 := Lib.hid (u8s_one o'.ps[k])
      have HXL := Lib.hid (u8s_len o'.ps[k])
      have HBR := Lib.hid hbr
      have HOWN := Lib.hid hown
      have HM2 := Lib.hid m2
      have hxc := m1
      clear hbr hown m2 hfl
      obtain ⟨fk, hfk⟩ : ∃ y, y = (o'.ps.take k).flatten := ⟨_, rfl⟩
      rw [← hfk] at HOWN HNX hsz ⊢
      obtain ⟨xk, hxk⟩ : ∃ y, y = o'.ps[k] := ⟨_, rfl⟩
      rw [← hxk] at m0 m1 hxc hx2 HX1 HXL HM2 HNX
      clear hfk hxk
      generalize fk.length = nf at *
      generalize xk.length = nx at *
      go_wp2_with (at_builtin; refine wpList_append_row _ rfl (.tmp 99) (.tmp 100) 41 rfl w4.heap.size 5 i0 (.int .u8 0) 1 Try.underlying41 hi hz0 hz1 hz2 rfl (.slice A nf c) nf (u8s fk) rfl HOWN.out _ X nx cX (u8s xk) rfl HXL.out HM2.out HX1.out ?c3 ?c4 ?c5 ?_; rotate_right; intro A' c' w' hown' hgrow hat)
      case c3 => unfold maxLen; omega
      case c4 => omega
      case c5 => exact HBR.out.size
      have HG : Hid (w'.ownsRow w4.heap.size 5 1 (.slice A' (nf + nx) c') (nf + nx) (u8s (o'.ps.take (k + 1)).flatten) ∧ Below w4.heap.size w4 w') := ⟨by rw [← HNX.out.1]; exact hown', HBR.out.grown hgrow HBR.out.size (fun g e => (own_lt HOWN.out e).1)⟩
      clear hown' hgrow hat
      go_wp2_with fail
      go_roundw
      case rel => exact ⟨k + 1, A', c', by omega, by go_num, by rw [← HNX.out.2], by rw [← HNX.out.2]; exact HG.out.1, by rw [← HNX.out.2]; omega, HG.out.2⟩
      case measure => simp [intOf]; omega
    · have i1 : ¬ (k : Int) < (o'.ps.length : Int) := by omega
      rw [List.take_of_length_le (by omega)] at hown hsz ⊢
      obtain ⟨w5', rfl⟩ : ∃ y, y = wr := ⟨wr, rfl⟩
      have HCE5 : Hid (∀ W, Below w5'.heap.size w5' W → W.cell? ⟨q, 0, none⟩ = some (.int .u8 o'.d) ∧ W.cell? ⟨q, 1, none⟩ = some (.string o'.nm) ∧ W.cell? ⟨q, 2, none⟩ = some (.string o'.to) ∧ W.cell? ⟨q, 3, none⟩ = some (.slice B1 o'.ns.length e1') ∧ W.cell? ⟨q, 4, none⟩ = some (.slice B2 o'.ps.length e2') ∧ W.cell? ⟨q, 5, none⟩ = some (.int .i64 o'.n) ∧ W.cell? ⟨q, 6, none⟩ = some (.slice B3 o'.ks.length e3')) := fun W hW => HCE.out W (hbr.trans (hW.mono hbr.size))
      have HB5 : Hid (Below w.heap.size w w5') := HB4.out.trans (hbr.mono HB4.out.size)
      have HPS5 := Lib.hid (HPS.out.below hbr)
      have HFT5 : Hid (FreeT (fun g => wa.heap.size ≤ g) w5' B2 o'.ps.length) := FreeT.kept HPS.out HFT.out hbr.size fun g hg s => ⟨hbr.block g hg, s⟩
      obtain ⟨bs, hbs⟩ : ∃ y, y = o'.ps.flatten.length := ⟨_, rfl⟩
      rw [← hbs] at hsz ⊢
      obtain ⟨z0, z1, z2, z3, z4, z5, z6⟩ := HCE5.out w5' (Below.refl _ _)
      clear hown hbr hbs hsz HCE
      go_wp2_with fail
      refine region_class (fun W => Below w5'.heap.size w5' W) (by kernel_rfl) (by kernel_rfl) (Below.refl _ _).drew ?_
      repeat (first
        | go_big_quiet_skip
        | (go_big_quiet_want
           first
            | (go_big_quiet_op; go_big_quiet_on)
            | (refine quiet_call 19 _ _ rfl (args := #[.pointer none, .string o'.nm, .slice B2 o'.ps.length e2']) (fun W => by go_simp; done) (fun W hW => (write_nil W o'.nm B2 o'.ps.length e2').mono fun e w' h => ⟨h.1, h.2 ▸ hW⟩) ?_; (try simp only [Act.put, List.setIfInBounds_toArray, List.set_cons_zero, List.set_cons_succ]); go_big_quiet_on)
            | (refine quiet_call 38 _ _ rfl (args := #[.pointer none, .string o'.nm, .slice A bs c]) (fun W => by go_simp; done) (fun W hW => (rwrite_nil W o'.nm A bs c).mono fun e w' h => ⟨h.1, h.2 ▸ hW⟩) ?_; (try simp only [Act.put, List.setIfInBounds_toArray, List.set_cons_zero, List.set_cons_succ]); go_big_quiet_on)
            | (refine quiet_run (v := ?_) ?_ ?_
               rotate_left
               · (intro W hW; have z := HCE5.out W hW; go_simp; first | done | with_reducible rfl)
               (try simp only [Act.put, List.setIfInBounds_toArray, List.set_cons_zero, List.set_cons_succ]); go_big_quiet_on)))
      refine wpQuiet_nil ?_
      intro w5 hw5
      have HB6 : Hid (Below w.heap.size w w5) := HB5.out.trans (hw5.mono HB5.out.size)
      obtain ⟨f, hflp⟩ := flp_of (HPS5.out.below hw5) (FreeT.kept HPS5.out HFT5.out hw5.size fun g hg s => ⟨hw5.block g hg, s⟩) HFEW.out.pss
      have HFL := Lib.hid hflp
      obtain ⟨x0, x1, x2, x3, x4, x5, x6⟩ := HCE5.out w5 hw5
      clear hw5 hflp
      go_wp2_with fail
      go_loopw [12, 13, 118] (fun _ _ i wr => ∃ (j : Nat), j ≤ o'.ps.length ∧ i = .int .i64 j ∧ Below w.heap.size w wr ∧ Flp (fun g => wa.heap.size ≤ g) B2 o'.ps.length f wr) (fun _ _ i _ => o'.ps.length - (intOf i).toNat)
      case atStart => exact ⟨0, Nat.zero_le _, rfl, HB6.out, HFL.out⟩
      case round =>
        obtain ⟨j, hj, rfl, hb7, hfl7⟩ := hrel
        have HB7 := Lib.hid hb7
        by_cases hlt : j < o'.ps.length
        · have i1 : (j : Int) < (o'.ps.length : Int) := by omega
          have hj4 : j ≤ 4 := by have := HFEW.out.ps; omega
          obtain ⟨ad, rfl, m0, m1, _⟩ := hfl7 j hlt
          have HFL7 := Lib.hid hfl7
          obtain ⟨X, hX⟩ : ∃ y, y = (f j).1 := ⟨_, rfl⟩
          obtain ⟨m, hm⟩ : ∃ y, y = (f j).2.1 := ⟨_, rfl⟩
          obtain ⟨cX, hcX⟩ : ∃ y, y = (f j).2.2 := ⟨_, rfl⟩
          rw [← hX, ← hm, ← hcX] at m0
          rw [← hm] at m1
          have HXX := Lib.hid hX
          have HMM := Lib.hid hm
          clear hb7 hfl7 hX hm hcX
          go_wp2_with fail
          go_loopw [13, 124] (fun _ i wx => ∃ (i9 : Nat), i9 ≤ m ∧ i = .int .i64 i9 ∧ Below w.heap.size w wx ∧ Flp (fun g => wa.heap.size ≤ g) (some ad) o'.ps.length f wx) (fun _ i _ => m - (intOf i).toNat)
          case atStart => exact ⟨0, Nat.zero_le _, rfl, HB7.out, HFL7.out⟩
          case round =>
            obtain ⟨i9, hi9, rfl, hbx, hfx⟩ := hrel
            by_cases hl9 : i9 < m
            · have i2 : (i9 : Int) < (m : Int) := by omega
              obtain ⟨ad', e', _, _, hcells⟩ := hfx j hlt
              obtain ⟨g, y, hg1, hg2, hg3, hg4⟩ := hcells i9 (by rw [← HMM.out]; exact hl9)
              rw [← HXX.out] at hg1
              subst hg1
              have HNX : Hid (∀ y', Below w.heap.size w (wr.setCell ⟨g, i9, none⟩ (.int .u8 y')) ∧ Flp (fun g => wa.heap.size ≤ g) (some ad) o'.ps.length f (wr.setCell ⟨g, i9, none⟩ (.int .u8 y'))) := fun y' =>
                ⟨below_only hbx ((Only.refl g wr).set _ _) (by have := HWA.out; have := HQ.out; omega), hfx.set hg3⟩
              clear hbx hfx hcells
              go_wp2_with fail
              go_roundw
              case rel => exact ⟨i9 + 1, by omega, by go_num, (HNX.out _).1, (HNX.out _).2⟩
              case measure => simp [intOf]; omega
            · have i2 : ¬ (i9 : Int) < (m : Int) := by omega
              have HBX := Lib.hid hbx
              have HFX := Lib.hid hfx
              clear hbx hfx
              go_wp2_with fail
              go_roundw
              case rel => exact ⟨j + 1, by omega, by go_num, HBX.out, HFX.out⟩
              case measure => simp [intOf]; omega
        · have i1 : ¬ (j : Int) < (o'.ps.length : Int) := by omega
          clear hb7 hfl7
          go_wp2_with fail
          go_ret
          exact ⟨rfl, HB7.out⟩

theorem don_any (hat : OpAt S w o A1 c1 A2 c2 A3 c3) (hok : OpOk o) :
    Calls Try.prog 13 #[.pointer none, .pointer none, .agg (opV o A1 c1 A2 c2 A3 c3).toArray] w fun e w' => e = .returned (.bool true) ∧ Below w.heap.size w w' := by
  have hd := hok.d
  rcases (show o.d % 11 < 4 ∨ o.d % 11 = 4 ∨ o.d % 11 = 5 ∨ o.d % 11 = 6 ∨ o.d % 11 = 7 ∨ o.d % 11 = 8 ∨ o.d % 11 = 9 ∨ o.d % 11 = 10 by omega) with hk | hk | hk | hk | hk | hk | hk | hk
  · exact don_write w S o A1 c1 A2 c2 A3 c3 hat hok hk
  · exact don_firm4 w S o A1 c1 A2 c2 A3 c3 hat hok hk
  · exact don_firm5 w S o A1 c1 A2 c2 A3 c3 hat hok hk
  · exact don_swap w S o A1 c1 A2 c2 A3 c3 hat hok hk
  · exact don_trim w S o A1 c1 A2 c2 A3 c3 hat hok hk
  · exact don_drop w S o A1 c1 A2 c2 A3 c3 hat hok hk
  · exact don_arm w S o A1 c1 A2 c2 A3 c3 hat hok hk
  · exact don_crash w S o A1 c1 A2 c2 A3 c3 hat hok hk
end

end Go.Proofs.Ytchedflfinkppaa

/-
  Files made firm together, and dropped together: what is left, without memory.
-/
namespace Go.Proofs.Ytchedflfinkppaa
open Go.RowKit Go.Maps Go.Sort Go.Shelf
set_option linter.unusedSimpArgs false
set_option linter.unusedVariables false

theorem firmA_stays {x : List UInt8} : ∀ (ns : List ByteArray) (A : List AFile), (∀ a ∈ A, a.1 = x → a.2.1.length ≤ a.2.2) → ∀ a ∈ firmA A ns, a.1 = x → a.2.1.length ≤ a.2.2
  | [], _, h => h
  | s :: ns, A, h => firmA_stays ns (firm1A A s.data.toList) fun a ha hx => by
    obtain ⟨b, hb, rfl⟩ := List.mem_map.1 ha
    by_cases e : b.1 = s.data.toList
    · rw [if_pos e]
      exact Nat.le_refl _
    · rw [if_neg e] at hx ⊢
      exact h b hb hx
theorem firmA_firm : ∀ (ns : List ByteArray) (A : List AFile) (s : ByteArray), s ∈ ns → ∀ a ∈ firmA A ns, a.1 = s.data.toList → a.2.1.length ≤ a.2.2
  | t :: ns, A, s, h => fun a ha hx => by
    by_cases e : s = t
    · subst e
      refine firmA_stays ns (firm1A A s.data.toList) (fun b hb hx' => ?_) a ha hx
      obtain ⟨c, hc, rfl⟩ := List.mem_map.1 hb
      by_cases e : c.1 = s.data.toList
      · rw [if_pos e]
        exact Nat.le_refl _
      · rw [if_neg e] at hx'
        exact absurd hx' e
    · have hm : s ∈ ns := by
        rcases List.mem_cons.1 h with h | h
        · exact absurd h e
        · exact h
      exact firmA_firm ns (firm1A A t.data.toList) s hm a ha hx
theorem loose_none (A : List AFile) (ns : List ByteArray) (s : ByteArray) (h : s ∈ ns) : looseA (firmA A ns) s.data.toList = 0 := by
  unfold looseA
  cases hf : findA (firmA A ns) s.data.toList with
  | none => rfl
  | some a =>
    obtain ⟨h1, h2⟩ := findA_some hf
    have := firmA_firm ns A s h a h1 h2
    show a.2.1.length - a.2.2 = 0
    omega
theorem firm1A_names (A : List AFile) (x : List UInt8) : (firm1A A x).map Prod.fst = A.map Prod.fst := by
  unfold firm1A
  rw [List.map_map]
  refine List.map_congr_left fun a _ => ?_
  simp only [Function.comp]
  split <;> rfl
theorem firmA_names : ∀ (ns : List ByteArray) (A : List AFile), (firmA A ns).map Prod.fst = A.map Prod.fst
  | [], _ => rfl
  | s :: ns, A => (firmA_names ns (firm1A A s.data.toList)).trans (firm1A_names A _)
theorem find_names {A B : List AFile} (h : A.map Prod.fst = B.map Prod.fst) (x : List UInt8) : (findA A x).isSome = (findA B x).isSome := by
  have e : ∀ C : List AFile, (findA C x).isSome = (C.map Prod.fst).any (fun y => decide (y = x)) := fun C => by
    unfold findA
    rw [List.any_map]
    induction C with
    | nil => rfl
    | cons c C ih =>
      rw [List.find?_cons, List.any_cons]
      by_cases e : c.1 = x
      · simp [e]
      · simp only [e, decide_false, Function.comp, Bool.false_or]
        exact ih
  rw [e A, e B, h]
theorem all_names {A B : List AFile} (h : A.map Prod.fst = B.map Prod.fst) (ns : List ByteArray) : allA A ns = allA B ns := by
  unfold allA
  congr 1
  funext s
  exact find_names h _
/-- no two files have one name -/
def Once (A : List AFile) : Prop := A.Pairwise (fun a b => a.1 ≠ b.1)
theorem once_names {A B : List AFile} (h : A.map Prod.fst = B.map Prod.fst) (hA : Once A) : Once B := by
  unfold Once at *
  rw [← List.pairwise_map (f := Prod.fst) (R := fun x y => x ≠ y)] at hA ⊢
  rw [← h]
  exact hA
theorem dropA_none {A : List AFile} {x : List UInt8} (h : ∀ a ∈ A, a.1 ≠ x) : dropA A x = A := by
  unfold dropA
  rw [List.filter_eq_self]
  intro a ha
  exact decide_eq_true (h a ha)
theorem dropA_one : ∀ {A : List AFile} {x : List UInt8}, Once A → (∃ a ∈ A, a.1 = x) → (dropA A x).length + 1 = A.length
  | [], _, _, ⟨a, ha, _⟩ => absurd ha List.not_mem_nil
  | b :: A, x, ho, ⟨a, ha, hx⟩ => by
    unfold Once at ho
    rw [List.pairwise_cons] at ho
    by_cases e : b.1 = x
    · have hn : ∀ c ∈ A, c.1 ≠ x := fun c hc e' => ho.1 c hc (by rw [e, e'])
      have h1 : dropA (b :: A) x = dropA A x := by unfold dropA; rw [List.filter_cons, if_neg (by simp [e])]
      rw [h1, dropA_none hn]
      rfl
    · have h1 : dropA (b :: A) x = b :: dropA A x := by unfold dropA; rw [List.filter_cons, if_pos (decide_eq_true e)]
      rw [h1, List.length_cons, List.length_cons]
      rcases List.mem_cons.1 ha with rfl | ha
      · exact absurd hx e
      · have := dropA_one (A := A) ho.2 ⟨a, ha, hx⟩
        omega
theorem mem_dropsA : ∀ (ns : List ByteArray) {A : List AFile} {a : AFile}, a ∈ dropsA A ns ↔ a ∈ A ∧ ∀ s ∈ ns, a.1 ≠ s.data.toList
  | [], A, a => ⟨fun h => ⟨h, fun s hs => absurd hs List.not_mem_nil⟩, fun h => h.1⟩
  | t :: ns, A, a => by
    have := mem_dropsA ns (A := dropA A t.data.toList) (a := a)
    refine this.trans ⟨fun h => ?_, fun h => ?_⟩
    · obtain ⟨h1, h2⟩ := h
      unfold dropA at h1
      obtain ⟨h3, h4⟩ := List.mem_filter.1 h1
      refine ⟨h3, fun s hs => ?_⟩
      rcases List.mem_cons.1 hs with rfl | hs
      · exact of_decide_eq_true h4
      · exact h2 s hs
    · refine ⟨?_, fun s hs => h.2 s (List.mem_cons_of_mem _ hs)⟩
      unfold dropA
      exact List.mem_filter.2 ⟨h.1, decide_eq_true (h.2 t List.mem_cons_self)⟩
theorem dropsA_snoc (A : List AFile) (ns : List ByteArray) (s : ByteArray) : dropsA A (ns ++ [s]) = dropA (dropsA A ns) s.data.toList := by unfold dropsA; rw [List.foldl_append]; rfl
theorem dropsA_once : ∀ (ns : List ByteArray) {A : List AFile}, Once A → Once (dropsA A ns)
  | [], _, h => h
  | s :: ns, A, h => dropsA_once ns (A := dropA A s.data.toList) (List.Pairwise.filter _ h)

/-- the names that were met so far, as a set; what is left without them -/
structure Gone (A : List AFile) (ns : List ByteArray) (D : DataW Unit) : Prop where
  tidy : Tidy D
  has : ∀ y, has D (.string y) = true ↔ ∃ s ∈ ns, s.data.toList = y
  len : (∀ s ∈ ns, ∃ a ∈ A, a.1 = s.data.toList) → (dropsA A ns).length + Maps.size D = A.length
theorem Gone.start (A : List AFile) : Gone A [] (.map []) := ⟨tidy_empty, fun y => ⟨fun h => by simp [Maps.has] at h, fun ⟨s, hs, _⟩ => absurd hs List.not_mem_nil⟩, fun _ => rfl⟩
theorem Gone.step {A : List AFile} {ns : List ByteArray} {D : DataW Unit} (h : Gone A ns D) (ho : Once A) (s : ByteArray) : Gone A (ns ++ [s]) (D.put (.string s.data.toList) (.lit (.bool true))) := by
  refine ⟨h.tidy.put (by trivial) _, fun y => ?_, fun hall => ?_⟩
  · by_cases hy : y = s.data.toList
    · subst hy
      exact ⟨fun _ => ⟨s, by simp, rfl⟩, fun _ => has_put_same h.tidy.isMap (by trivial) _⟩
    · rw [has_put_other (by simpa using hy), h.has]
      refine ⟨fun ⟨t, ht, e⟩ => ⟨t, List.mem_append_left _ ht, e⟩, fun ⟨t, ht, e⟩ => ?_⟩
      rcases List.mem_append.1 ht with ht | ht
      · exact ⟨t, ht, e⟩
      · obtain rfl := List.mem_singleton.1 ht
        exact absurd e.symm hy
  · have h1 := h.len fun t ht => hall t (List.mem_append_left _ ht)
    obtain ⟨a, ha, hx⟩ := hall s (by simp)
    rw [dropsA_snoc, size_put h.tidy]
    by_cases hh : Maps.has D (.string s.data.toList) = true
    · rw [if_pos hh]
      obtain ⟨t, ht, e⟩ := (h.has _).1 hh
      rw [dropA_none fun c hc => by
        have := ((mem_dropsA ns).1 hc).2 t ht
        rw [e] at this
        exact this]
      exact h1
    · rw [if_neg hh]
      have hm : a ∈ dropsA A ns := (mem_dropsA ns).2 ⟨ha, fun t ht e => hh ((h.has _).2 ⟨t, ht, by rw [← e, hx]⟩)⟩
      have := dropA_one (dropsA_once ns ho) ⟨a, hm, hx⟩
      omega
theorem all_mem {A : List AFile} {ns : List ByteArray} (h : allA A ns = true) : ∀ s ∈ ns, ∃ a ∈ A, a.1 = s.data.toList := fun s hs => by
  have := List.all_eq_true.1 h s hs
  cases hf : findA A s.data.toList with
  | none => rw [hf] at this; cases this
  | some a => exact ⟨a, findA_some hf⟩
theorem calm_down {p : Pw} (h : Calm p) : ¬ p.spent.down = true := by rw [h.spent.2]; decide

section
variable {w0 w w' : World} {b mb x : Nat} {room : Nat}
theorem Duo.start {v : Value} (h : Lv w0 w b mb Pw.fresh room []) (r : RD w' ⟨w0.heap.size, fun g => ¬ Of b mb [] g⟩ x Pw.fresh room v []) (hb : Below w.heap.size w w') : Duo w0 w' (fun _ => False) b mb x Pw.fresh Pw.fresh room [] v [] :=
  ⟨h.below hb, ⟨_, r, fun g hg => ⟨hg, fun hf => hf⟩⟩, fun g hf => hf.elim⟩
theorem PwEq.refl (p : Pw) : PwEq p p := ⟨rfl, rfl, fun _ => rfl⟩
end

end Go.Proofs.Ytchedflfinkppaa

/-
  The law DiskPlays, walked.
-/
namespace Go.Proofs.Ytchedflfinkppaa
open Go.RowKit Go.Maps Go.WideMaps Go.Sort Go.Shelf
set_option linter.unusedSimpArgs false
set_option linter.unusedVariables false

set_option maxHeartbeats 400000 in
theorem new_not (room : Int) (w : World) (h : room < 0 ∨ 1048576 < room) : Calls Try.prog 11 #[.int .i64 room] w fun e w' => e = .returned (.tuple #[.pointer none, .int .i64 1]) ∧ w = w' := by
  by_cases h1 : room < 0
  · go_enter Try.func11, Try.ntmps11
    go_wp2_with fail
    go_ret2
    exact ⟨rfl, rfl⟩
  · have h2 : (1048576 : Int) < room := by omega
    clear h
    go_enter Try.func11, Try.ntmps11
    go_wp2_with fail
    go_ret2
    exact ⟨rfl, rfl⟩

set_option maxRecDepth 100000 in
set_option maxHeartbeats 1000000 in
theorem law_plays_not (room : Int) (A : Option Addr) (c : Nat) (os : List Opn) (w : World) (hr : room < 0 ∨ 1048576 < room) (hO : OpsIn w A os) (hl : os.length ≤ 9223372036854775807) (hok : ∀ o ∈ os, OpOk o) :
    Calls Try.prog 3 #[.int .i64 room, .slice A os.length c] w fun e w' => e = .returned (.bool true) ∧ Below w.heap.size w w' := by
  have HO := Lib.hid hO
  have HOK := Lib.hid hok
  have HNW := Lib.hid (fun W => new_not room W hr)
  have HRN := Lib.hid (fun W => rnew_bad room W hr)
  clear hO hok hr
  go_enter Try.func3, Try.ntmps3
  go_wp2_with fail
  refine (awake_any w).mono ?_
  rintro e w1 ⟨rfl, hb1⟩
  have HB1 := Lib.hid hb1
  clear hb1
  go_wp2_with fail
  refine (HNW.out _).mono ?_
  rintro e w2 ⟨rfl, rfl⟩
  go_wp2_with fail
  refine (HRN.out _).mono ?_
  rintro e w2 ⟨rfl, rfl⟩
  go_wp2_with fail
  go_loopw [8, 9, 41] (fun _ _ i wr => ∃ (k : Nat), k ≤ os.length ∧ i = .int .i64 k ∧ Below w.heap.size w wr) (fun _ _ i _ => os.length - (intOf i).toNat)
  case atStart => exact ⟨0, Nat.zero_le _, rfl, HB1.out⟩
  case round =>
    obtain ⟨k, hk, rfl, hbr⟩ := hrel
    by_cases hlt : k < os.length
    · have i1 : (k : Int) < (os.length : Int) := by omega
      obtain ⟨ad, rfl, hadl, A1, c1, A2, c2, A3, c3, hat, k0, k1, k2, k3, k4, k5, k6⟩ := (HO.out.below hbr) k hlt
      have hoko := HOK.out _ (List.getElem_mem hlt)
      generalize os[k] = o at *
      have HBN : Hid (Below wr.heap.size wr (wr.alloc (.cells #[.int .u8 o.d, .string o.nm, .string o.to, .slice A1 o.ns.length c1, .slice A2 o.ps.length c2, .int .i64 o.n, .slice A3 o.ks.length c3] 34))) := (Below.refl _ _).alloc (Nat.le_refl _) _
      have HDO : Hid (Calls Try.prog 13 #[.pointer none, .pointer none, .agg #[.int .u8 o.d, .string o.nm, .string o.to, .slice A1 o.ns.length c1, .slice A2 o.ps.length c2, .int .i64 o.n, .slice A3 o.ks.length c3]] (wr.alloc (.cells #[.int .u8 o.d, .string o.nm, .string o.to, .slice A1 o.ns.length c1, .slice A2 o.ps.length c2, .int .i64 o.n, .slice A3 o.ks.length c3] 34)) fun e w' => e = .returned (.bool true) ∧ Below w.heap.size w w') := by
        refine (don_any _ _ o A1 c1 A2 c2 A3 c3 (hat.below HBN.out) hoko).mono ?_
        rintro e w' ⟨e1, hb'⟩
        exact ⟨e1, hbr.trans ((HBN.out.trans (hb'.mono HBN.out.size)).mono hbr.size)⟩
      have HBE : Hid (Below w.heap.size w (wr.alloc (.cells #[.int .u8 o.d, .string o.nm, .string o.to, .slice A1 o.ns.length c1, .slice A2 o.ps.length c2, .int .i64 o.n, .slice A3 o.ks.length c3] 34))) := hbr.trans (HBN.out.mono hbr.size)
      clear hat hoko hbr
      by_cases h50 : (50 : Int) ≤ (k : Int)
      · go_wp2_with fail
        go_ret
        exact ⟨rfl, HBE.out⟩
      · go_wp2_with fail
        refine (HDO.out).mono ?_
        rintro e w5 ⟨rfl, hb5⟩
        have HB5 := Lib.hid hb5
        have HAL := Lib.hid (alike_nil w5)
        clear hb5
        go_wp2_with fail
        refine (HAL.out).mono ?_
        rintro e w6 ⟨rfl, rfl⟩
        go_wp2_with fail
        go_roundw
        case rel => exact ⟨k + 1, by omega, by go_num, HB5.out⟩
        case measure => simp [intOf]; omega
    · have i1 : ¬ (k : Int) < (os.length : Int) := by omega
      have HF := Lib.hid hbr
      clear hbr
      go_wp2_with fail
      go_ret
      exact ⟨rfl, HF.out⟩

set_option maxRecDepth 100000 in
set_option maxHeartbeats 1000000 in
theorem law_plays_yes (room : Nat) (A : Option Addr) (c : Nat) (os : List Opn) (w : World) (hr : room ≤ 1048576) (hO : OpsIn w A os) (hl : os.length ≤ 9223372036854775807) (hok : ∀ o ∈ os, OpOk o) :
    Calls Try.prog 3 #[.int .i64 (room : Int), .slice A os.length c] w fun e w' => e = .returned (.bool true) ∧ Below w.heap.size w w' := by
  have HO := Lib.hid hO
  have HOK := Lib.hid hok
  clear hO hok
  go_enter Try.func3, Try.ntmps3
  go_wp2_with fail
  refine (awake_any w).mono ?_
  rintro e w1 ⟨rfl, hb1⟩
  have HB1 := Lib.hid hb1
  clear hb1
  go_wp2_with fail
  refine (new_lv w w1 room HB1.out hr).mono ?_
  rintro e w2 ⟨rfl, h2, _⟩
  obtain ⟨b, hb⟩ : ∃ b, b = w1.heap.size + 1 := ⟨_, rfl⟩
  obtain ⟨mb, hmb⟩ : ∃ mb, mb = w1.heap.size := ⟨_, rfl⟩
  have H2 : Hid (Lv w w2 b mb Pw.fresh room []) := by rw [hb, hmb]; exact h2
  rw [← hb]
  clear h2 hb hmb
  have HRN := Lib.hid (rnew_any room w2 ⟨w.heap.size, fun g => ¬ Of b mb [] g⟩ H2.out.bel.size (fun g hg ho => by have := H2.out.lt ho; omega) hr)
  go_wp2_with fail
  refine (HRN.out).mono ?_
  rintro e w3 ⟨rfl, r3, hb3⟩
  obtain ⟨x, hx⟩ : ∃ x, x = w2.heap.size := ⟨_, rfl⟩
  rw [← hx] at r3 ⊢
  have HD3 := Lib.hid (Duo.start H2.out r3 hb3)
  clear r3 hb3 hx H2 HRN
  go_wp2_with fail
  go_loopw [8, 9, 41] (fun _ _ i wr => ∃ (k : Nat), k ≤ os.length ∧ i = .int .i64 k ∧ ∃ E v L p pr, Duo w wr (fun _ => False) b mb x p pr room E v L ∧ Tied (abs E) L ∧ PwEq p pr) (fun _ _ i _ => os.length - (intOf i).toNat)
  case atStart => exact ⟨0, Nat.zero_le _, rfl, [], _, [], Pw.fresh, Pw.fresh, HD3.out, Tied.empty, PwEq.refl _⟩
  case round =>
    obtain ⟨k, hk, rfl, E, v, L, p, pr, hD, hT, hP⟩ := hrel
    have HD := Lib.hid hD
    have HT := Lib.hid hT
    have HP := Lib.hid hP
    by_cases hlt : k < os.length
    · have i1 : (k : Int) < (os.length : Int) := by omega
      obtain ⟨ad, rfl, hadl, A1, c1, A2, c2, A3, c3, hat, k0, k1, k2, k3, k4, k5, k6⟩ := (HO.out.below hD.bel) k hlt
      have hoko := HOK.out _ (List.getElem_mem hlt)
      generalize os[k] = o at *
      have HBN : Hid (Below wr.heap.size wr (wr.alloc (.cells #[.int .u8 o.d, .string o.nm, .string o.to, .slice A1 o.ns.length c1, .slice A2 o.ps.length c2, .int .i64 o.n, .slice A3 o.ks.length c3] 34))) := (Below.refl _ _).alloc (Nat.le_refl _) _
      have HDO : Hid (Calls Try.prog 13 #[.pointer (some ⟨b, 0, none⟩), .pointer (some ⟨x, 0, none⟩), .agg #[.int .u8 o.d, .string o.nm, .string o.to, .slice A1 o.ns.length c1, .slice A2 o.ps.length c2, .int .i64 o.n, .slice A3 o.ks.length c3]] (wr.alloc (.cells #[.int .u8 o.d, .string o.nm, .string o.to, .slice A1 o.ns.length c1, .slice A2 o.ps.length c2, .int .i64 o.n, .slice A3 o.ks.length c3] 34)) fun e w' => DoGave w b mb x room p o e w') :=
        do_any w _ b mb x p pr room E v L _ o A1 c1 A2 c2 A3 c3 (HD.out.below HBN.out) HT.out HP.out (hat.below HBN.out) hoko
      have HBE : Hid (Below w.heap.size w (wr.alloc (.cells #[.int .u8 o.d, .string o.nm, .string o.to, .slice A1 o.ns.length c1, .slice A2 o.ps.length c2, .int .i64 o.n, .slice A3 o.ks.length c3] 34))) := (HD.out.below HBN.out).bel
      clear hat hoko hD hT hP
      by_cases h50 : (50 : Int) ≤ (k : Int)
      · go_wp2_with fail
        go_ret
        exact ⟨rfl, HBE.out⟩
      · go_wp2_with fail
        refine (HDO.out).mono ?_
        rintro e w5 ⟨E5, v5, L5, p5, pr5, rfl, g1, g2, g3, _⟩
        have HAL := Lib.hid (alike_any w w5 b mb x p5 pr5 room E5 v5 L5 g1 g2 g3)
        have HG : Hid (∀ W, Below w5.heap.size w5 W → ∃ E v L p pr, Duo w W (fun _ => False) b mb x p pr room E v L ∧ Tied (abs E) L ∧ PwEq p pr) := fun W hW => ⟨E5, v5, L5, p5, pr5, g1.below hW, g2, g3⟩
        clear g1 g2 g3
        go_wp2_with fail
        refine (HAL.out).mono ?_
        rintro e w6 ⟨rfl, hb6⟩
        have HG6 := Lib.hid (HG.out w6 hb6)
        clear hb6
        go_wp2_with fail
        go_roundw
        case rel => exact ⟨k + 1, by omega, by go_num, HG6.out⟩
        case measure => simp [intOf]; omega
    · have i1 : ¬ (k : Int) < (os.length : Int) := by omega
      have HF := Lib.hid hD.bel
      clear hD hT hP
      go_wp2_with fail
      go_ret
      exact ⟨rfl, HF.out⟩
theorem law_plays (room : Int) (A : Option Addr) (c : Nat) (os : List Opn) (w : World) (hO : OpsIn w A os) (hl : os.length ≤ 9223372036854775807) (hok : ∀ o ∈ os, OpOk o) :
    Calls Try.prog 3 #[.int .i64 room, .slice A os.length c] w fun e w' => e = .returned (.bool true) ∧ Below w.heap.size w w' := by
  by_cases h : room < 0 ∨ 1048576 < room
  · exact law_plays_not room A c os w h hO hl hok
  · obtain ⟨n, rfl⟩ : ∃ n : Nat, room = (n : Int) := ⟨room.toNat, by omega⟩
    exact law_plays_yes n A c os w (by omega) hO hl hok

end Go.Proofs.Ytchedflfinkppaa
