/-
  The contract of the law's same: both disks tell the same.
-/
import Derived.Test.YtchedflfinkppaaDo2
import Derived.Test.YtchedflfinkppaaQuiet
import Derived.Test.YtchedflfinkppaaOpen
namespace Go.Proofs.Ytchedflfinkppaa
open Go.RowKit Go.Maps Go.Sort Go.Shelf
set_option linter.unusedSimpArgs false
set_option linter.unusedVariables false

set_option maxRecDepth 100000 in
set_option maxHeartbeats 400000 in
theorem same_eq (S T : Nat → Prop) (A B : Option Addr) (c d : Nat) (l : List Int) (n : Nat) (hn : n = l.length) (w : World) (h1 : Row S w A (u8s l)) (h2 : Row T w B (u8s l)) :
    Calls Try.prog 22 #[.slice A n c, .slice B n d] w fun e w' => e = .returned (.bool true) ∧ w = w' := by
  subst hn
  have r1 := run_str c h1
  have r2 := run_str d h2
  have HE : Hid (((strOf l).toList == (strOf l).toList) = true) := by show _ = _; simp
  go_enter Try.func22, Try.ntmps22
  go_wp2
  go_ret
  exact ⟨by rw [← HE.out]; rfl, rfl⟩

/-- what a Read answers -/
def readOf (p : Pw) (A : List AFile) (y : List UInt8) : List Int × Int := if p.down = true then ([], 9) else match findA A y with | none => ([], 6) | some a => (a.2.1, 0)

section
variable (w0 w : World) (b mb x : Nat) (p pr : Pw) (room : Nat) (E : List Ent) (v : Value) (L : List RF)
theorem readD (s : ByteArray) (h : Lv w0 w b mb p room E) (hs : s.size ≤ maxLen) : Calls Try.prog 17 #[.pointer (some ⟨b, 0, none⟩), .string s] w fun e w' => GivesR w (readOf p (abs E) s.data.toList).1 (readOf p (abs E) s.data.toList).2 e w' := by
  unfold readOf
  by_cases hd : p.down = true
  · rw [if_pos hd]
    obtain ⟨D, hD⟩ := h.dsk
    exact read_down w0.heap.size b mb 16 D p room E s w hD hd
  · rw [if_neg hd]
    have hd' : p.down = false := by simpa using hd
    cases hf : findA (abs E) s.data.toList with
    | none => exact read_lv_none w0 w b mb p room E s h hd' hs (findA_none hf)
    | some a =>
      obtain ⟨h1, h2⟩ := findA_some hf
      exact read_lv w0 w b mb p room E s a h hd' hs h1 h2
theorem readR {B : BK} {A : List AFile} (s : ByteArray) (h : RD w B x pr room v L) (hl : L.length ≤ 1000) (hz : sumR L ≤ 1048576) (ht : Tied A L) (hp : PwEq p pr) : Calls Try.prog 40 #[.pointer (some ⟨x, 0, none⟩), .string s] w fun e w' => GivesR w (readOf p A s.data.toList).1 (readOf p A s.data.toList).2 e w' := by
  unfold readOf
  rw [hp.1]
  by_cases hd : pr.down = true
  · rw [if_pos hd]
    exact rread_down w B x room pr v L s h hd
  · rw [if_neg hd]
    have hd' : pr.down = false := by simpa using hd
    rcases ht.find s with ⟨k, hk, hs, hi, hf, ha⟩ | ⟨hn, hi, hf, ha⟩
    · rw [ha]
      exact rread_some w B x room pr v L s k hk h hl hd' hf (by have := size_at hk; omega)
    · rw [ha]
      exact rread_none w B x room pr v L s h hl hd' hf
theorem readOf_len (ht : Tied (abs E) L) (hz : sumR L ≤ 1048576) (y : List UInt8) : (readOf p (abs E) y).1.length ≤ 1048576 := by
  unfold readOf
  split
  · exact Nat.zero_le _
  · cases hf : findA (abs E) y with
    | none => exact Nat.zero_le _
    | some a =>
      obtain ⟨h1, _⟩ := findA_some hf
      obtain ⟨f, hfm, rfl⟩ := List.mem_map.1 ((ht.mem a).1 h1)
      obtain ⟨k, hk, rfl⟩ := List.mem_iff_getElem.1 hfm
      have := size_at hk
      show (toA L[k]).2.1.length ≤ _
      simp only [toA, List.length_append]
      omega

set_option maxRecDepth 100000 in
set_option maxHeartbeats 4000000 in
theorem alike_any (h : Duo w0 w (fun _ => False) b mb x p pr room E v L) (ht : Tied (abs E) L) (hp : PwEq p pr) :
    Calls Try.prog 14 #[.pointer (some ⟨b, 0, none⟩), .pointer (some ⟨x, 0, none⟩)] w fun e w' => e = .returned (.bool true) ∧ Below w.heap.size w w' := by
  have hfit := h.lv.fits
  have hL16 : L.length ≤ 16 := by rw [← ht.len]; exact hfit.2.2
  have hLz : sumR L ≤ 1048576 := by rw [← ht.sum]; omega
  have HDU := Lib.hid h
  have HT := Lib.hid ht
  have HP := Lib.hid hp
  have HLZ := Lib.hid hLz
  have hnames := ht.names
  have HN0 := Lib.hid (names_lv w0 w b mb p room E h.lv)
  have hnl : (namesA (abs E)).length = L.length := by rw [hnames, List.length_map]
  obtain ⟨nms, hnms⟩ : ∃ y, y = namesA (abs E) := ⟨_, rfl⟩
  have hnl2 : nms.length = L.length := by rw [hnms, hnl]
  have hat : ∀ k (hk : k < L.length), nms[k]? = some L[k].name := fun k hk => by
    rw [hnms, hnames, List.getElem?_map, List.getElem?_eq_getElem hk]
    rfl
  rw [← hnms] at HN0
  have HAT := Lib.hid hat
  have HNL := Lib.hid hnl2
  clear h ht hp hfit hLz hnames hnl hnms hat
  go_enter Try.func14, Try.ntmps14
  go_wp2_with fail
  refine (HN0.out).mono ?_
  rintro e w1 ⟨X, cX, rfl, hcX, hrX, hb1⟩
  rw [HNL.out]
  have HD1 := Lib.hid (HDU.out.below hb1)
  have HB1 := Lib.hid hb1
  have HRX := Lib.hid hrX
  obtain ⟨tot, htot⟩ : ∃ y, y = sumR L := ⟨_, rfl⟩
  have HTOT := Lib.hid htot
  have HUS : Hid (∀ W, Below w1.heap.size w1 W → Calls Try.prog 25 #[.pointer (some ⟨b, 0, none⟩)] W fun e w' => e = .returned (.int .i64 (tot : Int)) ∧ Below w1.heap.size w1 w') := fun W hW => by
    have h0 := used_lv w0 W b mb p room E (HD1.out.below hW).lv
    rw [HT.out.sum, ← HTOT.out] at h0
    refine h0.mono ?_
    rintro e w' ⟨e1, hb'⟩
    exact ⟨e1, hW.trans (hb'.mono hW.size)⟩
  have HUR : Hid (∀ W, Below w1.heap.size w1 W → Calls Try.prog 39 #[.pointer (some ⟨x, 0, none⟩)] W fun e w' => e = .returned (.int .i64 (tot : Int)) ∧ Below w1.heap.size w1 w') := fun W hW => by
    obtain ⟨Bk, r, _, _⟩ := (HD1.out.below hW).ref
    have h0 := rused_any W Bk x room pr v L r (by omega) HLZ.out
    rw [← HTOT.out] at h0
    refine h0.mono ?_
    rintro e w' ⟨e1, hb'⟩
    exact ⟨e1, hW.trans (hb'.mono hW.size)⟩
  obtain ⟨dn, hdn⟩ : ∃ y, y = p.down := ⟨_, rfl⟩
  have hdn2 : pr.down = dn := by rw [hdn]; exact HP.out.1.symm
  have HUP : Hid (∀ W, Below w1.heap.size w1 W → Calls Try.prog 29 #[.pointer (some ⟨b, 0, none⟩)] W fun e w' => e = .returned (.bool (!dn)) ∧ Below w1.heap.size w1 w') := fun W hW => by
    have h0 := up_lv w0 W b mb p room E (HD1.out.below hW).lv
    rw [← hdn] at h0
    refine h0.mono ?_
    rintro e w' ⟨e1, rfl⟩
    exact ⟨e1, hW⟩
  obtain ⟨Bk0, r0, _, _⟩ := HD1.out.ref
  obtain ⟨FA, fc, hvv, hfc, hFl⟩ := r0.files
  have HFL := Lib.hid hFl
  obtain ⟨ln, hln⟩ : ∃ y, y = L.length := ⟨_, rfl⟩
  have HLN := Lib.hid hln
  have HCE : Hid (∀ W, Below w1.heap.size w1 W → W.cell? ⟨x, 1, none⟩ = some (.slice FA ln fc) ∧ W.cell? ⟨x, 4, none⟩ = some (.bool dn)) := fun W hW => by
    have r := (r0.below hW).cells
    exact ⟨by rw [r.2.1, hvv, ← HLN.out], by rw [r.2.2.2.2, hdn2]⟩
  have hneq : ((!dn) == dn) = false := by cases dn <;> rfl
  have HDN := Lib.hid hdn
  rw [← hln] at hL16 ⊢
  clear hb1 hrX htot hdn hdn2 r0 hvv hfc hFl hcX hnl2
  obtain ⟨z0, z1⟩ := HCE.out w1 (Below.refl _ _)
  go_wp2_with fail
  refine region_class (fun W => Below w1.heap.size w1 W) (by kernel_rfl) (by kernel_rfl) (Below.refl _ _).drew ?_
  repeat (first
    | go_big_quiet_skip
    | (go_big_quiet_want
       first
        | (go_big_quiet_op; go_big_quiet_on)
        | (refine quiet_call 25 _ _ rfl (args := #[.pointer (some ⟨b, 0, none⟩)]) (fun W => by go_simp; done) (fun W hW => HUS.out W hW) ?_; (try simp only [Act.put, List.setIfInBounds_toArray, List.set_cons_zero, List.set_cons_succ]); go_big_quiet_on)
        | (refine quiet_call 39 _ _ rfl (args := #[.pointer (some ⟨x, 0, none⟩)]) (fun W => by go_simp; done) (fun W hW => HUR.out W hW) ?_; (try simp only [Act.put, List.setIfInBounds_toArray, List.set_cons_zero, List.set_cons_succ]); go_big_quiet_on)
        | (refine quiet_call 29 _ _ rfl (args := #[.pointer (some ⟨b, 0, none⟩)]) (fun W => by go_simp; done) (fun W hW => HUP.out W hW) ?_; (try simp only [Act.put, List.setIfInBounds_toArray, List.set_cons_zero, List.set_cons_succ]); go_big_quiet_on)
        | (refine quiet_run (v := ?_) ?_ ?_
           rotate_left
           · (intro W hW; have z := HCE.out W hW; go_simp; first | done | with_reducible rfl)
           (try simp only [Act.put, List.setIfInBounds_toArray, List.set_cons_zero, List.set_cons_succ]); go_big_quiet_on)))
  refine wpQuiet_nil ?_
  intro w2 hw2
  have HB2 := Lib.hid hw2
  clear hw2 z0 z1 HUS HUR HUP
  go_wp2_with fail
  go_loopw [6, 7, 8, 9, 10, 11, 59] (fun _ _ _ _ _ _ i wr => ∃ k : Nat, k ≤ ln ∧ i = .int .i64 k ∧ Below w1.heap.size w1 wr) (fun _ _ _ _ _ _ i _ => ln - (intOf i).toNat)
  case atStart => exact ⟨0, Nat.zero_le _, rfl, HB2.out⟩
  case round =>
    obtain ⟨k, hk, rfl, hbr⟩ := hrel
    by_cases hlt : k < ln
    · have i1 : (k : Int) < (ln : Int) := by omega
      have hkL : k < L.length := by rw [← HLN.out]; exact hlt
      have hkN : k < nms.length := by rw [HNL.out]; exact hkL
      obtain ⟨ad, rfl, _, _, hcs⟩ := (HRX.out.below hbr) k (by rw [strs_len]; exact hkN)
      rw [strs_at hkN] at hcs
      have hnm0 : nms[k] = L[k].name := by
        have := HAT.out k hkL
        rw [List.getElem?_eq_getElem hkN] at this
        injection this
      rw [hnm0] at hcs
      have hDr := HD1.out.below hbr
      have hsz : L[k].name.size ≤ maxLen := by
        have hm : toA L[k] ∈ abs E := (HT.out.mem _).2 (List.mem_map.2 ⟨L[k], List.getElem_mem hkL, rfl⟩)
        obtain ⟨e0, he0, hea⟩ := mem_abs hm
        have h8 := hDr.lv.names e0.name (List.mem_map.2 ⟨e0, he0, rfl⟩)
        have hn : e0.name = L[k].name.data.toList := congrArg Prod.fst hea
        rw [hn, Array.length_toList] at h8
        have : L[k].name.size ≤ 8 := h8
        unfold maxLen
        omega
      have hlo := HT.out.loose hkL
      obtain ⟨ad2, hFA, _, _, m0, _, G, cg, m2, _, _⟩ := (HFL.out.below hbr) k hkL
      subst hFA
      have HM0 : Hid (∀ W, Below wr.heap.size wr W → W.cell? (ad2.add (k * 3)) = some (.string L[k].name) ∧ W.cell? ⟨(ad2.add (k * 3)).block, (ad2.add (k * 3)).off + 2, none⟩ = some (.slice G L[k].loose.length cg)) := fun W hW => ⟨(hW.cell (lt_of_cell m0)).trans m0, (hW.cell (lt_of_cell m2)).trans m2⟩
      have HRD := Lib.hid (readD w0 wr b mb p room E L[k].name hDr.lv hsz)
      have HRR : Hid (∀ W, Below w1.heap.size w1 W → Calls Try.prog 40 #[.pointer (some ⟨x, 0, none⟩), .string L[k].name] W fun e w' => GivesR W (readOf p (abs E) L[k].name.data.toList).1 (readOf p (abs E) L[k].name.data.toList).2 e w') := fun W hW => by
        obtain ⟨Bk, r, _, _⟩ := (HD1.out.below hW).ref
        exact readR W x p pr room v L L[k].name r (by omega) HLZ.out HT.out HP.out
      have HLO : Hid (∀ W, Below w1.heap.size w1 W → Calls Try.prog 23 #[.pointer (some ⟨b, 0, none⟩), .string L[k].name] W fun e w' => e = .returned (.int .i64 (L[k].loose.length : Nat)) ∧ Below W.heap.size W w') := fun W hW => by
        have h0 := loose_lv w0 W b mb p room E L[k].name (HD1.out.below hW).lv hsz
        have hlo' : looseA (abs E) L[k].name.data.toList = L[k].loose.length := hlo
        rw [hlo'] at h0
        refine h0.mono ?_
        rintro e w' ⟨e1, n, rfl⟩
        exact ⟨e1, ⟨rfl, rfl, rfl, Nat.le_refl _, fun _ _ => rfl⟩⟩
      have HBR := Lib.hid hbr
      clear hbr hnm0 hDr hsz hlo m0 m2
      generalize L[k].loose.length = lg at *
      generalize L[k].name = nm at *
      generalize (readOf p (abs E) nm.data.toList).1 = rb at *
      generalize (readOf p (abs E) nm.data.toList).2 = re at *
      have hba := ba_yes nm
      go_wp2_with fail
      refine (HRD.out).mono ?_
      rintro e w3 ⟨A3, c3, rfl, _, hr3, hb3⟩
      have HR3 := Lib.hid hr3
      have HB3 := Lib.hid hb3
      have HRR3 := Lib.hid (HRR.out w3 (HBR.out.trans (hb3.mono HBR.out.size)))
      clear hr3 hb3
      go_wp2_with fail
      refine (HRR3.out).mono ?_
      rintro e w4 ⟨A4, c4, rfl, _, hr4, hb4⟩
      obtain ⟨n, hn⟩ : ∃ y, y = rb.length := ⟨_, rfl⟩
      have hbr4 : Below wr.heap.size wr w4 := HB3.out.trans (hb4.mono HB3.out.size)
      have hb14 : Below w1.heap.size w1 w4 := HBR.out.trans (hbr4.mono HBR.out.size)
      have HB14 := Lib.hid hb14
      have HSM : Hid (∀ W, Below w4.heap.size w4 W → Calls Try.prog 22 #[.slice A3 n c3, .slice A4 n c4] W fun e w' => e = .returned (.bool true) ∧ Below w4.heap.size w4 w') := fun W hW => by
        refine (same_eq _ _ A3 A4 c3 c4 rb n hn W (HR3.out.below (hb4.trans (hW.mono hb4.size))) (hr4.below hW)).mono ?_
        rintro e w' ⟨e1, rfl⟩
        exact ⟨e1, hW⟩
      have HLO4 : Hid (∀ W, Below w4.heap.size w4 W → Calls Try.prog 23 #[.pointer (some ⟨b, 0, none⟩), .string nm] W fun e w' => e = .returned (.int .i64 (lg : Nat)) ∧ Below w4.heap.size w4 w') := fun W hW => by
        refine (HLO.out W (hb14.trans (hW.mono hb14.size))).mono ?_
        rintro e w' ⟨e1, hb'⟩
        exact ⟨e1, hW.trans (hb'.mono hW.size)⟩
      have HCE4 : Hid (∀ W, Below w4.heap.size w4 W → W.cell? ⟨x, 1, none⟩ = some (.slice (some ad2) ln fc) ∧ W.cell? (ad2.add (k * 3)) = some (.string nm) ∧ W.cell? ⟨(ad2.add (k * 3)).block, (ad2.add (k * 3)).off + 2, none⟩ = some (.slice G lg cg)) := fun W hW =>
        ⟨(HCE.out W (hb14.trans (hW.mono hb14.size))).1, HM0.out W (hbr4.trans (hW.mono hbr4.size))⟩
      rw [← hn]
      clear hr4 hb4 hbr4 hb14 hn
      obtain ⟨z0, z1, z2⟩ := HCE4.out w4 (Below.refl _ _)
      go_wp2_with fail
      refine region_class (fun W => Below w4.heap.size w4 W) (by kernel_rfl) (by kernel_rfl) (Below.refl _ _).drew ?_
      repeat (first
        | go_big_quiet_skip
        | (go_big_quiet_want
           first
            | (go_big_quiet_op; go_big_quiet_on)
            | (refine quiet_call 22 _ _ rfl (args := #[.slice A3 n c3, .slice A4 n c4]) (fun W => by go_simp; done) (fun W hW => HSM.out W hW) ?_; (try simp only [Act.put, List.setIfInBounds_toArray, List.set_cons_zero, List.set_cons_succ]); go_big_quiet_on)
            | (refine quiet_call 23 _ _ rfl (args := #[.pointer (some ⟨b, 0, none⟩), .string nm]) (fun W => by go_simp; done) (fun W hW => HLO4.out W hW) ?_; (try simp only [Act.put, List.setIfInBounds_toArray, List.set_cons_zero, List.set_cons_succ]); go_big_quiet_on)
            | (refine quiet_run (v := ?_) ?_ ?_
               rotate_left
               · (intro W hW; have z := HCE4.out W hW; go_simp; first | done | with_reducible rfl)
               (try simp only [Act.put, List.setIfInBounds_toArray, List.set_cons_zero, List.set_cons_succ]); go_big_quiet_on)))
      refine wpQuiet_nil ?_
      intro w5 hw5
      have HB5 : Hid (Below w1.heap.size w1 w5) := HB14.out.trans (hw5.mono HB14.out.size)
      clear hw5
      go_wp2_with fail
      go_roundw
      case rel => exact ⟨k + 1, by omega, by go_num, HB5.out⟩
      case measure => simp [intOf]; omega
    · have i1 : ¬ (k : Int) < (ln : Int) := by omega
      obtain ⟨nm, hnm⟩ : ∃ y : ByteArray, y = ⟨#[110, 111, 115, 117, 99, 104, 57]⟩ := ⟨_, rfl⟩
      have hsz : nm.size ≤ maxLen := by rw [hnm]; decide
      have HRD : Hid (Calls Try.prog 17 #[.pointer (some ⟨b, 0, none⟩), .string ⟨#[110, 111, 115, 117, 99, 104, 57]⟩] wr fun e w' => GivesR wr (readOf p (abs E) nm.data.toList).1 (readOf p (abs E) nm.data.toList).2 e w') := by
        rw [← hnm]
        exact readD w0 wr b mb p room E nm (HD1.out.below hbr).lv hsz
      have HRR : Hid (∀ W, Below w1.heap.size w1 W → Calls Try.prog 40 #[.pointer (some ⟨x, 0, none⟩), .string ⟨#[110, 111, 115, 117, 99, 104, 57]⟩] W fun e w' => GivesR W (readOf p (abs E) nm.data.toList).1 (readOf p (abs E) nm.data.toList).2 e w') := fun W hW => by
        obtain ⟨Bk, r, _, _⟩ := (HD1.out.below hW).ref
        rw [← hnm]
        exact readR W x p pr room v L nm r (by omega) HLZ.out HT.out HP.out
      have HBR := Lib.hid hbr
      clear hbr hsz hnm
      generalize (readOf p (abs E) nm.data.toList).1 = rb at *
      generalize (readOf p (abs E) nm.data.toList).2 = re at *
      go_wp2_with fail
      refine (HRD.out).mono ?_
      rintro e w3 ⟨A3, c3, rfl, _, _, hb3⟩
      have hb13 : Below w1.heap.size w1 w3 := HBR.out.trans (hb3.mono HBR.out.size)
      have HRR3 := Lib.hid (HRR.out w3 hb13)
      have HB13 := Lib.hid hb13
      clear hb3 hb13
      go_wp2_with fail
      refine (HRR3.out).mono ?_
      rintro e w4 ⟨A4, c4, rfl, _, _, hb4⟩
      have HF : Hid (Below w.heap.size w w4) := HB1.out.trans ((HB13.out.trans (hb4.mono HB13.out.size)).mono HB1.out.size)
      clear hb4
      go_wp2_with fail
      go_ret
      exact ⟨by simp, HF.out⟩
end

end Go.Proofs.Ytchedflfinkppaa

/-
  Files made firm together, and dropped together: what is left, without memory.
-/
namespace Go.Proofs.Ytchedflfinkppaa
open Go.RowKit Go.Maps Go.Sort Go.Shelf
set_option linter.unusedSimpArgs false
set_option linter.unusedVariables false

theorem firmA_stays {x : List UInt8} : ∀ (ns : List ByteArray) (A : List AFile), (∀ a ∈ A, a.1 = x → a.2.1.length ≤ a.2.2) → ∀ a ∈ firmA A ns, a.1 = x → a.2.1.length ≤ a.2.2
  | [], _, h => h
  | s :: ns, A, h => firmA_stays ns (firm1A A s.data.toList) fun a ha hx => by
    obtain ⟨b, hb, rfl⟩ := List.mem_map.1 ha
    by_cases e : b.1 = s.data.toList
    · rw [if_pos e]
      exact Nat.le_refl _
    · rw [if_neg e] at hx ⊢
      exact h b hb hx
theorem firmA_firm : ∀ (ns : List ByteArray) (A : List AFile) (s : ByteArray), s ∈ ns → ∀ a ∈ firmA A ns, a.1 = s.data.toList → a.2.1.length ≤ a.2.2
  | t :: ns, A, s, h => fun a ha hx => by
    by_cases e : s = t
    · subst e
      refine firmA_stays ns (firm1A A s.data.toList) (fun b hb hx' => ?_) a ha hx
      obtain ⟨c, hc, rfl⟩ := List.mem_map.1 hb
      by_cases e : c.1 = s.data.toList
      · rw [if_pos e]
        exact Nat.le_refl _
      · rw [if_neg e] at hx'
        exact absurd hx' e
    · have hm : s ∈ ns := by
        rcases List.mem_cons.1 h with h | h
        · exact absurd h e
        · exact h
      exact firmA_firm ns (firm1A A t.data.toList) s hm a ha hx
theorem loose_none (A : List AFile) (ns : List ByteArray) (s : ByteArray) (h : s ∈ ns) : looseA (firmA A ns) s.data.toList = 0 := by
  unfold looseA
  cases hf : findA (firmA A ns) s.data.toList with
  | none => rfl
  | some a =>
    obtain ⟨h1, h2⟩ := findA_some hf
    have := firmA_firm ns A s h a h1 h2
    show a.2.1.length - a.2.2 = 0
    omega
theorem firm1A_names (A : List AFile) (x : List UInt8) : (firm1A A x).map Prod.fst = A.map Prod.fst := by
  unfold firm1A
  rw [List.map_map]
  refine List.map_congr_left fun a _ => ?_
  simp only [Function.comp]
  split <;> rfl
theorem firmA_names : ∀ (ns : List ByteArray) (A : List AFile), (firmA A ns).map Prod.fst = A.map Prod.fst
  | [], _ => rfl
  | s :: ns, A => (firmA_names ns (firm1A A s.data.toList)).trans (firm1A_names A _)
theorem find_names {A B : List AFile} (h : A.map Prod.fst = B.map Prod.fst) (x : List UInt8) : (findA A x).isSome = (findA B x).isSome := by
  have e : ∀ C : List AFile, (findA C x).isSome = (C.map Prod.fst).any (fun y => decide (y = x)) := fun C => by
    unfold findA
    rw [List.any_map]
    induction C with
    | nil => rfl
    | cons c C ih =>
      rw [List.find?_cons, List.any_cons]
      by_cases e : c.1 = x
      · simp [e]
      · simp only [e, decide_false, Function.comp, Bool.false_or]
        exact ih
  rw [e A, e B, h]
theorem all_names {A B : List AFile} (h : A.map Prod.fst = B.map Prod.fst) (ns : List ByteArray) : allA A ns = allA B ns := by
  unfold allA
  congr 1
  funext s
  exact find_names h _
/-- no two files have one name -/
def Once (A : List AFile) : Prop := A.Pairwise (fun a b => a.1 ≠ b.1)
theorem once_names {A B : List AFile} (h : A.map Prod.fst = B.map Prod.fst) (hA : Once A) : Once B := by
  unfold Once at *
  rw [← List.pairwise_map (f := Prod.fst) (R := fun x y => x ≠ y)] at hA ⊢
  rw [← h]
  exact hA
theorem dropA_none {A : List AFile} {x : List UInt8} (h : ∀ a ∈ A, a.1 ≠ x) : dropA A x = A := by
  unfold dropA
  rw [List.filter_eq_self]
  intro a ha
  exact decide_eq_true (h a ha)
theorem dropA_one : ∀ {A : List AFile} {x : List UInt8}, Once A → (∃ a ∈ A, a.1 = x) → (dropA A x).length + 1 = A.length
  | [], _, _, ⟨a, ha, _⟩ => absurd ha List.not_mem_nil
  | b :: A, x, ho, ⟨a, ha, hx⟩ => by
    unfold Once at ho
    rw [List.pairwise_cons] at ho
    by_cases e : b.1 = x
    · have hn : ∀ c ∈ A, c.1 ≠ x := fun c hc e' => ho.1 c hc (by rw [e, e'])
      have h1 : dropA (b :: A) x = dropA A x := by unfold dropA; rw [List.filter_cons, if_neg (by simp [e])]
      rw [h1, dropA_none hn]
      rfl
    · have h1 : dropA (b :: A) x = b :: dropA A x := by unfold dropA; rw [List.filter_cons, if_pos (decide_eq_true e)]
      rw [h1, List.length_cons, List.length_cons]
      rcases List.mem_cons.1 ha with rfl | ha
      · exact absurd hx e
      · have := dropA_one (A := A) ho.2 ⟨a, ha, hx⟩
        omega
theorem mem_dropsA : ∀ (ns : List ByteArray) {A : List AFile} {a : AFile}, a ∈ dropsA A ns ↔ a ∈ A ∧ ∀ s ∈ ns, a.1 ≠ s.data.toList
  | [], A, a => ⟨fun h => ⟨h, fun s hs => absurd hs List.not_mem_nil⟩, fun h => h.1⟩
  | t :: ns, A, a => by
    have := mem_dropsA ns (A := dropA A t.data.toList) (a := a)
    refine this.trans ⟨fun h => ?_, fun h => ?_⟩
    · obtain ⟨h1, h2⟩ := h
      unfold dropA at h1
      obtain ⟨h3, h4⟩ := List.mem_filter.1 h1
      refine ⟨h3, fun s hs => ?_⟩
      rcases List.mem_cons.1 hs with rfl | hs
      · exact of_decide_eq_true h4
      · exact h2 s hs
    · refine ⟨?_, fun s hs => h.2 s (List.mem_cons_of_mem _ hs)⟩
      unfold dropA
      exact List.mem_filter.2 ⟨h.1, decide_eq_true (h.2 t List.mem_cons_self)⟩
theorem dropsA_snoc (A : List AFile) (ns : List ByteArray) (s : ByteArray) : dropsA A (ns ++ [s]) = dropA (dropsA A ns) s.data.toList := by unfold dropsA; rw [List.foldl_append]; rfl
theorem dropsA_once : ∀ (ns : List ByteArray) {A : List AFile}, Once A → Once (dropsA A ns)
  | [], _, h => h
  | s :: ns, A, h => dropsA_once ns (A := dropA A s.data.toList) (List.Pairwise.filter _ h)

/-- the names that were met so far, as a set; what is left without them -/
structure Gone (A : List AFile) (ns : List ByteArray) (D : DataW Unit) : Prop where
  tidy : Tidy D
  has : ∀ y, has D (.string y) = true ↔ ∃ s ∈ ns, s.data.toList = y
  len : (∀ s ∈ ns, ∃ a ∈ A, a.1 = s.data.toList) → (dropsA A ns).length + Maps.size D = A.length
theorem Gone.start (A : List AFile) : Gone A [] (.map []) := ⟨tidy_empty, fun y => ⟨fun h => by simp [Maps.has] at h, fun ⟨s, hs, _⟩ => absurd hs List.not_mem_nil⟩, fun _ => rfl⟩
theorem Gone.step {A : List AFile} {ns : List ByteArray} {D : DataW Unit} (h : Gone A ns D) (ho : Once A) (s : ByteArray) : Gone A (ns ++ [s]) (D.put (.string s.data.toList) (.lit (.bool true))) := by
  refine ⟨h.tidy.put (by trivial) _, fun y => ?_, fun hall => ?_⟩
  · by_cases hy : y = s.data.toList
    · subst hy
      exact ⟨fun _ => ⟨s, by simp, rfl⟩, fun _ => has_put_same h.tidy.isMap (by trivial) _⟩
    · rw [has_put_other (by simpa using hy), h.has]
      refine ⟨fun ⟨t, ht, e⟩ => ⟨t, List.mem_append_left _ ht, e⟩, fun ⟨t, ht, e⟩ => ?_⟩
      rcases List.mem_append.1 ht with ht | ht
      · exact ⟨t, ht, e⟩
      · obtain rfl := List.mem_singleton.1 ht
        exact absurd e.symm hy
  · have h1 := h.len fun t ht => hall t (List.mem_append_left _ ht)
    obtain ⟨a, ha, hx⟩ := hall s (by simp)
    rw [dropsA_snoc, size_put h.tidy]
    by_cases hh : Maps.has D (.string s.data.toList) = true
    · rw [if_pos hh]
      obtain ⟨t, ht, e⟩ := (h.has _).1 hh
      rw [dropA_none fun c hc => by
        have := ((mem_dropsA ns).1 hc).2 t ht
        rw [e] at this
        exact this]
      exact h1
    · rw [if_neg hh]
      have hm : a ∈ dropsA A ns := (mem_dropsA ns).2 ⟨ha, fun t ht e => hh ((h.has _).2 ⟨t, ht, by rw [← e, hx]⟩)⟩
      have := dropA_one (dropsA_once ns ho) ⟨a, hm, hx⟩
      omega
theorem all_mem {A : List AFile} {ns : List ByteArray} (h : allA A ns = true) : ∀ s ∈ ns, ∃ a ∈ A, a.1 = s.data.toList := fun s hs => by
  have := List.all_eq_true.1 h s hs
  cases hf : findA A s.data.toList with
  | none => rw [hf] at this; cases this
  | some a => exact ⟨a, findA_some hf⟩
theorem calm_down {p : Pw} (h : Calm p) : ¬ p.spent.down = true := by rw [h.spent.2]; decide

section
variable {w0 w w' : World} {b mb x : Nat} {room : Nat}
theorem Duo.start {v : Value} (h : Lv w0 w b mb Pw.fresh room []) (r : RD w' ⟨w0.heap.size, fun g => ¬ Of b mb [] g⟩ x Pw.fresh room v []) (hb : Below w.heap.size w w') : Duo w0 w' (fun _ => False) b mb x Pw.fresh Pw.fresh room [] v [] :=
  ⟨h.below hb, ⟨_, r, fun g hg => ⟨hg, fun hf => hf⟩⟩, fun g hf => hf.elim⟩
theorem PwEq.refl (p : Pw) : PwEq p p := ⟨rfl, rfl, fun _ => rfl⟩
end

end Go.Proofs.Ytchedflfinkppaa

/-
  The law DiskAgain, walked.
-/
namespace Go.Proofs.Ytchedflfinkppaa
open Go.RowKit Go.Maps Go.WideMaps Go.Sort Go.Shelf
set_option linter.unusedSimpArgs false
set_option linter.unusedVariables false

theorem rcrL_loose (L : List RF) (keep : List Int) : ∀ k, k ≤ L.length → ∀ j (hj : j < (rcrL L keep k).length), j < k → ((rcrL L keep k)[j]).loose = []
  | 0, _, j, _, h => absurd h (Nat.not_lt_zero _)
  | k + 1, hk, j, hj, h => by
    have hl : (rcrL L keep k).length = L.length := rcrL_len L keep k
    have e := rcrL_succ L keep k
    have hj2 : j < ((rcrL L keep k).set k (rcr1 keep k ((rcrL L keep k).getD k ⟨⟨#[]⟩, [], []⟩))).length := by rw [← e]; exact hj
    have e2 : (rcrL L keep (k + 1))[j] = ((rcrL L keep k).set k (rcr1 keep k ((rcrL L keep k).getD k ⟨⟨#[]⟩, [], []⟩)))[j] := by
      congr 1
    rw [e2]
    by_cases hjk : j = k
    · subst hjk
      rw [List.getElem_set_self]
      rfl
    · rw [List.getElem_set_ne (fun e => hjk e.symm)]
      exact rcrL_loose L keep k (by omega) j (by rw [List.length_set] at hj2; exact hj2) (by omega)
theorem crash_firm {A : List AFile} (h : ∀ a ∈ A, a.2.2 = a.2.1.length) (ns : List (List UInt8)) (keep : List Int) : ∀ k, crT A ns keep k = A
  | 0 => rfl
  | k + 1 => by
    rw [crT_succ, crash_firm h ns keep k]
    unfold cr1
    refine (List.map_congr_left fun a ha => ?_).trans (List.map_id A)
    split
    · have h1 := h a ha
      have h2 := keptN_le k keep 0
      unfold cr0 keepN
      rw [h1, Nat.sub_self]
      have h3 : keptN k keep 0 = 0 := by omega
      rw [h3, Nat.add_zero, List.take_length]
      obtain ⟨n, bs, f⟩ := a
      simp only at h1
      subst h1
      rfl
    · rfl
theorem crash_twice {A : List AFile} {L : List RF} {keep : List Int} (more : List Int) (h : Tied A (rcrL L keep L.length)) : crashA A more = A := by
  refine crash_firm (fun a ha => ?_) _ _ _
  obtain ⟨f, hf, rfl⟩ := List.mem_map.1 ((h.mem a).1 ha)
  obtain ⟨j, hj, rfl⟩ := List.mem_iff_getElem.1 hf
  have := rcrL_loose L keep L.length (Nat.le_refl _) j hj (by rw [rcrL_len] at hj; exact hj)
  simp [toA, this]
theorem Duo.start2 {w0 w2 w3 : World} {b mb x room : Nat} {v : Value} (r : RD w2 ⟨w0.heap.size, fun _ => True⟩ x Pw.fresh room v []) (h : Lv w0 w3 b mb Pw.fresh room []) (hb : Below w2.heap.size w2 w3) (h1 : w2.heap.size ≤ b) (h2 : w2.heap.size ≤ mb) : Duo w0 w3 (fun _ => False) b mb x Pw.fresh Pw.fresh room [] v [] := by
  refine ⟨h, ⟨fun g => ¬ Of b mb [] g, r.move hb.size (fun g hg _ => ⟨hb.block g hg, fun ho => ?_⟩) (fun g hg ho => by have := h.lt ho; omega), fun g hg => ⟨hg, fun hf => hf⟩⟩, fun g hf => hf.elim⟩
  rcases ho with e | e | ⟨e, he, _⟩
  · omega
  · omega
  · cases he

theorem ends_row {w w' : World} {l : List Int} {e : Ending} (h : Gives w (i64s (l.take 20)) e w') : ∃ A c, e = .returned (.slice A (l.take 20).length c) ∧ Row (fun g => w.heap.size ≤ g) w' A (i64s (l.take 20)) ∧ Below w.heap.size w w' := by
  obtain ⟨A, c, e1, _, h1, h2⟩ := h
  rw [i64s_len] at e1
  exact ⟨A, c, e1, h1, h2⟩

set_option maxRecDepth 100000 in
set_option maxHeartbeats 1000000 in
theorem law_again (A K M : Option Addr) (c ck cm : Nat) (os : List Opn) (ks ms : List Int) (w : World) (hO : OpsIn w A os) (hl : os.length ≤ 9223372036854775807) (hok : ∀ o ∈ os, OpOk o)
    (hK : Row (fun g => g < w.heap.size) w K (i64s ks)) (hkc : ks.length ≤ ck) (hkl : ks.length ≤ 9223372036854775807) (hM : Row (fun g => g < w.heap.size) w M (i64s ms)) (hmc : ms.length ≤ cm) (hml : ms.length ≤ 9223372036854775807) :
    Calls Try.prog 8 #[.slice A os.length c, .slice K ks.length ck, .slice M ms.length cm] w fun e w' => e = .returned (.bool true) ∧ Below w.heap.size w w' := by
  have HO := Lib.hid hO
  have HOK := Lib.hid hok
  have HK := Lib.hid hK
  have HM := Lib.hid hM
  have HKC := Lib.hid hkc
  have HMC := Lib.hid hmc
  have HKL := Lib.hid hkl
  have HML := Lib.hid hml
  clear hO hok hK hM hkc hmc hkl hml
  go_enter Try.func8, Try.ntmps8
  go_wp2_with fail
  refine (awake_any w).mono ?_
  rintro e w1 ⟨rfl, hb1⟩
  have HB1 := Lib.hid hb1
  have HRN := Lib.hid (rnew_any 3000 w1 ⟨w.heap.size, fun _ => True⟩ hb1.size (fun g hg => trivial) (by decide))
  clear hb1
  go_wp2_with fail
  refine (HRN.out).mono ?_
  rintro e w2 ⟨rfl, r2, hb2⟩
  have HB2 : Hid (Below w.heap.size w w2) := HB1.out.trans (hb2.mono HB1.out.size)
  have HR2 := Lib.hid r2
  obtain ⟨x, hx⟩ : ∃ x, x = w1.heap.size := ⟨_, rfl⟩
  rw [← hx] at HR2 ⊢
  clear r2 hb2 hx HRN
  go_wp2_with fail
  refine (new_lv w w2 3000 HB2.out (by decide)).mono ?_
  rintro e w3 ⟨rfl, h3, hb3⟩
  obtain ⟨b, hb⟩ : ∃ b, b = w2.heap.size + 1 := ⟨_, rfl⟩
  obtain ⟨mb, hmb⟩ : ∃ mb, mb = w2.heap.size := ⟨_, rfl⟩
  rw [← hb, ← hmb] at h3
  rw [← hb]
  have HD3 := Lib.hid (Duo.start2 HR2.out h3 hb3 (by omega) (by omega))
  clear h3 hb3 hb hmb HR2
  go_wp2_with fail
  go_loopw [10, 11, 21] (fun _ _ i wr => ∃ (k : Nat), k ≤ os.length ∧ i = .int .i64 k ∧ ∃ E v L p pr, Duo w wr (fun _ => False) b mb x p pr 3000 E v L ∧ Tied (abs E) L ∧ PwEq p pr) (fun _ _ i _ => os.length - (intOf i).toNat)
  case atStart => exact ⟨0, Nat.zero_le _, rfl, [], _, [], Pw.fresh, Pw.fresh, HD3.out, Tied.empty, PwEq.refl _⟩
  case round =>
    obtain ⟨k, hk, rfl, E, v, L, p, pr, hD, hT, hP⟩ := hrel
    have HD := Lib.hid hD
    have HT := Lib.hid hT
    have HP := Lib.hid hP
    by_cases hlt : k < os.length
    · have i1 : (k : Int) < (os.length : Int) := by omega
      obtain ⟨ad, rfl, hadl, A1, c1, A2, c2, A3, c3, hat, k0, k1, k2, k3, k4, k5, k6⟩ := (HO.out.below hD.bel) k hlt
      have hoko := HOK.out _ (List.getElem_mem hlt)
      generalize os[k] = o at *
      have HAT := Lib.hid hat
      have HOKo := Lib.hid hoko
      have HKEEP : Hid (∀ W, Below wr.heap.size wr W → ∃ E v L p pr, Duo w W (fun _ => False) b mb x p pr 3000 E v L ∧ Tied (abs E) L ∧ PwEq p pr) := fun W hW => ⟨E, v, L, p, pr, HD.out.below hW, HT.out, HP.out⟩
      have HBN : Hid (Below wr.heap.size wr (wr.alloc (.cells #[.int .u8 o.d, .string o.nm, .string o.to, .slice A1 o.ns.length c1, .slice A2 o.ps.length c2, .int .i64 o.n, .slice A3 o.ks.length c3] 34))) := (Below.refl _ _).alloc (Nat.le_refl _) _
      clear hD hT hP hat hoko
      by_cases h40 : (k : Int) < 40
      · have HDO : Hid (Calls Try.prog 13 #[.pointer (some ⟨b, 0, none⟩), .pointer (some ⟨x, 0, none⟩), .agg #[.int .u8 o.d, .string o.nm, .string o.to, .slice A1 o.ns.length c1, .slice A2 o.ps.length c2, .int .i64 o.n, .slice A3 o.ks.length c3]] (wr.alloc (.cells #[.int .u8 o.d, .string o.nm, .string o.to, .slice A1 o.ns.length c1, .slice A2 o.ps.length c2, .int .i64 o.n, .slice A3 o.ks.length c3] 34)) fun e w' => DoGave w b mb x 3000 p o e w') :=
          do_any w _ b mb x p pr 3000 E v L _ o A1 c1 A2 c2 A3 c3 (HD.out.below HBN.out) HT.out HP.out (HAT.out.below HBN.out) HOKo.out
        go_wp2_with fail
        refine (HDO.out).mono ?_
        rintro e w5 ⟨E5, v5, L5, p5, pr5, rfl, g1, g2, g3, _⟩
        have HG : Hid (∃ E v L p pr, Duo w w5 (fun _ => False) b mb x p pr 3000 E v L ∧ Tied (abs E) L ∧ PwEq p pr) := ⟨E5, v5, L5, p5, pr5, g1, g2, g3⟩
        clear g1 g2 g3
        go_wp2_with fail
        go_roundw
        case rel => exact ⟨k + 1, by omega, by go_num, HG.out⟩
        case measure => simp [intOf]; omega
      · go_wp2_with fail
        go_roundw
        case rel => exact ⟨k + 1, by omega, by go_num, HKEEP.out _ HBN.out⟩
        case measure => simp [intOf]; omega
    · have i1 : ¬ (k : Int) < (os.length : Int) := by omega
      obtain ⟨W0, rfl⟩ : ∃ y, y = wr := ⟨wr, rfl⟩
      have hL16 : L.length ≤ 16 := by rw [← hT.len]; exact hD.lv.fits.2.2
      have hLz : sumR L ≤ 1048576 := by have := hD.lv.fits; rw [← hT.sum]; omega
      have HE1 := Lib.hid (ends_any _ K ck ks W0 (HK.out.below hD.bel) HKC.out HKL.out)
      clear hD hT hP
      go_wp2_with fail
      refine (HE1.out).mono ?_
      rintro e w4 hg4
      obtain ⟨K1, e1, rfl, hr4, hb4⟩ := ends_row hg4
      obtain ⟨kk, hkk⟩ : ∃ y, y = ks.take 20 := ⟨_, rfl⟩
      have hkl2 : kk.length ≤ 20 := by rw [hkk, List.length_take]; omega
      rw [← hkk] at hr4 ⊢
      have HKK := Lib.hid hkk
      clear hkk
      have HL4 := Lib.hid (HD.out.below hb4)
      have hc4 := crash_lv w w4 b mb p 3000 E K1 e1 kk HL4.out.lv (HD.out.lv.new hr4) (by omega)
      have HC4 := Lib.hid hc4
      clear hg4 hr4 hb4 hc4 HE1
      go_wp2_with fail
      refine (HC4.out).mono ?_
      rintro e w5 ⟨rfl, hl5⟩
      obtain ⟨E5, hA5, hd5, _⟩ := HL4.out.disk hl5
      have HD5 := Lib.hid hd5
      have HA5 := Lib.hid hA5
      have HE2 := Lib.hid (ends_any _ K ck ks w5 (HK.out.below hd5.bel) HKC.out HKL.out)
      clear hl5 hd5 hA5 HL4 HC4
      go_wp2_with fail
      refine (HE2.out).mono ?_
      rintro e w6 hg6
      obtain ⟨K2, e2, rfl, hr6, hb6⟩ := ends_row hg6
      rw [← HKK.out] at hr6 ⊢
      have hd6 := HD5.out.more hb6
      obtain ⟨Bk, r6, hoff6, hstep6⟩ := hd6.ref
      have hr6' : Row (fun g => w5.heap.size ≤ g ∧ g < w6.heap.size) w6 K2 (i64s kk) := hr6.mono fun g hg s => ⟨s, hg⟩
      have hc6 : Calls Try.prog 31 #[.pointer (some ⟨x, 0, none⟩), .slice K2 kk.length e2] w6 fun e w' => e = .returned (.tuple #[]) ∧ ∃ v7, Duo w w' (fun _ => False) b mb x Pw.fresh ⟨false, false, pr.left⟩ 3000 E5 v7 (rcrL L kk L.length) := by
        refine (rcrash_any w6 Bk x 3000 pr v L _ K2 e2 kk r6 (by omega) hLz hr6' (fun g hg => hoff6 g (.inr hg)) (by omega)).mono ?_
        rintro e w' ⟨e1, r, c⟩
        exact ⟨e1, v, (hstep6 _ _ _ _ r c).less fun _ hf => hf.elim⟩
      have HC6 := Lib.hid hc6
      clear hg6 hr6 hb6 hd6 r6 hoff6 hstep6 hr6' hc6 HE2
      go_wp2_with fail
      refine (HC6.out).mono ?_
      rintro e w7 ⟨rfl, v7, hd7⟩
      have HD7 := Lib.hid hd7
      have hT7 : Tied (abs E5) (rcrL L kk L.length) := by rw [HA5.out]; exact HT.out.crash kk
      have HT7 := Lib.hid hT7
      have HE3 := Lib.hid (ends_any _ M cm ms w7 (HM.out.below hd7.bel) HMC.out HML.out)
      clear hd7 hT7 HC6
      go_wp2_with fail
      refine (HE3.out).mono ?_
      rintro e w8 hg8
      obtain ⟨K3, e3, rfl, hr8, hb8⟩ := ends_row hg8
      obtain ⟨mm, hmm⟩ : ∃ y, y = ms.take 20 := ⟨_, rfl⟩
      have hml2 : mm.length ≤ 20 := by rw [hmm, List.length_take]; omega
      rw [← hmm] at hr8 ⊢
      have HL8 := Lib.hid (HD7.out.below hb8)
      have HC8 := Lib.hid (crash_lv w w8 b mb Pw.fresh 3000 E5 K3 e3 mm HL8.out.lv (HD7.out.lv.new hr8) (by omega))
      clear hg8 hr8 hb8 HE3 hmm
      go_wp2_with fail
      refine (HC8.out).mono ?_
      rintro e w9 ⟨rfl, hl9⟩
      obtain ⟨E9, hA9, hd9, _⟩ := HL8.out.disk hl9
      have hT9 : Tied (abs E9) (rcrL L kk L.length) := by rw [hA9, crash_twice mm HT7.out]; exact HT7.out
      have HAL := Lib.hid (alike_any w w9 b mb x Pw.fresh ⟨false, false, pr.left⟩ 3000 E9 v7 (rcrL L kk L.length) hd9 hT9 (PwEq.crash _))
      have HBE := Lib.hid hd9.bel
      clear hl9 hd9 hA9 hT9 HC8
      go_wp2_with fail
      refine (HAL.out).mono ?_
      rintro e w10 ⟨rfl, hb10⟩
      have HF : Hid (Below w.heap.size w w10) := HBE.out.trans (hb10.mono HBE.out.size)
      clear hb10
      go_wp2_with fail
      go_ret
      exact ⟨rfl, HF.out⟩

end Go.Proofs.Ytchedflfinkppaa
