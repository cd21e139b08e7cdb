/-
  The contract of Write, where the bytes don't fit, and where they are written.
-/
import Derived.Deep.RegionHeld3
import Derived.Test.YtchedflfinkppaaWrite
namespace Go.Proofs.Ytchedflfinkppaa
open Go.RowKit Go.Maps Go.BigFrame

section
variable (B b mb n : Nat) (D : DataW Unit) (p : Pw) (room : Nat) (E : List Ent) (s : ByteArray)

set_option maxRecDepth 100000 in
set_option maxHeartbeats 2000000 in
theorem write_over (S : Nat → Prop) (A : Option Addr) (c : Nat) (ts : List (List Int)) (w : World) (h : Dsk w B b mb n D p room E) (hd : p.spent.down = false) (hs : s.size ≤ maxLen) (hn : IsName s) (hT : TxtAt S w A ts) (hS : ∀ g, g < w.heap.size → S g → ¬ Of b mb E g) (hl : ts.length ≤ 1000000) (hv : ∀ t ∈ ts, t.length ≤ 1000000) (hx : ∀ e ∈ E, e.name ≠ s.data.toList) (h16 : E.length < 16) (ho : room < (E.map fun e => e.bs.length).sum + ts.flatten.length) :
    Calls Try.prog 19 #[.pointer (some ⟨b, 0, none⟩), .string s, .slice A ts.length c] w fun e w' => e = .returned (.int .i64 8) ∧ Did w w' B b mb n D p room E E := by
  have hch := change_any b room mb p w h.blk h.ok
  have he : p.err = 0 := by simp [Pw.err, hd]
  rw [he] at hch
  have HC := Lib.hid hch
  have HD := Lib.hid h
  have HNB := Lib.hid (nameB_yes hn)
  have HT := Lib.hid hT
  have HS := Lib.hid hS
  have HV := Lib.hid hv
  have HX := Lib.hid hx
  clear hx
  clear hch h he hd hn hT hS hv
  go_enter Try.func19, Try.ntmps19
  go_wp2_with fail
  refine (HC.out).mono ?_
  rintro e w1 ⟨rfl, h1, h2⟩
  have HF : Hid (Did w w1 B b mb n D p room E E) := ⟨HD.out.power h1 (Pw.spent_ok HD.out.ok) h2, .of_only h2⟩
  have HI := Lib.hid (isName_any s w1 hs)
  rw [HNB.out] at HI
  clear h1 h2
  go_wp2_with fail
  refine (HI.out).mono ?_
  rintro e w2 ⟨rfl, hb⟩
  have HF2 : Hid (Did w w2 B b mb n D p room E E) := ⟨HF.out.1.below hb, HF.out.2.trans (.of_only (Only.of_below hb))⟩
  have HFN : Hid (∀ W, Below w2.heap.size w2 W → Did w W B b mb n D p room E E) := fun W hW => ⟨HF2.out.1.below hW, HF2.out.2.trans (.of_only (Only.of_below hW))⟩
  have HCE : Hid (∀ W, Below w2.heap.size w2 W → W.cell? ⟨b, 3, none⟩ = some (.int .i64 (room : Int)) ∧ W.cell? ⟨b, 4, none⟩ = some (.map (some mb))) := fun W hW => (HFN.out W hW).1.blk.cells.2.2.2
  have HTN : Hid (∀ W, Below w2.heap.size w2 W → TxtAt (fun g => g < w.heap.size ∧ S g) W A ts) := fun W hW => (HT.out.mono fun g hg s => ⟨hg, s⟩).kept (HFN.out W hW).2.size fun g hg s => (HFN.out W hW).2.block g hg (HS.out g hg s.2)
  have HLE : Hid (∀ W, Below w2.heap.size w2 W → ∀ ty, (Builtin.len_ #[65] ty #[.map (some mb)]).run Try.prog W = .ok (.int .i64 (E.length : Int)) W) := fun W hW ty => by
    have := (HFN.out W hW).1.map.len Try.underlying65 ty
    rw [(HFN.out W hW).1.count] at this
    exact this
  have hroom := HD.out.most
  have hfit0 := HD.out.fits
  obtain ⟨tot, htot⟩ : ∃ x, x = (E.map fun e => e.bs.length).sum := ⟨_, rfl⟩
  obtain ⟨fb, hfb⟩ : ∃ x, x = decide (ts.flatten.length ≤ room - tot) := ⟨_, rfl⟩
  rw [← htot] at hfit0
  have HUS : Hid (∀ W, Below w2.heap.size w2 W → Calls Try.prog 25 #[.pointer (some ⟨b, 0, none⟩)] W fun e w' => e = .returned (.int .i64 (tot : Int)) ∧ Below w2.heap.size w2 w') := fun W hW => by
    have h0 := used_any b room mb n p.spent D (E.map entOf) W (HFN.out W hW).1.blk (HFN.out W hW).1.map (HFN.out W hW).1.ents (by rw [total_ents, ← htot]; omega)
    rw [total_ents, ← htot] at h0
    refine h0.mono ?_
    rintro e w' ⟨rfl, hb⟩
    exact ⟨rfl, hW.trans (hb.mono hW.size)⟩
  have HFI : Hid (∀ W, Below w2.heap.size w2 W → Calls Try.prog 49 #[.int .i64 ((room : Int) - (tot : Int)), .slice A ts.length c] W fun e w' => e = .returned (.bool fb) ∧ Below w2.heap.size w2 w') := fun W hW => by
    have h0 := fit_any _ (room - tot) A c ts W (HTN.out W hW) (by omega) (by omega) (fun t ht => by have := HV.out t ht; omega)
    rw [show ((room - tot : Nat) : Int) = (room : Int) - (tot : Int) by omega, ← hfb] at h0
    refine h0.mono ?_
    rintro e w' ⟨rfl, rfl⟩
    exact ⟨rfl, hW⟩
  have HFB : Hid (fb = false) := by
    show _ = _
    rw [hfb]
    simp only [decide_eq_false_iff_not]
    omega
  have isub : IntKind.i64.wrap ((room : Int) - (tot : Int)) = (room : Int) - (tot : Int) := by rw [IntKind.wrap_i64]; omega
  obtain ⟨c3, c4⟩ := HCE.out w2 (Below.refl _ _)
  have hrun := look_miss HF2.out.1.map hs (HF2.out.1.hasNot HX.out)
  have i16 : decide ((16 : Int) ≤ (E.length : Int)) = false := by simp only [decide_eq_false_iff_not]; omega
  clear h16
  generalize E.length = el at *
  have HB0 := Lib.hid hb
  have HTOT := Lib.hid htot
  clear hb hfb htot
  have hfb2 := HFB.out
  subst hfb2
  go_wp2_with fail
  refine region_class (fun W => Below w2.heap.size w2 W) (by kernel_rfl) (by kernel_rfl) (Below.refl _ _).drew ?_
  repeat (first
    | go_big_quiet_skip
    | (go_big_quiet_want
       first
        | (go_big_quiet_op; go_big_quiet_on)
        | (refine quiet_len _ 65 rfl _ rfl (fun W hW => HLE.out W hW _) ?_; (try simp only [Act.put, List.setIfInBounds_toArray, List.set_cons_zero, List.set_cons_succ]); go_big_quiet_on)
        | (refine quiet_call 25 _ _ rfl (args := #[.pointer (some ⟨b, 0, none⟩)]) (fun W => by go_simp; done) (fun W hW => HUS.out W hW) ?_; (try simp only [Act.put, List.setIfInBounds_toArray, List.set_cons_zero, List.set_cons_succ]); go_big_quiet_on)
        | (refine quiet_call 49 _ _ rfl (args := #[.int .i64 ((room : Int) - (tot : Int)), .slice A ts.length c]) (fun W => by go_simp; done) (fun W hW => HFI.out W hW) ?_; (try simp only [Act.put, List.setIfInBounds_toArray, List.set_cons_zero, List.set_cons_succ]); go_big_quiet_on)
        | (refine quiet_run (v := ?_) ?_ ?_
           rotate_left
           · (intro W hW; have z := HCE.out W hW; go_simp; first | done | with_reducible rfl)
           (try simp only [Act.put, List.setIfInBounds_toArray, List.set_cons_zero, List.set_cons_succ]); go_big_quiet_on)))
  refine wpQuiet_nil ?_
  intro w3 hw3
  have HF3 := Lib.hid (HFN.out w3 hw3)
  clear hw3
  go_wp2_with fail
  go_ret
  exact ⟨rfl, HF3.out⟩

set_option maxRecDepth 100000 in
set_option maxHeartbeats 2000000 in
theorem write_over2 (S : Nat → Prop) (A : Option Addr) (c : Nat) (ts : List (List Int)) (w : World) (h : Dsk w B b mb n D p room E) (hd : p.spent.down = false) (hs : s.size ≤ maxLen) (hn : IsName s) (hT : TxtAt S w A ts) (hS : ∀ g, g < w.heap.size → S g → ¬ Of b mb E g) (hl : ts.length ≤ 1000000) (hv : ∀ t ∈ ts, t.length ≤ 1000000) (e0 : Ent) (he0 : e0 ∈ E) (hn0 : e0.name = s.data.toList) (ho : room < (E.map fun e => e.bs.length).sum + ts.flatten.length) :
    Calls Try.prog 19 #[.pointer (some ⟨b, 0, none⟩), .string s, .slice A ts.length c] w fun e w' => e = .returned (.int .i64 8) ∧ Did w w' B b mb n D p room E E := by
  have hch := change_any b room mb p w h.blk h.ok
  have he : p.err = 0 := by simp [Pw.err, hd]
  rw [he] at hch
  have HC := Lib.hid hch
  have HD := Lib.hid h
  have HNB := Lib.hid (nameB_yes hn)
  have HT := Lib.hid hT
  have HS := Lib.hid hS
  have HV := Lib.hid hv
  have HE0 := Lib.hid he0
  have HN0 := Lib.hid hn0
  clear he0 hn0
  clear hch h he hd hn hT hS hv
  go_enter Try.func19, Try.ntmps19
  go_wp2_with fail
  refine (HC.out).mono ?_
  rintro e w1 ⟨rfl, h1, h2⟩
  have HF : Hid (Did w w1 B b mb n D p room E E) := ⟨HD.out.power h1 (Pw.spent_ok HD.out.ok) h2, .of_only h2⟩
  have HI := Lib.hid (isName_any s w1 hs)
  rw [HNB.out] at HI
  clear h1 h2
  go_wp2_with fail
  refine (HI.out).mono ?_
  rintro e w2 ⟨rfl, hb⟩
  have HF2 : Hid (Did w w2 B b mb n D p room E E) := ⟨HF.out.1.below hb, HF.out.2.trans (.of_only (Only.of_below hb))⟩
  have HFN : Hid (∀ W, Below w2.heap.size w2 W → Did w W B b mb n D p room E E) := fun W hW => ⟨HF2.out.1.below hW, HF2.out.2.trans (.of_only (Only.of_below hW))⟩
  have HCE : Hid (∀ W, Below w2.heap.size w2 W → W.cell? ⟨b, 3, none⟩ = some (.int .i64 (room : Int)) ∧ W.cell? ⟨b, 4, none⟩ = some (.map (some mb))) := fun W hW => (HFN.out W hW).1.blk.cells.2.2.2
  have HTN : Hid (∀ W, Below w2.heap.size w2 W → TxtAt (fun g => g < w.heap.size ∧ S g) W A ts) := fun W hW => (HT.out.mono fun g hg s => ⟨hg, s⟩).kept (HFN.out W hW).2.size fun g hg s => (HFN.out W hW).2.block g hg (HS.out g hg s.2)
  have hroom := HD.out.most
  have hfit0 := HD.out.fits
  obtain ⟨tot, htot⟩ : ∃ x, x = (E.map fun e => e.bs.length).sum := ⟨_, rfl⟩
  obtain ⟨fb, hfb⟩ : ∃ x, x = decide (ts.flatten.length ≤ room - tot) := ⟨_, rfl⟩
  rw [← htot] at hfit0
  have HUS : Hid (∀ W, Below w2.heap.size w2 W → Calls Try.prog 25 #[.pointer (some ⟨b, 0, none⟩)] W fun e w' => e = .returned (.int .i64 (tot : Int)) ∧ Below w2.heap.size w2 w') := fun W hW => by
    have h0 := used_any b room mb n p.spent D (E.map entOf) W (HFN.out W hW).1.blk (HFN.out W hW).1.map (HFN.out W hW).1.ents (by rw [total_ents, ← htot]; omega)
    rw [total_ents, ← htot] at h0
    refine h0.mono ?_
    rintro e w' ⟨rfl, hb⟩
    exact ⟨rfl, hW.trans (hb.mono hW.size)⟩
  have HFI : Hid (∀ W, Below w2.heap.size w2 W → Calls Try.prog 49 #[.int .i64 ((room : Int) - (tot : Int)), .slice A ts.length c] W fun e w' => e = .returned (.bool fb) ∧ Below w2.heap.size w2 w') := fun W hW => by
    have h0 := fit_any _ (room - tot) A c ts W (HTN.out W hW) (by omega) (by omega) (fun t ht => by have := HV.out t ht; omega)
    rw [show ((room - tot : Nat) : Int) = (room : Int) - (tot : Int) by omega, ← hfb] at h0
    refine h0.mono ?_
    rintro e w' ⟨rfl, rfl⟩
    exact ⟨rfl, hW⟩
  have HFB : Hid (fb = false) := by
    show _ = _
    rw [hfb]
    simp only [decide_eq_false_iff_not]
    omega
  have isub : IntKind.i64.wrap ((room : Int) - (tot : Int)) = (room : Int) - (tot : Int) := by rw [IntKind.wrap_i64]; omega
  obtain ⟨c3, c4⟩ := HCE.out w2 (Below.refl _ _)
  have hl0 := HF2.out.1.leads e0 HE0.out
  rw [HN0.out] at hl0
  have hrun := look_hit HF2.out.1.map hs hl0
  clear hl0
  have HB0 := Lib.hid hb
  have HTOT := Lib.hid htot
  clear hb hfb htot
  have hfb2 := HFB.out
  subst hfb2
  go_wp2_with fail
  refine region_class (fun W => Below w2.heap.size w2 W) (by kernel_rfl) (by kernel_rfl) (Below.refl _ _).drew ?_
  repeat (first
    | go_big_quiet_skip
    | (go_big_quiet_want
       first
        | (go_big_quiet_op; go_big_quiet_on)
        | (refine quiet_call 25 _ _ rfl (args := #[.pointer (some ⟨b, 0, none⟩)]) (fun W => by go_simp; done) (fun W hW => HUS.out W hW) ?_; (try simp only [Act.put, List.setIfInBounds_toArray, List.set_cons_zero, List.set_cons_succ]); go_big_quiet_on)
        | (refine quiet_call 49 _ _ rfl (args := #[.int .i64 ((room : Int) - (tot : Int)), .slice A ts.length c]) (fun W => by go_simp; done) (fun W hW => HFI.out W hW) ?_; (try simp only [Act.put, List.setIfInBounds_toArray, List.set_cons_zero, List.set_cons_succ]); go_big_quiet_on)
        | (refine quiet_run (v := ?_) ?_ ?_
           rotate_left
           · (intro W hW; have z := HCE.out W hW; go_simp; first | done | with_reducible rfl)
           (try simp only [Act.put, List.setIfInBounds_toArray, List.set_cons_zero, List.set_cons_succ]); go_big_quiet_on)))
  refine wpQuiet_nil ?_
  intro w3 hw3
  have HF3 := Lib.hid (HFN.out w3 hw3)
  clear hw3
  go_wp2_with fail
  go_ret
  exact ⟨rfl, HF3.out⟩

set_option maxRecDepth 100000 in
set_option maxHeartbeats 2000000 in
theorem write_add (S : Nat → Prop) (A : Option Addr) (c : Nat) (ts : List (List Int)) (w : World) (h : Dsk w B b mb n D p room E) (hd : p.spent.down = false) (hs : s.size ≤ maxLen) (hn : IsName s) (hT : TxtAt S w A ts) (hS : ∀ g, g < w.heap.size → S g → ¬ Of b mb E g) (hl : ts.length ≤ 1000000) (hv : ∀ t ∈ ts, t.length ≤ 1000000) (e0 : Ent) (he0 : e0 ∈ E) (hn0 : e0.name = s.data.toList) (hB : B ≤ w.heap.size) (ho : (E.map fun e => e.bs.length).sum + ts.flatten.length ≤ room) :
    Calls Try.prog 19 #[.pointer (some ⟨b, 0, none⟩), .string s, .slice A ts.length c] w fun e w' => e = .returned (.int .i64 0) ∧ ∃ v, Did w w' B b mb n D p room E (setE E e0.name v (e0.bs ++ ts.flatten) e0.firm) := by
  have hch := change_any b room mb p w h.blk h.ok
  have he : p.err = 0 := by simp [Pw.err, hd]
  rw [he] at hch
  have HC := Lib.hid hch
  have HD := Lib.hid h
  have HNB := Lib.hid (nameB_yes hn)
  have HT := Lib.hid hT
  have HS := Lib.hid hS
  have HV := Lib.hid hv
  have HE0 := Lib.hid he0
  have HN0 := Lib.hid hn0
  clear he0 hn0
  clear hch h he hd hn hT hS hv
  go_enter Try.func19, Try.ntmps19
  go_wp2_with fail
  refine (HC.out).mono ?_
  rintro e w1 ⟨rfl, h1, h2⟩
  have HF : Hid (Did w w1 B b mb n D p room E E) := ⟨HD.out.power h1 (Pw.spent_ok HD.out.ok) h2, .of_only h2⟩
  have HI := Lib.hid (isName_any s w1 hs)
  rw [HNB.out] at HI
  clear h1 h2
  go_wp2_with fail
  refine (HI.out).mono ?_
  rintro e w2 ⟨rfl, hb⟩
  have HF2 : Hid (Did w w2 B b mb n D p room E E) := ⟨HF.out.1.below hb, HF.out.2.trans (.of_only (Only.of_below hb))⟩
  have HFN : Hid (∀ W, Below w2.heap.size w2 W → Did w W B b mb n D p room E E) := fun W hW => ⟨HF2.out.1.below hW, HF2.out.2.trans (.of_only (Only.of_below hW))⟩
  have HCE : Hid (∀ W, Below w2.heap.size w2 W → W.cell? ⟨b, 3, none⟩ = some (.int .i64 (room : Int)) ∧ W.cell? ⟨b, 4, none⟩ = some (.map (some mb))) := fun W hW => (HFN.out W hW).1.blk.cells.2.2.2
  have HTN : Hid (∀ W, Below w2.heap.size w2 W → TxtAt (fun g => g < w.heap.size ∧ S g) W A ts) := fun W hW => (HT.out.mono fun g hg s => ⟨hg, s⟩).kept (HFN.out W hW).2.size fun g hg s => (HFN.out W hW).2.block g hg (HS.out g hg s.2)
  have hroom := HD.out.most
  have hfit0 := HD.out.fits
  obtain ⟨tot, htot⟩ : ∃ x, x = (E.map fun e => e.bs.length).sum := ⟨_, rfl⟩
  obtain ⟨fb, hfb⟩ : ∃ x, x = decide (ts.flatten.length ≤ room - tot) := ⟨_, rfl⟩
  rw [← htot] at hfit0
  have HUS : Hid (∀ W, Below w2.heap.size w2 W → Calls Try.prog 25 #[.pointer (some ⟨b, 0, none⟩)] W fun e w' => e = .returned (.int .i64 (tot : Int)) ∧ Below w2.heap.size w2 w') := fun W hW => by
    have h0 := used_any b room mb n p.spent D (E.map entOf) W (HFN.out W hW).1.blk (HFN.out W hW).1.map (HFN.out W hW).1.ents (by rw [total_ents, ← htot]; omega)
    rw [total_ents, ← htot] at h0
    refine h0.mono ?_
    rintro e w' ⟨rfl, hb⟩
    exact ⟨rfl, hW.trans (hb.mono hW.size)⟩
  have HFI : Hid (∀ W, Below w2.heap.size w2 W → Calls Try.prog 49 #[.int .i64 ((room : Int) - (tot : Int)), .slice A ts.length c] W fun e w' => e = .returned (.bool fb) ∧ Below w2.heap.size w2 w') := fun W hW => by
    have h0 := fit_any _ (room - tot) A c ts W (HTN.out W hW) (by omega) (by omega) (fun t ht => by have := HV.out t ht; omega)
    rw [show ((room - tot : Nat) : Int) = (room : Int) - (tot : Int) by omega, ← hfb] at h0
    refine h0.mono ?_
    rintro e w' ⟨rfl, rfl⟩
    exact ⟨rfl, hW⟩
  have HFB : Hid (fb = true) := by
    show _ = _
    rw [hfb]
    simp only [decide_eq_true_eq]
    omega
  have isub : IntKind.i64.wrap ((room : Int) - (tot : Int)) = (room : Int) - (tot : Int) := by rw [IntKind.wrap_i64]; omega
  obtain ⟨c3, c4⟩ := HCE.out w2 (Below.refl _ _)
  have hl0 := HF2.out.1.leads e0 HE0.out
  rw [HN0.out] at hl0
  have hrun := look_hit HF2.out.1.map hs hl0
  clear hl0
  have HB0 := Lib.hid hb
  have HTOT := Lib.hid htot
  clear hb hfb htot
  have hfb2 := HFB.out
  subst hfb2
  go_wp2_with fail
  refine region_class (fun W => Below w2.heap.size w2 W) (by kernel_rfl) (by kernel_rfl) (Below.refl _ _).drew ?_
  repeat (first
    | go_big_quiet_skip
    | (go_big_quiet_want
       first
        | (go_big_quiet_op; go_big_quiet_on)
        | (refine quiet_call 25 _ _ rfl (args := #[.pointer (some ⟨b, 0, none⟩)]) (fun W => by go_simp; done) (fun W hW => HUS.out W hW) ?_; (try simp only [Act.put, List.setIfInBounds_toArray, List.set_cons_zero, List.set_cons_succ]); go_big_quiet_on)
        | (refine quiet_call 49 _ _ rfl (args := #[.int .i64 ((room : Int) - (tot : Int)), .slice A ts.length c]) (fun W => by go_simp; done) (fun W hW => HFI.out W hW) ?_; (try simp only [Act.put, List.setIfInBounds_toArray, List.set_cons_zero, List.set_cons_succ]); go_big_quiet_on)
        | (refine quiet_run (v := ?_) ?_ ?_
           rotate_left
           · (intro W hW; have z := HCE.out W hW; go_simp; first | done | with_reducible rfl)
           (try simp only [Act.put, List.setIfInBounds_toArray, List.set_cons_zero, List.set_cons_succ]); go_big_quiet_on)))
  refine wpQuiet_nil ?_
  intro w3 hw3
  have hF3 := HFN.out w3 hw3
  have hsz := hF3.2.size
  have hle0 := le_sum HE0.out
  have HAD := Lib.hid (add_any _ B e0.blk e0.firm e0.val e0.bs A c ts w3 (hF3.1.file e0 HE0.out) (by omega) (HTN.out w3 hw3) (fun g _ hg => by
      have hno := HS.out g hg.1 hg.2
      exact ⟨fun e => hno (.inr (.inr ⟨e0, HE0.out, .inl e⟩)), fun e => hno (.inr (.inr ⟨e0, HE0.out, .inr e.symm⟩))⟩) hl (by have := HTOT.out; omega))
  have HF3 := Lib.hid hF3
  clear hw3 hF3 hsz hle0
  go_wp2_with fail
  refine (HAD.out).mono ?_
  rintro e w4 ⟨rfl, v', hf4, hc4⟩
  have HR : Hid (∃ v, Did w w4 B b mb n D p room E (setE E e0.name v (e0.bs ++ ts.flatten) e0.firm)) := by
    refine ⟨v', HF3.out.1.one HE0.out hf4 hc4 ?_, HF3.out.2.trans (.of_add HE0.out hc4)⟩
    have := setE_sum (x := e0.name) (v := v') (bs := e0.bs ++ ts.flatten) (firm := e0.firm) HF3.out.1.once HE0.out rfl
    rw [List.length_append] at this
    have := HTOT.out
    omega
  clear hf4 hc4
  go_wp2_with fail
  go_ret
  exact ⟨rfl, HR.out⟩

end

end Go.Proofs.Ytchedflfinkppaa
