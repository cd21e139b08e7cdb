/-
  The contract of Write, where nothing is written.
-/
import Derived.Test.YtchedflfinkppaaQuiet
import Derived.Test.YtchedflfinkppaaDsk345
import Derived.Test.YtchedflfinkppaaIsName
import Derived.Test.YtchedflfinkppaaStrClone
import Derived.Deep.RegionHeld3
namespace Go.Proofs.Ytchedflfinkppaa
open Go.RowKit Go.Maps Go.BigFrame

section
variable (B b mb n : Nat) (D : DataW Unit) (p : Pw) (room : Nat) (E : List Ent) (s : ByteArray)

set_option maxHeartbeats 400000 in
theorem write_down (A : Option Addr) (l c : Nat) (w : World) (h : Dsk w B b mb n D p room E) (hd : p.spent.down = true) :
    Calls Try.prog 19 #[.pointer (some ⟨b, 0, none⟩), .string s, .slice A l c] w fun e w' => e = .returned (.int .i64 9) ∧ Did w w' B b mb n D p room E E := by
  have hch := change_any b room mb p w h.blk h.ok
  have he : p.err = 9 := by simp [Pw.err, hd]
  rw [he] at hch
  have HC := Lib.hid hch
  have HD := Lib.hid h
  clear hch h he hd
  go_enter Try.func19, Try.ntmps19
  go_wp2_with fail
  refine (HC.out).mono ?_
  rintro e w' ⟨rfl, h1, h2⟩
  have HF : Hid (Did w w' B b mb n D p room E E) := ⟨HD.out.power h1 (Pw.spent_ok HD.out.ok) h2, .of_only h2⟩
  clear h1 h2
  go_wp2_with fail
  go_ret
  exact ⟨rfl, HF.out⟩

set_option maxHeartbeats 400000 in
theorem write_form (A : Option Addr) (l c : Nat) (w : World) (h : Dsk w B b mb n D p room E) (hd : p.spent.down = false) (hs : s.size ≤ maxLen) (hn : ¬ IsName s) :
    Calls Try.prog 19 #[.pointer (some ⟨b, 0, none⟩), .string s, .slice A l c] w fun e w' => e = .returned (.int .i64 4) ∧ Did w w' B b mb n D p room E E := by
  have hch := change_any b room mb p w h.blk h.ok
  have he : p.err = 0 := by simp [Pw.err, hd]
  rw [he] at hch
  have HC := Lib.hid hch
  have HD := Lib.hid h
  have HNB := Lib.hid (nameB_no hn)
  clear hch h he hd hn
  go_enter Try.func19, Try.ntmps19
  go_wp2_with fail
  refine (HC.out).mono ?_
  rintro e w1 ⟨rfl, h1, h2⟩
  have HF : Hid (Did w w1 B b mb n D p room E E) := ⟨HD.out.power h1 (Pw.spent_ok HD.out.ok) h2, .of_only h2⟩
  have HI := Lib.hid (isName_any s w1 hs)
  rw [HNB.out] at HI
  clear h1 h2
  go_wp2_with fail
  refine (HI.out).mono ?_
  rintro e w2 ⟨rfl, hb⟩
  have HF2 : Hid (Did w w2 B b mb n D p room E E) := ⟨HF.out.1.below hb, HF.out.2.trans (.of_only (Only.of_below hb))⟩
  clear hb
  go_wp2_with fail
  go_ret
  exact ⟨rfl, HF2.out⟩

set_option maxRecDepth 100000 in
set_option maxHeartbeats 1000000 in
/-- there are as many files as there may be -/
theorem write_most (A : Option Addr) (l c : Nat) (w : World) (h : Dsk w B b mb n D p room E) (hd : p.spent.down = false) (hs : s.size ≤ maxLen) (hn : IsName s) (hx : ∀ e ∈ E, e.name ≠ s.data.toList) (h16 : 16 ≤ E.length) :
    Calls Try.prog 19 #[.pointer (some ⟨b, 0, none⟩), .string s, .slice A l c] w fun e w' => e = .returned (.int .i64 8) ∧ Did w w' B b mb n D p room E E := by
  have hch := change_any b room mb p w h.blk h.ok
  have he : p.err = 0 := by simp [Pw.err, hd]
  rw [he] at hch
  have HC := Lib.hid hch
  have HD := Lib.hid h
  have HNB := Lib.hid (nameB_yes hn)
  have HX := Lib.hid hx
  clear hch h he hd hn hx
  go_enter Try.func19, Try.ntmps19
  go_wp2_with fail
  refine (HC.out).mono ?_
  rintro e w1 ⟨rfl, h1, h2⟩
  have HF : Hid (Did w w1 B b mb n D p room E E) := ⟨HD.out.power h1 (Pw.spent_ok HD.out.ok) h2, .of_only h2⟩
  have HI := Lib.hid (isName_any s w1 hs)
  rw [HNB.out] at HI
  clear h1 h2
  go_wp2_with fail
  refine (HI.out).mono ?_
  rintro e w2 ⟨rfl, hb⟩
  have HF2 : Hid (Did w w2 B b mb n D p room E E) := ⟨HF.out.1.below hb, HF.out.2.trans (.of_only (Only.of_below hb))⟩
  have HFN : Hid (∀ W, Below w2.heap.size w2 W → Did w W B b mb n D p room E E) := fun W hW => ⟨HF2.out.1.below hW, HF2.out.2.trans (.of_only (Only.of_below hW))⟩
  have HCE : Hid (∀ W, Below w2.heap.size w2 W → W.cell? ⟨b, 3, none⟩ = some (.int .i64 (room : Int)) ∧ W.cell? ⟨b, 4, none⟩ = some (.map (some mb))) := fun W hW => (HFN.out W hW).1.blk.cells.2.2.2
  have HLE : Hid (∀ W, Below w2.heap.size w2 W → ∀ ty, (Builtin.len_ #[65] ty #[.map (some mb)]).run Try.prog W = .ok (.int .i64 (E.length : Int)) W) := fun W hW ty => by
    have := (HFN.out W hW).1.map.len Try.underlying65 ty
    rw [(HFN.out W hW).1.count] at this
    exact this
  obtain ⟨c3, c4⟩ := HCE.out w2 (Below.refl _ _)
  have hrun := look_miss HF2.out.1.map hs (HF2.out.1.hasNot HX.out)
  have i1 : (16 : Int) ≤ (E.length : Int) := by omega
  clear hb h16
  generalize E.length = el at *
  go_wp2_with fail
  refine region_class (fun W => Below w2.heap.size w2 W) (by kernel_rfl) (by kernel_rfl) (Below.refl _ _).drew ?_
  repeat (first
    | go_big_quiet_skip
    | (go_big_quiet_want
       first
        | (go_big_quiet_op; go_big_quiet_on)
        | (refine quiet_len _ 65 rfl _ rfl (fun W hW => HLE.out W hW _) ?_; (try simp only [Act.put, List.setIfInBounds_toArray, List.set_cons_zero, List.set_cons_succ]); go_big_quiet_on)
        | (refine quiet_run (v := ?_) ?_ ?_
           rotate_left
           · (intro W hW; have z := HCE.out W hW; go_simp; first | done | with_reducible rfl)
           (try simp only [Act.put, List.setIfInBounds_toArray, List.set_cons_zero, List.set_cons_succ]); go_big_quiet_on)))
  refine wpQuiet_nil ?_
  intro w3 hw3
  have HF3 := Lib.hid (HFN.out w3 hw3)
  go_wp2_with fail
  go_ret
  exact ⟨rfl, HF3.out⟩

end

end Go.Proofs.Ytchedflfinkppaa

/-
  The contract of Write, where the bytes don't fit, and where they are written.
-/
namespace Go.Proofs.Ytchedflfinkppaa
open Go.RowKit Go.Maps Go.BigFrame

section
variable (B b mb n : Nat) (D : DataW Unit) (p : Pw) (room : Nat) (E : List Ent) (s : ByteArray)

set_option maxRecDepth 100000 in
set_option maxHeartbeats 2000000 in
theorem write_over (S : Nat → Prop) (A : Option Addr) (c : Nat) (ts : List (List Int)) (w : World) (h : Dsk w B b mb n D p room E) (hd : p.spent.down = false) (hs : s.size ≤ maxLen) (hn : IsName s) (hT : TxtAt S w A ts) (hS : ∀ g, g < w.heap.size → S g → ¬ Of b mb E g) (hl : ts.length ≤ 1000000) (hv : ∀ t ∈ ts, t.length ≤ 1000000) (hx : ∀ e ∈ E, e.name ≠ s.data.toList) (h16 : E.length < 16) (ho : room < (E.map fun e => e.bs.length).sum + ts.flatten.length) :
    Calls Try.prog 19 #[.pointer (some ⟨b, 0, none⟩), .string s, .slice A ts.length c] w fun e w' => e = .returned (.int .i64 8) ∧ Did w w' B b mb n D p room E E := by
  have hch := change_any b room mb p w h.blk h.ok
  have he : p.err = 0 := by simp [Pw.err, hd]
  rw [he] at hch
  have HC := Lib.hid hch
  have HD := Lib.hid h
  have HNB := Lib.hid (nameB_yes hn)
  have HT := Lib.hid hT
  have HS := Lib.hid hS
  have HV := Lib.hid hv
  have HX := Lib.hid hx
  clear hx
  clear hch h he hd hn hT hS hv
  go_enter Try.func19, Try.ntmps19
  go_wp2_with fail
  refine (HC.out).mono ?_
  rintro e w1 ⟨rfl, h1, h2⟩
  have HF : Hid (Did w w1 B b mb n D p room E E) := ⟨HD.out.power h1 (Pw.spent_ok HD.out.ok) h2, .of_only h2⟩
  have HI := Lib.hid (isName_any s w1 hs)
  rw [HNB.out] at HI
  clear h1 h2
  go_wp2_with fail
  refine (HI.out).mono ?_
  rintro e w2 ⟨rfl, hb⟩
  have HF2 : Hid (Did w w2 B b mb n D p room E E) := ⟨HF.out.1.below hb, HF.out.2.trans (.of_only (Only.of_below hb))⟩
  have HFN : Hid (∀ W, Below w2.heap.size w2 W → Did w W B b mb n D p room E E) := fun W hW => ⟨HF2.out.1.below hW, HF2.out.2.trans (.of_only (Only.of_below hW))⟩
  have HCE : Hid (∀ W, Below w2.heap.size w2 W → W.cell? ⟨b, 3, none⟩ = some (.int .i64 (room : Int)) ∧ W.cell? ⟨b, 4, none⟩ = some (.map (some mb))) := fun W hW => (HFN.out W hW).1.blk.cells.2.2.2
  have HTN : Hid (∀ W, Below w2.heap.size w2 W → TxtAt (fun g => g < w.heap.size ∧ S g) W A ts) := fun W hW => (HT.out.mono fun g hg s => ⟨hg, s⟩).kept (HFN.out W hW).2.size fun g hg s => (HFN.out W hW).2.block g hg (HS.out g hg s.2)
  have HLE : Hid (∀ W, Below w2.heap.size w2 W → ∀ ty, (Builtin.len_ #[65] ty #[.map (some mb)]).run Try.prog W = .ok (.int .i64 (E.length : Int)) W) := fun W hW ty => by
    have := (HFN.out W hW).1.map.len Try.underlying65 ty
    rw [(HFN.out W hW).1.count] at this
    exact this
  have hroom := HD.out.most
  have hfit0 := HD.out.fits
  obtain ⟨tot, htot⟩ : ∃ x, x = (E.map fun e => e.bs.length).sum := ⟨_, rfl⟩
  obtain ⟨fb, hfb⟩ : ∃ x, x = decide (ts.flatten.length ≤ room - tot) := ⟨_, rfl⟩
  rw [← htot] at hfit0
  have HUS : Hid (∀ W, Below w2.heap.size w2 W → Calls Try.prog 25 #[.pointer (some ⟨b, 0, none⟩)] W fun e w' => e = .returned (.int .i64 (tot : Int)) ∧ Below w2.heap.size w2 w') := fun W hW => by
    have h0 := used_any b room mb n p.spent D (E.map entOf) W (HFN.out W hW).1.blk (HFN.out W hW).1.map (HFN.out W hW).1.ents (by rw [total_ents, ← htot]; omega)
    rw [total_ents, ← htot] at h0
    refine h0.mono ?_
    rintro e w' ⟨rfl, hb⟩
    exact ⟨rfl, hW.trans (hb.mono hW.size)⟩
  have HFI : Hid (∀ W, Below w2.heap.size w2 W → Calls Try.prog 49 #[.int .i64 ((room : Int) - (tot : Int)), .slice A ts.length c] W fun e w' => e = .returned (.bool fb) ∧ Below w2.heap.size w2 w') := fun W hW => by
    have h0 := fit_any _ (room - tot) A c ts W (HTN.out W hW) (by omega) (by omega) (fun t ht => by have := HV.out t ht; omega)
    rw [show ((room - tot : Nat) : Int) = (room : Int) - (tot : Int) by omega, ← hfb] at h0
    refine h0.mono ?_
    rintro e w' ⟨rfl, rfl⟩
    exact ⟨rfl, hW⟩
  have HFB : Hid (fb = false) := by
    show _ = _
    rw [hfb]
    simp only [decide_eq_false_iff_not]
    omega
  have isub : IntKind.i64.wrap ((room : Int) - (tot : Int)) = (room : Int) - (tot : Int) := by rw [IntKind.wrap_i64]; omega
  obtain ⟨c3, c4⟩ := HCE.out w2 (Below.refl _ _)
  have hrun := look_miss HF2.out.1.map hs (HF2.out.1.hasNot HX.out)
  have i16 : decide ((16 : Int) ≤ (E.length : Int)) = false := by simp only [decide_eq_false_iff_not]; omega
  clear h16
  generalize E.length = el at *
  have HB0 := Lib.hid hb
  have HTOT := Lib.hid htot
  clear hb hfb htot
  have hfb2 := HFB.out
  subst hfb2
  go_wp2_with fail
  refine region_class (fun W => Below w2.heap.size w2 W) (by kernel_rfl) (by kernel_rfl) (Below.refl _ _).drew ?_
  repeat (first
    | go_big_quiet_skip
    | (go_big_quiet_want
       first
        | (go_big_quiet_op; go_big_quiet_on)
        | (refine quiet_len _ 65 rfl _ rfl (fun W hW => HLE.out W hW _) ?_; (try simp only [Act.put, List.setIfInBounds_toArray, List.set_cons_zero, List.set_cons_succ]); go_big_quiet_on)
        | (refine quiet_call 25 _ _ rfl (args := #[.pointer (some ⟨b, 0, none⟩)]) (fun W => by go_simp; done) (fun W hW => HUS.out W hW) ?_; (try simp only [Act.put, List.setIfInBounds_toArray, List.set_cons_zero, List.set_cons_succ]); go_big_quiet_on)
        | (refine quiet_call 49 _ _ rfl (args := #[.int .i64 ((room : Int) - (tot : Int)), .slice A ts.length c]) (fun W => by go_simp; done) (fun W hW => HFI.out W hW) ?_; (try simp only [Act.put, List.setIfInBounds_toArray, List.set_cons_zero, List.set_cons_succ]); go_big_quiet_on)
        | (refine quiet_run (v := ?_) ?_ ?_
           rotate_left
           · (intro W hW; have z := HCE.out W hW; go_simp; first | done | with_reducible rfl)
           (try simp only [Act.put, List.setIfInBounds_toArray, List.set_cons_zero, List.set_cons_succ]); go_big_quiet_on)))
  refine wpQuiet_nil ?_
  intro w3 hw3
  have HF3 := Lib.hid (HFN.out w3 hw3)
  clear hw3
  go_wp2_with fail
  go_ret
  exact ⟨rfl, HF3.out⟩

set_option maxRecDepth 100000 in
set_option maxHeartbeats 2000000 in
theorem write_over2 (S : Nat → Prop) (A : Option Addr) (c : Nat) (ts : List (List Int)) (w : World) (h : Dsk w B b mb n D p room E) (hd : p.spent.down = false) (hs : s.size ≤ maxLen) (hn : IsName s) (hT : TxtAt S w A ts) (hS : ∀ g, g < w.heap.size → S g → ¬ Of b mb E g) (hl : ts.length ≤ 1000000) (hv : ∀ t ∈ ts, t.length ≤ 1000000) (e0 : Ent) (he0 : e0 ∈ E) (hn0 : e0.name = s.data.toList) (ho : room < (E.map fun e => e.bs.length).sum + ts.flatten.length) :
    Calls Try.prog 19 #[.pointer (some ⟨b, 0, none⟩), .string s, .slice A ts.length c] w fun e w' => e = .returned (.int .i64 8) ∧ Did w w' B b mb n D p room E E := by
  have hch := change_any b room mb p w h.blk h.ok
  have he : p.err = 0 := by simp [Pw.err, hd]
  rw [he] at hch
  have HC := Lib.hid hch
  have HD := Lib.hid h
  have HNB := Lib.hid (nameB_yes hn)
  have HT := Lib.hid hT
  have HS := Lib.hid hS
  have HV := Lib.hid hv
  have HE0 := Lib.hid he0
  have HN0 := Lib.hid hn0
  clear he0 hn0
  clear hch h he hd hn hT hS hv
  go_enter Try.func19, Try.ntmps19
  go_wp2_with fail
  refine (HC.out).mono ?_
  rintro e w1 ⟨rfl, h1, h2⟩
  have HF : Hid (Did w w1 B b mb n D p room E E) := ⟨HD.out.power h1 (Pw.spent_ok HD.out.ok) h2, .of_only h2⟩
  have HI := Lib.hid (isName_any s w1 hs)
  rw [HNB.out] at HI
  clear h1 h2
  go_wp2_with fail
  refine (HI.out).mono ?_
  rintro e w2 ⟨rfl, hb⟩
  have HF2 : Hid (Did w w2 B b mb n D p room E E) := ⟨HF.out.1.below hb, HF.out.2.trans (.of_only (Only.of_below hb))⟩
  have HFN : Hid (∀ W, Below w2.heap.size w2 W → Did w W B b mb n D p room E E) := fun W hW => ⟨HF2.out.1.below hW, HF2.out.2.trans (.of_only (Only.of_below hW))⟩
  have HCE : Hid (∀ W, Below w2.heap.size w2 W → W.cell? ⟨b, 3, none⟩ = some (.int .i64 (room : Int)) ∧ W.cell? ⟨b, 4, none⟩ = some (.map (some mb))) := fun W hW => (HFN.out W hW).1.blk.cells.2.2.2
  have HTN : Hid (∀ W, Below w2.heap.size w2 W → TxtAt (fun g => g < w.heap.size ∧ S g) W A ts) := fun W hW => (HT.out.mono fun g hg s => ⟨hg, s⟩).kept (HFN.out W hW).2.size fun g hg s => (HFN.out W hW).2.block g hg (HS.out g hg s.2)
  have hroom := HD.out.most
  have hfit0 := HD.out.fits
  obtain ⟨tot, htot⟩ : ∃ x, x = (E.map fun e => e.bs.length).sum := ⟨_, rfl⟩
  obtain ⟨fb, hfb⟩ : ∃ x, x = decide (ts.flatten.length ≤ room - tot) := ⟨_, rfl⟩
  rw [← htot] at hfit0
  have HUS : Hid (∀ W, Below w2.heap.size w2 W → Calls Try.prog 25 #[.pointer (some ⟨b, 0, none⟩)] W fun e w' => e = .returned (.int .i64 (tot : Int)) ∧ Below w2.heap.size w2 w') := fun W hW => by
    have h0 := used_any b room mb n p.spent D (E.map entOf) W (HFN.out W hW).1.blk (HFN.out W hW).1.map (HFN.out W hW).1.ents (by rw [total_ents, ← htot]; omega)
    rw [total_ents, ← htot] at h0
    refine h0.mono ?_
    rintro e w' ⟨rfl, hb⟩
    exact ⟨rfl, hW.trans (hb.mono hW.size)⟩
  have HFI : Hid (∀ W, Below w2.heap.size w2 W → Calls Try.prog 49 #[.int .i64 ((room : Int) - (tot : Int)), .slice A ts.length c] W fun e w' => e = .returned (.bool fb) ∧ Below w2.heap.size w2 w') := fun W hW => by
    have h0 := fit_any _ (room - tot) A c ts W (HTN.out W hW) (by omega) (by omega) (fun t ht => by have := HV.out t ht; omega)
    rw [show ((room - tot : Nat) : Int) = (room : Int) - (tot : Int) by omega, ← hfb] at h0
    refine h0.mono ?_
    rintro e w' ⟨rfl, rfl⟩
    exact ⟨rfl, hW⟩
  have HFB : Hid (fb = false) := by
    show _ = _
    rw [hfb]
    simp only [decide_eq_false_iff_not]
    omega
  have isub : IntKind.i64.wrap ((room : Int) - (tot : Int)) = (room : Int) - (tot : Int) := by rw [IntKind.wrap_i64]; omega
  obtain ⟨c3, c4⟩ := HCE.out w2 (Below.refl _ _)
  have hl0 := HF2.out.1.leads e0 HE0.out
  rw [HN0.out] at hl0
  have hrun := look_hit HF2.out.1.map hs hl0
  clear hl0
  have HB0 := Lib.hid hb
  have HTOT := Lib.hid htot
  clear hb hfb htot
  have hfb2 := HFB.out
  subst hfb2
  go_wp2_with fail
  refine region_class (fun W => Below w2.heap.size w2 W) (by kernel_rfl) (by kernel_rfl) (Below.refl _ _).drew ?_
  repeat (first
    | go_big_quiet_skip
    | (go_big_quiet_want
       first
        | (go_big_quiet_op; go_big_quiet_on)
        | (refine quiet_call 25 _ _ rfl (args := #[.pointer (some ⟨b, 0, none⟩)]) (fun W => by go_simp; done) (fun W hW => HUS.out W hW) ?_; (try simp only [Act.put, List.setIfInBounds_toArray, List.set_cons_zero, List.set_cons_succ]); go_big_quiet_on)
        | (refine quiet_call 49 _ _ rfl (args := #[.int .i64 ((room : Int) - (tot : Int)), .slice A ts.length c]) (fun W => by go_simp; done) (fun W hW => HFI.out W hW) ?_; (try simp only [Act.put, List.setIfInBounds_toArray, List.set_cons_zero, List.set_cons_succ]); go_big_quiet_on)
        | (refine quiet_run (v := ?_) ?_ ?_
           rotate_left
           · (intro W hW; have z := HCE.out W hW; go_simp; first | done | with_reducible rfl)
           (try simp only [Act.put, List.setIfInBounds_toArray, List.set_cons_zero, List.set_cons_succ]); go_big_quiet_on)))
  refine wpQuiet_nil ?_
  intro w3 hw3
  have HF3 := Lib.hid (HFN.out w3 hw3)
  clear hw3
  go_wp2_with fail
  go_ret
  exact ⟨rfl, HF3.out⟩

set_option maxRecDepth 100000 in
set_option maxHeartbeats 2000000 in
theorem write_add (S : Nat → Prop) (A : Option Addr) (c : Nat) (ts : List (List Int)) (w : World) (h : Dsk w B b mb n D p room E) (hd : p.spent.down = false) (hs : s.size ≤ maxLen) (hn : IsName s) (hT : TxtAt S w A ts) (hS : ∀ g, g < w.heap.size → S g → ¬ Of b mb E g) (hl : ts.length ≤ 1000000) (hv : ∀ t ∈ ts, t.length ≤ 1000000) (e0 : Ent) (he0 : e0 ∈ E) (hn0 : e0.name = s.data.toList) (hB : B ≤ w.heap.size) (ho : (E.map fun e => e.bs.length).sum + ts.flatten.length ≤ room) :
    Calls Try.prog 19 #[.pointer (some ⟨b, 0, none⟩), .string s, .slice A ts.length c] w fun e w' => e = .returned (.int .i64 0) ∧ ∃ v, Did w w' B b mb n D p room E (setE E e0.name v (e0.bs ++ ts.flatten) e0.firm) := by
  have hch := change_any b room mb p w h.blk h.ok
  have he : p.err = 0 := by simp [Pw.err, hd]
  rw [he] at hch
  have HC := Lib.hid hch
  have HD := Lib.hid h
  have HNB := Lib.hid (nameB_yes hn)
  have HT := Lib.hid hT
  have HS := Lib.hid hS
  have HV := Lib.hid hv
  have HE0 := Lib.hid he0
  have HN0 := Lib.hid hn0
  clear he0 hn0
  clear hch h he hd hn hT hS hv
  go_enter Try.func19, Try.ntmps19
  go_wp2_with fail
  refine (HC.out).mono ?_
  rintro e w1 ⟨rfl, h1, h2⟩
  have HF : Hid (Did w w1 B b mb n D p room E E) := ⟨HD.out.power h1 (Pw.spent_ok HD.out.ok) h2, .of_only h2⟩
  have HI := Lib.hid (isName_any s w1 hs)
  rw [HNB.out] at HI
  clear h1 h2
  go_wp2_with fail
  refine (HI.out).mono ?_
  rintro e w2 ⟨rfl, hb⟩
  have HF2 : Hid (Did w w2 B b mb n D p room E E) := ⟨HF.out.1.below hb, HF.out.2.trans (.of_only (Only.of_below hb))⟩
  have HFN : Hid (∀ W, Below w2.heap.size w2 W → Did w W B b mb n D p room E E) := fun W hW => ⟨HF2.out.1.below hW, HF2.out.2.trans (.of_only (Only.of_below hW))⟩
  have HCE : Hid (∀ W, Below w2.heap.size w2 W → W.cell? ⟨b, 3, none⟩ = some (.int .i64 (room : Int)) ∧ W.cell? ⟨b, 4, none⟩ = some (.map (some mb))) := fun W hW => (HFN.out W hW).1.blk.cells.2.2.2
  have HTN : Hid (∀ W, Below w2.heap.size w2 W → TxtAt (fun g => g < w.heap.size ∧ S g) W A ts) := fun W hW => (HT.out.mono fun g hg s => ⟨hg, s⟩).kept (HFN.out W hW).2.size fun g hg s => (HFN.out W hW).2.block g hg (HS.out g hg s.2)
  have hroom := HD.out.most
  have hfit0 := HD.out.fits
  obtain ⟨tot, htot⟩ : ∃ x, x = (E.map fun e => e.bs.length).sum := ⟨_, rfl⟩
  obtain ⟨fb, hfb⟩ : ∃ x, x = decide (ts.flatten.length ≤ room - tot) := ⟨_, rfl⟩
  rw [← htot] at hfit0
  have HUS : Hid (∀ W, Below w2.heap.size w2 W → Calls Try.prog 25 #[.pointer (some ⟨b, 0, none⟩)] W fun e w' => e = .returned (.int .i64 (tot : Int)) ∧ Below w2.heap.size w2 w') := fun W hW => by
    have h0 := used_any b room mb n p.spent D (E.map entOf) W (HFN.out W hW).1.blk (HFN.out W hW).1.map (HFN.out W hW).1.ents (by rw [total_ents, ← htot]; omega)
    rw [total_ents, ← htot] at h0
    refine h0.mono ?_
    rintro e w' ⟨rfl, hb⟩
    exact ⟨rfl, hW.trans (hb.mono hW.size)⟩
  have HFI : Hid (∀ W, Below w2.heap.size w2 W → Calls Try.prog 49 #[.int .i64 ((room : Int) - (tot : Int)), .slice A ts.length c] W fun e w' => e = .returned (.bool fb) ∧ Below w2.heap.size w2 w') := fun W hW => by
    have h0 := fit_any _ (room - tot) A c ts W (HTN.out W hW) (by omega) (by omega) (fun t ht => by have := HV.out t ht; omega)
    rw [show ((room - tot : Nat) : Int) = (room : Int) - (tot : Int) by omega, ← hfb] at h0
    refine h0.mono ?_
    rintro e w' ⟨rfl, rfl⟩
    exact ⟨rfl, hW⟩
  have HFB : Hid (fb = true) := by
    show _ = _
    rw [hfb]
    simp only [decide_eq_true_eq]
    omega
  have isub : IntKind.i64.wrap ((room : Int) - (tot : Int)) = (room : Int) - (tot : Int) := by rw [IntKind.wrap_i64]; omega
  obtain ⟨c3, c4⟩ := HCE.out w2 (Below.refl _ _)
  have hl0 := HF2.out.1.leads e0 HE0.out
  rw [HN0.out] at hl0
  have hrun := look_hit HF2.out.1.map hs hl0
  clear hl0
  have HB0 := Lib.hid hb
  have HTOT := Lib.hid htot
  clear hb hfb htot
  have hfb2 := HFB.out
  subst hfb2
  go_wp2_with fail
  refine region_class (fun W => Below w2.heap.size w2 W) (by kernel_rfl) (by kernel_rfl) (Below.refl _ _).drew ?_
  repeat (first
    | go_big_quiet_skip
    | (go_big_quiet_want
       first
        | (go_big_quiet_op; go_big_quiet_on)
        | (refine quiet_call 25 _ _ rfl (args := #[.pointer (some ⟨b, 0, none⟩)]) (fun W => by go_simp; done) (fun W hW => HUS.out W hW) ?_; (try simp only [Act.put, List.setIfInBounds_toArray, List.set_cons_zero, List.set_cons_succ]); go_big_quiet_on)
        | (refine quiet_call 49 _ _ rfl (args := #[.int .i64 ((room : Int) - (tot : Int)), .slice A ts.length c]) (fun W => by go_simp; done) (fun W hW => HFI.out W hW) ?_; (try simp only [Act.put, List.setIfInBounds_toArray, List.set_cons_zero, List.set_cons_succ]); go_big_quiet_on)
        | (refine quiet_run (v := ?_) ?_ ?_
           rotate_left
           · (intro W hW; have z := HCE.out W hW; go_simp; first | done | with_reducible rfl)
           (try simp only [Act.put, List.setIfInBounds_toArray, List.set_cons_zero, List.set_cons_succ]); go_big_quiet_on)))
  refine wpQuiet_nil ?_
  intro w3 hw3
  have hF3 := HFN.out w3 hw3
  have hsz := hF3.2.size
  have hle0 := le_sum HE0.out
  have HAD := Lib.hid (add_any _ B e0.blk e0.firm e0.val e0.bs A c ts w3 (hF3.1.file e0 HE0.out) (by omega) (HTN.out w3 hw3) (fun g _ hg => by
      have hno := HS.out g hg.1 hg.2
      exact ⟨fun e => hno (.inr (.inr ⟨e0, HE0.out, .inl e⟩)), fun e => hno (.inr (.inr ⟨e0, HE0.out, .inr e.symm⟩))⟩) hl (by have := HTOT.out; omega))
  have HF3 := Lib.hid hF3
  clear hw3 hF3 hsz hle0
  go_wp2_with fail
  refine (HAD.out).mono ?_
  rintro e w4 ⟨rfl, v', hf4, hc4⟩
  have HR : Hid (∃ v, Did w w4 B b mb n D p room E (setE E e0.name v (e0.bs ++ ts.flatten) e0.firm)) := by
    refine ⟨v', HF3.out.1.one HE0.out hf4 hc4 ?_, HF3.out.2.trans (.of_add HE0.out hc4)⟩
    have := setE_sum (x := e0.name) (v := v') (bs := e0.bs ++ ts.flatten) (firm := e0.firm) HF3.out.1.once HE0.out rfl
    rw [List.length_append] at this
    have := HTOT.out
    omega
  clear hf4 hc4
  go_wp2_with fail
  go_ret
  exact ⟨rfl, HR.out⟩

end

end Go.Proofs.Ytchedflfinkppaa

/-
  The contract of Write, where a file is made.
-/
namespace Go.Proofs.Ytchedflfinkppaa
open Go.RowKit Go.Maps Go.WideMaps Go.BigFrame

theorem DskC.of_put {w w5 w6 : World} {b mb : Nat} {E : List Ent} {e0 : Ent} {x : List UInt8} (h : DskC w w5 b mb E E) (ht : w5.mapTurned w6 mb) (hf : w.heap.size ≤ e0.blk) (hv : e0.val.ownBlock = none) : DskC w w6 b mb E (e0 :: dropE E x) := by
  have hg := ht.grown
  refine ⟨hg.os.trans h.os, hg.tape.trans h.tape, hg.output.trans h.output, Nat.le_trans h.size hg.size, fun g hl hn => ?_, ?_⟩
  · rw [hg.block g (Nat.lt_of_lt_of_le hl h.size) (fun e => hn (.inr (.inl (by injection e))))]
    exact h.block g hl hn
  · intro g hg'
    rcases hg' with hg' | hg' | ⟨e, he, hg'⟩
    · exact .inl (.inl hg')
    · exact .inl (.inr (.inl hg'))
    · rcases List.mem_cons.1 he with rfl | he
      · rcases hg' with rfl | hg'
        · exact .inr hf
        · rw [hv] at hg'
          cases hg'
      · exact .inl (.inr (.inr ⟨e, (mem_dropE.1 he).1, hg'⟩))

/-- a file that is new and has no bytes -/
theorem fil_new (B f : Nat) {w : World} (h : w.heap[f]? = some (.cells #[.slice none 0 0, .int .i64 0] 92 (0, 0))) : Fil w B f (.slice none 0 0) [] 0 := ⟨h, ⟨rfl, .inl ⟨rfl, rfl⟩⟩, Nat.le_refl _⟩

section
variable (B b mb n : Nat) (D : DataW Unit) (p : Pw) (room : Nat) (E : List Ent) (s : ByteArray)

set_option maxRecDepth 100000 in
set_option maxHeartbeats 2000000 in
theorem write_new (S : Nat → Prop) (A : Option Addr) (c : Nat) (ts : List (List Int)) (w : World) (h : Dsk w B b mb n D p room E) (hd : p.spent.down = false) (hs : s.size ≤ maxLen) (hn : IsName s) (hT : TxtAt S w A ts) (hS : ∀ g, g < w.heap.size → S g → ¬ Of b mb E g) (hl : ts.length ≤ 1000000) (hv : ∀ t ∈ ts, t.length ≤ 1000000) (hx : ∀ e ∈ E, e.name ≠ s.data.toList) (h16 : E.length < 16) (hnn : n ≤ 1000000) (hB : B ≤ w.heap.size) (ho : (E.map fun e => e.bs.length).sum + ts.flatten.length ≤ room) :
    Calls Try.prog 19 #[.pointer (some ⟨b, 0, none⟩), .string s, .slice A ts.length c] w fun e w' => e = .returned (.int .i64 0) ∧ ∃ f v D', Did w w' B b mb 16 D' p room E (⟨s.data.toList, f, v, ts.flatten, 0⟩ :: E) := by
  have hch := change_any b room mb p w h.blk h.ok
  have he : p.err = 0 := by simp [Pw.err, hd]
  rw [he] at hch
  have HC := Lib.hid hch
  have HD := Lib.hid h
  have HNB := Lib.hid (nameB_yes hn)
  have HT := Lib.hid hT
  have HS := Lib.hid hS
  have HV := Lib.hid hv
  have HX := Lib.hid hx
  have H8 := Lib.hid hn.2.1
  have H16 := Lib.hid h16
  have HNN := Lib.hid hnn
  clear hx hnn
  clear hch h he hd hn hT hS hv
  go_enter Try.func19, Try.ntmps19
  go_wp2_with fail
  refine (HC.out).mono ?_
  rintro e w1 ⟨rfl, h1, h2⟩
  have HF : Hid (Did w w1 B b mb n D p room E E) := ⟨HD.out.power h1 (Pw.spent_ok HD.out.ok) h2, .of_only h2⟩
  have HI := Lib.hid (isName_any s w1 hs)
  rw [HNB.out] at HI
  clear h1 h2
  go_wp2_with fail
  refine (HI.out).mono ?_
  rintro e w2 ⟨rfl, hb⟩
  have HF2 : Hid (Did w w2 B b mb n D p room E E) := ⟨HF.out.1.below hb, HF.out.2.trans (.of_only (Only.of_below hb))⟩
  have HFN : Hid (∀ W, Below w2.heap.size w2 W → Did w W B b mb n D p room E E) := fun W hW => ⟨HF2.out.1.below hW, HF2.out.2.trans (.of_only (Only.of_below hW))⟩
  have HCE : Hid (∀ W, Below w2.heap.size w2 W → W.cell? ⟨b, 3, none⟩ = some (.int .i64 (room : Int)) ∧ W.cell? ⟨b, 4, none⟩ = some (.map (some mb))) := fun W hW => (HFN.out W hW).1.blk.cells.2.2.2
  have HTN : Hid (∀ W, Below w2.heap.size w2 W → TxtAt (fun g => g < w.heap.size ∧ S g) W A ts) := fun W hW => (HT.out.mono fun g hg s => ⟨hg, s⟩).kept (HFN.out W hW).2.size fun g hg s => (HFN.out W hW).2.block g hg (HS.out g hg s.2)
  have HLE : Hid (∀ W, Below w2.heap.size w2 W → ∀ ty, (Builtin.len_ #[65] ty #[.map (some mb)]).run Try.prog W = .ok (.int .i64 (E.length : Int)) W) := fun W hW ty => by
    have := (HFN.out W hW).1.map.len Try.underlying65 ty
    rw [(HFN.out W hW).1.count] at this
    exact this
  have hroom := HD.out.most
  have hfit0 := HD.out.fits
  obtain ⟨tot, htot⟩ : ∃ x, x = (E.map fun e => e.bs.length).sum := ⟨_, rfl⟩
  obtain ⟨fb, hfb⟩ : ∃ x, x = decide (ts.flatten.length ≤ room - tot) := ⟨_, rfl⟩
  rw [← htot] at hfit0
  have HUS : Hid (∀ W, Below w2.heap.size w2 W → Calls Try.prog 25 #[.pointer (some ⟨b, 0, none⟩)] W fun e w' => e = .returned (.int .i64 (tot : Int)) ∧ Below w2.heap.size w2 w') := fun W hW => by
    have h0 := used_any b room mb n p.spent D (E.map entOf) W (HFN.out W hW).1.blk (HFN.out W hW).1.map (HFN.out W hW).1.ents (by rw [total_ents, ← htot]; omega)
    rw [total_ents, ← htot] at h0
    refine h0.mono ?_
    rintro e w' ⟨rfl, hb⟩
    exact ⟨rfl, hW.trans (hb.mono hW.size)⟩
  have HFI : Hid (∀ W, Below w2.heap.size w2 W → Calls Try.prog 49 #[.int .i64 ((room : Int) - (tot : Int)), .slice A ts.length c] W fun e w' => e = .returned (.bool fb) ∧ Below w2.heap.size w2 w') := fun W hW => by
    have h0 := fit_any _ (room - tot) A c ts W (HTN.out W hW) (by omega) (by omega) (fun t ht => by have := HV.out t ht; omega)
    rw [show ((room - tot : Nat) : Int) = (room : Int) - (tot : Int) by omega, ← hfb] at h0
    refine h0.mono ?_
    rintro e w' ⟨rfl, rfl⟩
    exact ⟨rfl, hW⟩
  have HFB : Hid (fb = true) := by
    show _ = _
    rw [hfb]
    simp only [decide_eq_true_eq]
    omega
  have isub : IntKind.i64.wrap ((room : Int) - (tot : Int)) = (room : Int) - (tot : Int) := by rw [IntKind.wrap_i64]; omega
  obtain ⟨c3, c4⟩ := HCE.out w2 (Below.refl _ _)
  have hrun := look_miss HF2.out.1.map hs (HF2.out.1.hasNot HX.out)
  have i16 : decide ((16 : Int) ≤ (E.length : Int)) = false := by simp only [decide_eq_false_iff_not]; omega
  clear h16
  generalize hel : E.length = el at *
  have HEL := Lib.hid hel
  clear hel
  have HB0 := Lib.hid hb
  have HTOT := Lib.hid htot
  clear hb hfb htot
  have hfb2 := HFB.out
  subst hfb2
  go_wp2_with fail
  refine region_class (fun W => Below w2.heap.size w2 W) (by kernel_rfl) (by kernel_rfl) (Below.refl _ _).drew ?_
  repeat (first
    | go_big_quiet_skip
    | (go_big_quiet_want
       first
        | (go_big_quiet_op; go_big_quiet_on)
        | (refine quiet_len _ 65 rfl _ rfl (fun W hW => HLE.out W hW _) ?_; (try simp only [Act.put, List.setIfInBounds_toArray, List.set_cons_zero, List.set_cons_succ]); go_big_quiet_on)
        | (refine quiet_call 25 _ _ rfl (args := #[.pointer (some ⟨b, 0, none⟩)]) (fun W => by go_simp; done) (fun W hW => HUS.out W hW) ?_; (try simp only [Act.put, List.setIfInBounds_toArray, List.set_cons_zero, List.set_cons_succ]); go_big_quiet_on)
        | (refine quiet_call 49 _ _ rfl (args := #[.int .i64 ((room : Int) - (tot : Int)), .slice A ts.length c]) (fun W => by go_simp; done) (fun W hW => HFI.out W hW) ?_; (try simp only [Act.put, List.setIfInBounds_toArray, List.set_cons_zero, List.set_cons_succ]); go_big_quiet_on)
        | (refine quiet_run (v := ?_) ?_ ?_
           rotate_left
           · (intro W hW; have z := HCE.out W hW; go_simp; first | done | with_reducible rfl)
           (try simp only [Act.put, List.setIfInBounds_toArray, List.set_cons_zero, List.set_cons_succ]); go_big_quiet_on)))
  refine wpQuiet_nil ?_
  intro w3 hw3
  obtain ⟨w4, hw4⟩ : ∃ x, x = w3.alloc (.cells #[.slice none 0 0, .int .i64 0] 92) := ⟨_, rfl⟩
  have hb4 : Below w2.heap.size w2 w4 := by rw [hw4]; exact hw3.alloc hw3.size _
  have hF4 := HFN.out w4 hb4
  have hT4 := HTN.out w4 hb4
  have hz3 : w.heap.size ≤ w3.heap.size := (HFN.out w3 hw3).2.size
  have hz4 : w3.heap.size < w4.heap.size := by rw [hw4]; simp
  have hnew4 : w4.heap[w3.heap.size]? = some (.cells #[.slice none 0 0, .int .i64 0] 92 (0, 0)) := by rw [hw4]; exact heap_alloc_new _ _
  have hold3 : ∀ g, g ∈ E.map Ent.blk → g < w3.heap.size := fun g hg => by
    obtain ⟨e, he, rfl⟩ := List.mem_map.1 hg
    exact lt_of_block ((HFN.out w3 hw3).1.file e he).blk
  generalize hfe : w3.heap.size = f at *
  have HFE := Lib.hid hfe
  clear hfe
  have e4 := hF4.1.blk.cells.2.2.2.2
  have HS5 : Hid (∀ w5, Below w4.heap.size w4 w5 → w5.cell? ⟨b, 4, none⟩ = some (.map (some mb)) ∧ ∃ w6, (Instr.mapUpdate 65 (.map (some mb)) (.string s) (.pointer (some ⟨f, 0, none⟩))).run Try.prog w5 = .ok () w6 ∧ Dsk w6 B b mb (n + 1) (D.put (.string s.data.toList) (.lit (.int .i64 (f : Int)))) p.spent room (⟨s.data.toList, f, .slice none 0 0, [], 0⟩ :: dropE E s.data.toList) ∧ DskC w w6 b mb E (⟨s.data.toList, f, .slice none 0 0, [], 0⟩ :: dropE E s.data.toList)) := fun w5 hb5 => by
    have hD5 := hF4.1.below hb5
    have hC5 : DskC w w5 b mb E E := hF4.2.trans (.of_only (Only.of_below hb5))
    obtain ⟨w6, hrun6, hown6, hturn6⟩ := hD5.map.store law9 Try.underlying65 (by have := HNN.out; unfold maxLen; omega) (keyOf_string_mk Try.underlying9 hs) (rdP_at f)
    refine ⟨hD5.blk.cells.2.2.2.2, w6, hrun6, hD5.put ⟨s.data.toList, f, .slice none 0 0, [], 0⟩ hown6 hturn6 (fil_new B f ((hb5.block f (by omega)).trans hnew4)) (fun e he => ?_) ?_, hC5.of_put hturn6 hz3 rfl⟩
    · refine ⟨fun hf => ?_, fun g hg => by cases hg⟩
      have := hold3 e.blk (List.mem_map.2 ⟨e, (mem_dropE.1 he).1, rfl⟩)
      have hf' : f = e.blk := hf
      omega
    · have := dropE_sum E s.data.toList
      have := HTOT.out
      simp only [List.map_cons, List.sum_cons, List.length_nil]
      omega
  have HADD : Hid (∀ w6, Dsk w6 B b mb (n + 1) (D.put (.string s.data.toList) (.lit (.int .i64 (f : Int)))) p.spent room (⟨s.data.toList, f, .slice none 0 0, [], 0⟩ :: dropE E s.data.toList) → DskC w w6 b mb E (⟨s.data.toList, f, .slice none 0 0, [], 0⟩ :: dropE E s.data.toList) →
      Calls Try.prog 51 #[.pointer (some ⟨f, 0, none⟩), .slice A ts.length c] w6 fun e w' => e = .returned (.tuple #[]) ∧ ∃ f v D', Did w w' B b mb 16 D' p room E (⟨s.data.toList, f, v, ts.flatten, 0⟩ :: E)) := fun w6 hD6 hC6 => by
    have hT6 : TxtAt (fun g => g < w.heap.size ∧ S g) w6 A ts := (HT.out.mono fun g hg s => ⟨hg, s⟩).kept hC6.size fun g hg s => hC6.block g hg (HS.out g hg s.2)
    have hfe := hD6.file _ List.mem_cons_self
    refine (add_any _ B f 0 (.slice none 0 0) [] A c ts w6 hfe (by have := hC6.size; omega) hT6 (fun g _ hg => ⟨fun e => ?_, fun e => by cases e⟩) hl (by have ht := HTOT.out; show ([] : List Int).length + ts.flatten.length ≤ _; rw [List.length_nil]; omega)).mono ?_
    · have := hg.1
      omega
    · rintro e w7 ⟨rfl, v', hf7, hc7⟩
      rw [List.nil_append] at hf7
      have hdr : dropE E s.data.toList = E := List.filter_eq_self.2 fun e he => by simpa using HX.out e he
      have hone := hD6.one List.mem_cons_self hf7 hc7 (by
        have hq := setE_sum (v := v') (bs := ts.flatten) (firm := 0) hD6.once List.mem_cons_self rfl
        have ht := HTOT.out
        rw [hdr] at hq ⊢
        simp only [List.map_cons, List.sum_cons, List.length_nil] at hq ⊢
        omega)
      have hcc := hC6.trans (DskC.of_add (bs := ts.flatten) (firm := 0) List.mem_cons_self hc7)
      have hse : setE (⟨s.data.toList, f, .slice none 0 0, [], 0⟩ :: dropE E s.data.toList) s.data.toList v' ts.flatten 0 = ⟨s.data.toList, f, v', ts.flatten, 0⟩ :: E := by
        rw [hdr]
        show _ :: setE E _ _ _ _ = _
        rw [setE_same HX.out]
        simp
      rw [hse] at hone hcc
      exact ⟨rfl, f, v', _, hone.tight (by have h1 := H16.out; have h2 := HEL.out; simp only [List.length_cons]; omega), hcc⟩
  have HCL : Hid (∀ W, Calls Try.prog 50 #[.string s] W fun e w' => e = .returned (.string s) ∧ Below W.heap.size W w') := fun W => sclone_any s W (by have := H8.out; omega)
  have HB4 := Lib.hid hb4
  clear hb4 hF4 hT4 hz3 hz4 hnew4 hold3 hw3
  go_wp2_with fail
  rw [← hw4, HFE.out]
  clear hw4
  go_region_held3 (fun w' => w'.cell? ⟨b, 4, none⟩ = some (.map (some mb))) (first | exact e4 | exact e5 | exact hD6.blk.cells.2.2.2.2)
    (first | (go_at_call 50; refine (HCL.out _).mono ?_; rintro e w5 ⟨rfl, hb5⟩; have hb5' : Below w4.heap.size w4 w5 := ⟨hb5.os, hb5.tape, hb5.output, hb5.size, hb5.block⟩; obtain ⟨e5, w6, hrun6, hD6, hC6⟩ := HS5.out w5 hb5') | fail)
  have HA6 := Lib.hid (HADD.out w6 hD6 hC6)
  clear hD6 hC6 hrun6
  go_wp2_with fail
  refine (HA6.out).mono ?_
  rintro e w7 ⟨rfl, hfin⟩
  have HR := Lib.hid hfin
  clear hfin
  go_wp2_with fail
  go_ret
  exact ⟨rfl, HR.out⟩

end

end Go.Proofs.Ytchedflfinkppaa
