/-
  The contract of Write, where nothing is written.
-/
import Derived.Test.YtchedflfinkppaaQuiet
import Derived.Test.YtchedflfinkppaaDsk345
import Derived.Test.YtchedflfinkppaaIsName
import Derived.Test.YtchedflfinkppaaStrClone
namespace Go.Proofs.Ytchedflfinkppaa
open Go.RowKit Go.Maps Go.BigFrame

section
variable (B b mb n : Nat) (D : DataW Unit) (p : Pw) (room : Nat) (E : List Ent) (s : ByteArray)

set_option maxHeartbeats 400000 in
theorem write_down (A : Option Addr) (l c : Nat) (w : World) (h : Dsk w B b mb n D p room E) (hd : p.spent.down = true) :
    Calls Try.prog 19 #[.pointer (some ⟨b, 0, none⟩), .string s, .slice A l c] w fun e w' => e = .returned (.int .i64 9) ∧ Did w w' B b mb n D p room E E := by
  have hch := change_any b room mb p w h.blk h.ok
  have he : p.err = 9 := by simp [Pw.err, hd]
  rw [he] at hch
  have HC := Lib.hid hch
  have HD := Lib.hid h
  clear hch h he hd
  go_enter Try.func19, Try.ntmps19
  go_wp2_with fail
  refine (HC.out).mono ?_
  rintro e w' ⟨rfl, h1, h2⟩
  have HF : Hid (Did w w' B b mb n D p room E E) := ⟨HD.out.power h1 (Pw.spent_ok HD.out.ok) h2, .of_only h2⟩
  clear h1 h2
  go_wp2_with fail
  go_ret
  exact ⟨rfl, HF.out⟩

set_option maxHeartbeats 400000 in
theorem write_form (A : Option Addr) (l c : Nat) (w : World) (h : Dsk w B b mb n D p room E) (hd : p.spent.down = false) (hs : s.size ≤ maxLen) (hn : ¬ IsName s) :
    Calls Try.prog 19 #[.pointer (some ⟨b, 0, none⟩), .string s, .slice A l c] w fun e w' => e = .returned (.int .i64 4) ∧ Did w w' B b mb n D p room E E := by
  have hch := change_any b room mb p w h.blk h.ok
  have he : p.err = 0 := by simp [Pw.err, hd]
  rw [he] at hch
  have HC := Lib.hid hch
  have HD := Lib.hid h
  have HNB := Lib.hid (nameB_no hn)
  clear hch h he hd hn
  go_enter Try.func19, Try.ntmps19
  go_wp2_with fail
  refine (HC.out).mono ?_
  rintro e w1 ⟨rfl, h1, h2⟩
  have HF : Hid (Did w w1 B b mb n D p room E E) := ⟨HD.out.power h1 (Pw.spent_ok HD.out.ok) h2, .of_only h2⟩
  have HI := Lib.hid (isName_any s w1 hs)
  rw [HNB.out] at HI
  clear h1 h2
  go_wp2_with fail
  refine (HI.out).mono ?_
  rintro e w2 ⟨rfl, hb⟩
  have HF2 : Hid (Did w w2 B b mb n D p room E E) := ⟨HF.out.1.below hb, HF.out.2.trans (.of_only (Only.of_below hb))⟩
  clear hb
  go_wp2_with fail
  go_ret
  exact ⟨rfl, HF2.out⟩

set_option maxRecDepth 100000 in
set_option maxHeartbeats 1000000 in
/-- there are as many files as there may be -/
theorem write_most (A : Option Addr) (l c : Nat) (w : World) (h : Dsk w B b mb n D p room E) (hd : p.spent.down = false) (hs : s.size ≤ maxLen) (hn : IsName s) (hx : ∀ e ∈ E, e.name ≠ s.data.toList) (h16 : 16 ≤ E.length) :
    Calls Try.prog 19 #[.pointer (some ⟨b, 0, none⟩), .string s, .slice A l c] w fun e w' => e = .returned (.int .i64 8) ∧ Did w w' B b mb n D p room E E := by
  have hch := change_any b room mb p w h.blk h.ok
  have he : p.err = 0 := by simp [Pw.err, hd]
  rw [he] at hch
  have HC := Lib.hid hch
  have HD := Lib.hid h
  have HNB := Lib.hid (nameB_yes hn)
  have HX := Lib.hid hx
  clear hch h he hd hn hx
  go_enter Try.func19, Try.ntmps19
  go_wp2_with fail
  refine (HC.out).mono ?_
  rintro e w1 ⟨rfl, h1, h2⟩
  have HF : Hid (Did w w1 B b mb n D p room E E) := ⟨HD.out.power h1 (Pw.spent_ok HD.out.ok) h2, .of_only h2⟩
  have HI := Lib.hid (isName_any s w1 hs)
  rw [HNB.out] at HI
  clear h1 h2
  go_wp2_with fail
  refine (HI.out).mono ?_
  rintro e w2 ⟨rfl, hb⟩
  have HF2 : Hid (Did w w2 B b mb n D p room E E) := ⟨HF.out.1.below hb, HF.out.2.trans (.of_only (Only.of_below hb))⟩
  have HFN : Hid (∀ W, Below w2.heap.size w2 W → Did w W B b mb n D p room E E) := fun W hW => ⟨HF2.out.1.below hW, HF2.out.2.trans (.of_only (Only.of_below hW))⟩
  have HCE : Hid (∀ W, Below w2.heap.size w2 W → W.cell? ⟨b, 3, none⟩ = some (.int .i64 (room : Int)) ∧ W.cell? ⟨b, 4, none⟩ = some (.map (some mb))) := fun W hW => (HFN.out W hW).1.blk.cells.2.2.2
  have HLE : Hid (∀ W, Below w2.heap.size w2 W → ∀ ty, (Builtin.len_ #[65] ty #[.map (some mb)]).run Try.prog W = .ok (.int .i64 (E.length : Int)) W) := fun W hW ty => by
    have := (HFN.out W hW).1.map.len Try.underlying65 ty
    rw [(HFN.out W hW).1.count] at this
    exact this
  obtain ⟨c3, c4⟩ := HCE.out w2 (Below.refl _ _)
  have hrun := look_miss HF2.out.1.map hs (HF2.out.1.hasNot HX.out)
  have i1 : (16 : Int) ≤ (E.length : Int) := by omega
  clear hb h16
  generalize E.length = el at *
  go_wp2_with fail
  refine region_class (fun W => Below w2.heap.size w2 W) (by kernel_rfl) (by kernel_rfl) (Below.refl _ _).drew ?_
  repeat (first
    | go_big_quiet_skip
    | (go_big_quiet_want
       first
        | (go_big_quiet_op; go_big_quiet_on)
        | (refine quiet_len _ 65 rfl _ rfl (fun W hW => HLE.out W hW _) ?_; (try simp only [Act.put, List.setIfInBounds_toArray, List.set_cons_zero, List.set_cons_succ]); go_big_quiet_on)
        | (refine quiet_run (v := ?_) ?_ ?_
           rotate_left
           · (intro W hW; have z := HCE.out W hW; go_simp; first | done | with_reducible rfl)
           (try simp only [Act.put, List.setIfInBounds_toArray, List.set_cons_zero, List.set_cons_succ]); go_big_quiet_on)))
  refine wpQuiet_nil ?_
  intro w3 hw3
  have HF3 := Lib.hid (HFN.out w3 hw3)
  go_wp2_with fail
  go_ret
  exact ⟨rfl, HF3.out⟩

end

end Go.Proofs.Ytchedflfinkppaa
