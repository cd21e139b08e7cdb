/-
  A disk's block; the contracts of power's calls, of New, Arm, Up and change.
-/
import Derived.Test.YtchedflfinkppaaMem
import Derived.Deep.QuietTactic
import Derived.BigQuiet
namespace Go.Proofs.Ytchedflfinkppaa
open Go.RowKit

/-- Nothing that was there has turned but the block b. -/
structure Only (b : Nat) (w w' : World) : Prop where
  os : w'.os = w.os
  tape : w'.tape = w.tape
  output : w'.output = w.output
  size : w.heap.size ≤ w'.heap.size
  block : ∀ g, g < w.heap.size → g ≠ b → w'.heap[g]? = w.heap[g]?
theorem Only.refl (b : Nat) (w : World) : Only b w w := ⟨rfl, rfl, rfl, Nat.le_refl _, fun _ _ _ => rfl⟩
theorem Only.of_below {b : Nat} {w w' : World} (h : Below w.heap.size w w') : Only b w w' := ⟨h.os, h.tape, h.output, h.size, fun g hg _ => h.block g hg⟩
theorem Only.trans {b : Nat} {w w' w'' : World} (h : Only b w w') (k : Only b w' w'') : Only b w w'' :=
  ⟨k.os.trans h.os, k.tape.trans h.tape, k.output.trans h.output, Nat.le_trans h.size k.size, fun g hg e => (k.block g (Nat.lt_of_lt_of_le hg h.size) e).trans (h.block g hg e)⟩
theorem set_size (w : World) (a : Addr) (v : Value) : (w.setCell a v).heap.size = w.heap.size := by simp [World.setCell]
theorem Only.set {b : Nat} {w w' : World} (h : Only b w w') (i : Nat) (u : Value) : Only b w (w'.setCell ⟨b, i, none⟩ u) :=
  ⟨h.os, h.tape, h.output, by rw [set_size]; exact h.size, fun g hg e => (Below.heap_setCell _ _ _ _ e).trans (h.block g hg e)⟩

/-- Power: whether it is down, whether it is armed, how many changes are left. -/
structure Pw where
  down : Bool
  armed : Bool
  left : Int
def Pw.ok (p : Pw) : Prop := p.armed = true → 0 ≤ p.left ∧ p.left ≤ 9223372036854775807
/-- A disk's block. -/
def Blk (w : World) (b : Nat) (p : Pw) (room : Nat) (mb : Nat) : Prop := w.heap[b]? = some (.cells #[.bool p.down, .bool p.armed, .int .i64 p.left, .int .i64 (room : Int), .map (some mb)] 69 (0, 0))
theorem Blk.cells {w : World} {b : Nat} {p : Pw} {room mb : Nat} (h : Blk w b p room mb) : w.cell? ⟨b, 0, none⟩ = some (.bool p.down) ∧ w.cell? ⟨b, 1, none⟩ = some (.bool p.armed) ∧ w.cell? ⟨b, 2, none⟩ = some (.int .i64 p.left) ∧ w.cell? ⟨b, 3, none⟩ = some (.int .i64 (room : Int)) ∧ w.cell? ⟨b, 4, none⟩ = some (.map (some mb)) := by
  unfold Blk at h
  simp [World.cell?, h]
theorem Blk.free {w : World} {b : Nat} {p : Pw} {room mb : Nat} (h : Blk w b p room mb) (k : Nat) : w.frozen? ⟨b, k, none⟩ = false := by
  unfold Blk at h
  simp [World.frozen?, h]
theorem Blk.set0 {w : World} {b : Nat} {p : Pw} {room mb : Nat} (h : Blk w b p room mb) (x : Bool) : Blk (w.setCell ⟨b, 0, none⟩ (.bool x)) b { p with down := x } room mb := by
  unfold Blk at *
  simp [World.setCell, Array.getElem?_modify, h]
theorem Blk.set1 {w : World} {b : Nat} {p : Pw} {room mb : Nat} (h : Blk w b p room mb) (x : Bool) : Blk (w.setCell ⟨b, 1, none⟩ (.bool x)) b { p with armed := x } room mb := by
  unfold Blk at *
  simp [World.setCell, Array.getElem?_modify, h]
theorem Blk.set2 {w : World} {b : Nat} {p : Pw} {room mb : Nat} (h : Blk w b p room mb) (x : Int) : Blk (w.setCell ⟨b, 2, none⟩ (.int .i64 x)) b { p with left := x } room mb := by
  unfold Blk at *
  simp [World.setCell, Array.getElem?_modify, h]

/-- a change: is there power, and what is left of it -/
def Pw.spent (p : Pw) : Pw :=
  if p.down then p else if p.armed then (if p.left = 0 then { p with down := true } else { p with left := p.left - 1 }) else p
theorem Pw.spent_ok {p : Pw} (h : p.ok) : p.spent.ok := by
  unfold Pw.spent Pw.ok at *
  split
  · exact h
  · split
    · rename_i ha
      obtain ⟨h1, h2⟩ := h ha
      split
      · exact fun _ => ⟨h1, h2⟩
      · intro _
        show 0 ≤ p.left - 1 ∧ p.left - 1 ≤ _
        omega
    · exact h

set_option maxRecDepth 100000 in
set_option maxHeartbeats 1000000 in
theorem spend_any (b room mb : Nat) (p : Pw) (w : World) (h : Blk w b p room mb) (hp : p.ok) :
    Calls Try.prog 65 #[.pointer (some ⟨b, 0, none⟩)] w fun e w' => e = .returned (.bool (!p.spent.down)) ∧ Blk w' b p.spent room mb ∧ Only b w w' := by
  obtain ⟨c0, c1, c2, _, _⟩ := h.cells
  have f0 := h.free 0
  have f2 := h.free 2
  have HB := Lib.hid h
  obtain ⟨dn, ar, lf⟩ := p
  simp only at c0 c1 c2
  clear h
  cases ar with
  | false =>
    cases dn with
    | false =>
      go_enter Try.func65, Try.ntmps65
      go_wp2_with fail
      go_ret
      exact ⟨rfl, HB.out, Only.refl _ _⟩
    | true =>
      go_enter Try.func65, Try.ntmps65
      go_wp2_with fail
      go_ret
      exact ⟨rfl, HB.out, Only.refl _ _⟩
  | true =>
    obtain ⟨h1, h2⟩ := hp rfl
    simp only at h1 h2
    by_cases h0 : lf = 0
    · subst h0
      have hset := HB.out.set0 true
      have HS := Lib.hid hset
      have x0 := hset.cells.1
      clear hset
      cases dn with
      | false =>
        go_enter Try.func65, Try.ntmps65
        go_wp2_with fail
        go_ret
        exact ⟨rfl, HS.out, (Only.refl _ _).set _ _⟩
      | true =>
        go_enter Try.func65, Try.ntmps65
        go_wp2_with fail
        go_ret
        exact ⟨rfl, by simpa [Pw.spent] using HS.out, (Only.refl _ _).set _ _⟩
    · have e0 : (lf == 0) = false := by simpa using h0
      have HS := Lib.hid (HB.out.set2 (lf - 1))
      cases dn with
      | false =>
        have HSP : Hid ((Pw.mk false true lf).spent = Pw.mk false true (lf - 1)) := by
          show _ = _
          simp [Pw.spent, h0]
        go_enter Try.func65, Try.ntmps65
        go_wp2_with fail
        go_ret
        exact ⟨by rw [HSP.out]; rfl, by rw [HSP.out]; exact HS.out, (Only.refl _ _).set _ _⟩
      | true =>
        go_enter Try.func65, Try.ntmps65
        go_wp2_with fail
        go_ret
        exact ⟨rfl, HB.out, Only.refl _ _⟩

end Go.Proofs.Ytchedflfinkppaa

/-
  The contracts of New, change, Up, Arm, and of a crash's last step.
-/
namespace Go.Proofs.Ytchedflfinkppaa
open Go.RowKit

def Pw.fresh : Pw := ⟨false, false, 0⟩

set_option maxHeartbeats 400000 in
theorem new_any (room : Nat) (w : World) (h : room ≤ 1048576) :
    Calls Try.prog 11 #[.int .i64 (room : Int)] w fun e w' => e = .returned (.tuple #[.pointer (some ⟨w.heap.size + 1, 0, none⟩), .int .i64 0]) ∧ Blk w' (w.heap.size + 1) Pw.fresh room w.heap.size ∧ w'.heap[w.heap.size]? = some (.map #[] 0) ∧ Below w.heap.size w w' := by
  have i1 : ¬ (room : Int) < 0 := by omega
  have i2 : ¬ (1048576 : Int) < (room : Int) := by omega
  have HF : Hid (Blk ((w.alloc (.map #[] 0)).alloc (.cells #[.bool false, .bool false, .int .i64 0, .int .i64 (room : Int), .map (some w.heap.size)] 69)) (w.heap.size + 1) Pw.fresh room w.heap.size ∧ ((w.alloc (.map #[] 0)).alloc (.cells #[.bool false, .bool false, .int .i64 0, .int .i64 (room : Int), .map (some w.heap.size)] 69)).heap[w.heap.size]? = some (.map #[] 0)) := by
    constructor
    · have := heap_alloc_new (w.alloc (.map #[] 0)) (.cells #[.bool false, .bool false, .int .i64 0, .int .i64 (room : Int), .map (some w.heap.size)] 69)
      unfold Blk Pw.fresh
      simpa using this
    · rw [Below.heap_alloc _ _ _ (by simp)]
      exact heap_alloc_new w _
  have hmm : (Instr.makeMap 65 none).run Try.prog w = .ok (.map (some w.heap.size)) (w.alloc (.map #[] 0)) := rfl
  go_enter Try.func11, Try.ntmps11
  go_wp2_with fail
  go_ret2
  exact ⟨rfl, HF.out.1, HF.out.2, ((Below.refl _ _).alloc (Nat.le_refl _) _).alloc (by simp) _⟩
set_option maxHeartbeats 400000 in
theorem new_bad (room : Int) (w : World) (h : room < 0 ∨ 1048576 < room) :
    Calls Try.prog 11 #[.int .i64 room] w fun e w' => e = .returned (.tuple #[.pointer none, .int .i64 1]) ∧ w = w' := by
  by_cases h1 : room < 0
  · go_enter Try.func11, Try.ntmps11
    go_wp2_with fail
    go_ret2
    exact ⟨rfl, rfl⟩
  · have h2 : (1048576 : Int) < room := by omega
    go_enter Try.func11, Try.ntmps11
    go_wp2_with fail
    go_ret2
    exact ⟨rfl, rfl⟩

def Pw.err (p : Pw) : Int := if p.spent.down then 9 else 0
set_option maxHeartbeats 400000 in
theorem change_any (b room mb : Nat) (p : Pw) (w : World) (h : Blk w b p room mb) (hp : p.ok) :
    Calls Try.prog 43 #[.pointer (some ⟨b, 0, none⟩)] w fun e w' => e = .returned (.int .i64 p.err) ∧ Blk w' b p.spent room mb ∧ Only b w w' := by
  have HS := Lib.hid (spend_any b room mb p w h hp)
  have HE : Hid (p.err = if p.spent.down then 9 else 0) := rfl
  generalize p.spent = q at *
  generalize p.err = er at *
  clear h hp
  obtain ⟨dn, ar, lf⟩ := q
  simp only at HS HE
  cases dn with
  | true =>
    go_enter Try.func43, Try.ntmps43
    go_wp2_with fail
    refine (HS.out).mono ?_
    rintro e w' ⟨rfl, h1, h2⟩
    have H1 := Lib.hid h1
    clear h1
    go_wp2_with fail
    go_ret
    exact ⟨by rw [HE.out]; rfl, H1.out, h2⟩
  | false =>
    go_enter Try.func43, Try.ntmps43
    go_wp2_with fail
    refine (HS.out).mono ?_
    rintro e w' ⟨rfl, h1, h2⟩
    have H1 := Lib.hid h1
    clear h1
    go_wp2_with fail
    go_ret
    exact ⟨by rw [HE.out]; rfl, H1.out, h2⟩
set_option maxHeartbeats 400000 in
theorem change_nil (w : World) : Calls Try.prog 43 #[.pointer none] w fun e w' => e = .returned (.int .i64 6) ∧ w = w' := by
  go_enter Try.func43, Try.ntmps43
  go_wp2_with fail
  go_ret
  exact ⟨rfl, rfl⟩
set_option maxHeartbeats 400000 in
theorem powerUp_any (b room mb : Nat) (p : Pw) (w : World) (h : Blk w b p room mb) :
    Calls Try.prog 46 #[.pointer (some ⟨b, 0, none⟩)] w fun e w' => e = .returned (.bool (!p.down)) ∧ w = w' := by
  obtain ⟨c0, _⟩ := h.cells
  clear h
  generalize p.down = dn at *
  cases dn <;>
  · go_enter Try.func46, Try.ntmps46
    go_wp2_with fail
    go_ret
    exact ⟨rfl, rfl⟩
set_option maxHeartbeats 400000 in
theorem up_any (b room mb : Nat) (p : Pw) (w : World) (h : Blk w b p room mb) :
    Calls Try.prog 29 #[.pointer (some ⟨b, 0, none⟩)] w fun e w' => e = .returned (.bool (!p.down)) ∧ w = w' := by
  have HP := Lib.hid (powerUp_any b room mb p w h)
  clear h
  go_enter Try.func29, Try.ntmps29
  go_wp2_with fail
  refine (HP.out).mono ?_
  rintro e w' ⟨rfl, rfl⟩
  go_wp2_with fail
  go_ret
  exact ⟨rfl, rfl⟩
set_option maxHeartbeats 400000 in
theorem up_nil (w : World) : Calls Try.prog 29 #[.pointer none] w fun e w' => e = .returned (.bool false) ∧ w = w' := by
  go_enter Try.func29, Try.ntmps29
  go_wp2_with fail
  go_ret
  exact ⟨rfl, rfl⟩
def Pw.arm (p : Pw) (n : Int) : Pw := { p with armed := decide (0 ≤ n), left := n }
set_option maxHeartbeats 400000 in
theorem powerArm_any (b room mb : Nat) (p : Pw) (n : Int) (w : World) (h : Blk w b p room mb) :
    Calls Try.prog 56 #[.pointer (some ⟨b, 0, none⟩), .int .i64 n] w fun e w' => e = .returned (.tuple #[]) ∧ Blk w' b (p.arm n) room mb ∧ Only b w w' := by
  obtain ⟨_, c1, c2, _⟩ := h.cells
  have f1 := h.free 1
  have f2 := h.free 2
  have HS : Hid (Blk ((w.setCell ⟨b, 1, none⟩ (.bool (decide (0 ≤ n)))).setCell ⟨b, 2, none⟩ (.int .i64 n)) b (p.arm n) room mb) := (h.set1 _).set2 _
  clear h
  go_enter Try.func56, Try.ntmps56
  go_wp2_with fail
  go_end0
  exact ⟨rfl, HS.out, ((Only.refl _ _).set _ _).set _ _⟩
set_option maxHeartbeats 400000 in
theorem arm_any (b room mb : Nat) (p : Pw) (n : Int) (w : World) (h : Blk w b p room mb) :
    Calls Try.prog 24 #[.pointer (some ⟨b, 0, none⟩), .int .i64 n] w fun e w' => e = .returned (.tuple #[]) ∧ Blk w' b (p.arm n) room mb ∧ Only b w w' := by
  have HP := Lib.hid (powerArm_any b room mb p n w h)
  clear h
  go_enter Try.func24, Try.ntmps24
  go_wp2_with fail
  refine (HP.out).mono ?_
  rintro e w' ⟨rfl, h1, h2⟩
  have H1 := Lib.hid h1
  clear h1
  go_wp2_with fail
  go_end0
  exact ⟨rfl, H1.out, h2⟩
set_option maxHeartbeats 400000 in
theorem arm_nil (n : Int) (w : World) : Calls Try.prog 24 #[.pointer none, .int .i64 n] w fun e w' => e = .returned (.tuple #[]) ∧ w = w' := by
  go_enter Try.func24, Try.ntmps24
  go_wp2_with fail
  go_end0
  exact ⟨rfl, rfl⟩
set_option maxHeartbeats 400000 in
theorem restore_any (b room mb : Nat) (p : Pw) (w : World) (h : Blk w b p room mb) :
    Calls Try.prog 55 #[.pointer (some ⟨b, 0, none⟩)] w fun e w' => e = .returned (.tuple #[]) ∧ Blk w' b Pw.fresh room mb ∧ Only b w w' := by
  obtain ⟨c0, c1, c2, _⟩ := h.cells
  have f0 := h.free 0
  have f1 := h.free 1
  have f2 := h.free 2
  have HS : Hid (Blk (((w.setCell ⟨b, 0, none⟩ (.bool false)).setCell ⟨b, 1, none⟩ (.bool false)).setCell ⟨b, 2, none⟩ (.int .i64 0)) b Pw.fresh room mb) := ((h.set0 _).set1 _).set2 _
  clear h
  go_enter Try.func55, Try.ntmps55
  go_wp2_with fail
  go_end0
  exact ⟨rfl, HS.out, (((Only.refl _ _).set _ _).set _ _).set _ _⟩

end Go.Proofs.Ytchedflfinkppaa
