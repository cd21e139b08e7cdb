/-
  A disk's block; the contracts of power's calls, of New, Arm, Up and change.
-/
import Derived.Test.YtchedflfinkppaaMem
import Derived.Deep.QuietTactic
import Derived.BigQuiet
namespace Go.Proofs.Ytchedflfinkppaa
open Go.RowKit

/-- Nothing that was there has turned but the block b. -/
structure Only (b : Nat) (w w' : World) : Prop where
  os : w'.os = w.os
  tape : w'.tape = w.tape
  output : w'.output = w.output
  size : w.heap.size ≤ w'.heap.size
  block : ∀ g, g < w.heap.size → g ≠ b → w'.heap[g]? = w.heap[g]?
theorem Only.refl (b : Nat) (w : World) : Only b w w := ⟨rfl, rfl, rfl, Nat.le_refl _, fun _ _ _ => rfl⟩
theorem Only.of_below {b : Nat} {w w' : World} (h : Below w.heap.size w w') : Only b w w' := ⟨h.os, h.tape, h.output, h.size, fun g hg _ => h.block g hg⟩
theorem Only.trans {b : Nat} {w w' w'' : World} (h : Only b w w') (k : Only b w' w'') : Only b w w'' :=
  ⟨k.os.trans h.os, k.tape.trans h.tape, k.output.trans h.output, Nat.le_trans h.size k.size, fun g hg e => (k.block g (Nat.lt_of_lt_of_le hg h.size) e).trans (h.block g hg e)⟩
theorem set_size (w : World) (a : Addr) (v : Value) : (w.setCell a v).heap.size = w.heap.size := by simp [World.setCell]
theorem Only.set {b : Nat} {w w' : World} (h : Only b w w') (i : Nat) (u : Value) : Only b w (w'.setCell ⟨b, i, none⟩ u) :=
  ⟨h.os, h.tape, h.output, by rw [set_size]; exact h.size, fun g hg e => (Below.heap_setCell _ _ _ _ e).trans (h.block g hg e)⟩

/-- Power: whether it is down, whether it is armed, how many changes are left. -/
structure Pw where
  down : Bool
  armed : Bool
  left : Int
def Pw.ok (p : Pw) : Prop := p.armed = true → 0 ≤ p.left ∧ p.left ≤ 9223372036854775807
/-- A disk's block. -/
def Blk (w : World) (b : Nat) (p : Pw) (room : Nat) (mb : Nat) : Prop := w.heap[b]? = some (.cells #[.bool p.down, .bool p.armed, .int .i64 p.left, .int .i64 (room : Int), .map (some mb)] 69 (0, 0))
theorem Blk.cells {w : World} {b : Nat} {p : Pw} {room mb : Nat} (h : Blk w b p room mb) : w.cell? ⟨b, 0, none⟩ = some (.bool p.down) ∧ w.cell? ⟨b, 1, none⟩ = some (.bool p.armed) ∧ w.cell? ⟨b, 2, none⟩ = some (.int .i64 p.left) ∧ w.cell? ⟨b, 3, none⟩ = some (.int .i64 (room : Int)) ∧ w.cell? ⟨b, 4, none⟩ = some (.map (some mb)) := by
  unfold Blk at h
  simp [World.cell?, h]
theorem Blk.free {w : World} {b : Nat} {p : Pw} {room mb : Nat} (h : Blk w b p room mb) (k : Nat) : w.frozen? ⟨b, k, none⟩ = false := by
  unfold Blk at h
  simp [World.frozen?, h]
theorem Blk.set0 {w : World} {b : Nat} {p : Pw} {room mb : Nat} (h : Blk w b p room mb) (x : Bool) : Blk (w.setCell ⟨b, 0, none⟩ (.bool x)) b { p with down := x } room mb := by
  unfold Blk at *
  simp [World.setCell, Array.getElem?_modify, h]
theorem Blk.set1 {w : World} {b : Nat} {p : Pw} {room mb : Nat} (h : Blk w b p room mb) (x : Bool) : Blk (w.setCell ⟨b, 1, none⟩ (.bool x)) b { p with armed := x } room mb := by
  unfold Blk at *
  simp [World.setCell, Array.getElem?_modify, h]
theorem Blk.set2 {w : World} {b : Nat} {p : Pw} {room mb : Nat} (h : Blk w b p room mb) (x : Int) : Blk (w.setCell ⟨b, 2, none⟩ (.int .i64 x)) b { p with left := x } room mb := by
  unfold Blk at *
  simp [World.setCell, Array.getElem?_modify, h]

/-- a change: is there power, and what is left of it -/
def Pw.spent (p : Pw) : Pw :=
  if p.down then p else if p.armed then (if p.left = 0 then { p with down := true } else { p with left := p.left - 1 }) else p
theorem Pw.spent_ok {p : Pw} (h : p.ok) : p.spent.ok := by
  unfold Pw.spent Pw.ok at *
  split
  · exact h
  · split
    · rename_i ha
      obtain ⟨h1, h2⟩ := h ha
      split
      · exact fun _ => ⟨h1, h2⟩
      · intro _
        show 0 ≤ p.left - 1 ∧ p.left - 1 ≤ _
        omega
    · exact h

set_option maxRecDepth 100000 in
set_option maxHeartbeats 1000000 in
theorem spend_any (b room mb : Nat) (p : Pw) (w : World) (h : Blk w b p room mb) (hp : p.ok) :
    Calls Try.prog 65 #[.pointer (some ⟨b, 0, none⟩)] w fun e w' => e = .returned (.bool (!p.spent.down)) ∧ Blk w' b p.spent room mb ∧ Only b w w' := by
  obtain ⟨c0, c1, c2, _, _⟩ := h.cells
  have f0 := h.free 0
  have f2 := h.free 2
  have HB := Lib.hid h
  obtain ⟨dn, ar, lf⟩ := p
  simp only at c0 c1 c2
  clear h
  cases ar with
  | false =>
    cases dn with
    | false =>
      go_enter Try.func65, Try.ntmps65
      go_wp2_with fail
      go_ret
      exact ⟨rfl, HB.out, Only.refl _ _⟩
    | true =>
      go_enter Try.func65, Try.ntmps65
      go_wp2_with fail
      go_ret
      exact ⟨rfl, HB.out, Only.refl _ _⟩
  | true =>
    obtain ⟨h1, h2⟩ := hp rfl
    simp only at h1 h2
    by_cases h0 : lf = 0
    · subst h0
      have hset := HB.out.set0 true
      have HS := Lib.hid hset
      have x0 := hset.cells.1
      clear hset
      cases dn with
      | false =>
        go_enter Try.func65, Try.ntmps65
        go_wp2_with fail
        go_ret
        exact ⟨rfl, HS.out, (Only.refl _ _).set _ _⟩
      | true =>
        go_enter Try.func65, Try.ntmps65
        go_wp2_with fail
        go_ret
        exact ⟨rfl, by simpa [Pw.spent] using HS.out, (Only.refl _ _).set _ _⟩
    · have e0 : (lf == 0) = false := by simpa using h0
      have HS := Lib.hid (HB.out.set2 (lf - 1))
      cases dn with
      | false =>
        have HSP : Hid ((Pw.mk false true lf).spent = Pw.mk false true (lf - 1)) := by
          show _ = _
          simp [Pw.spent, h0]
        go_enter Try.func65, Try.ntmps65
        go_wp2_with fail
        go_ret
        exact ⟨by rw [HSP.out]; rfl, by rw [HSP.out]; exact HS.out, (Only.refl _ _).set _ _⟩
      | true =>
        go_enter Try.func65, Try.ntmps65
        go_wp2_with fail
        go_ret
        exact ⟨rfl, HB.out, Only.refl _ _⟩

end Go.Proofs.Ytchedflfinkppaa
