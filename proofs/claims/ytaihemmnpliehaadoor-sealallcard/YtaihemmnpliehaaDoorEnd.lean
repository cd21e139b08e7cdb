/-
  The contract of frameEnd where a frame isn't all there; of Next and All there.
-/
import Derived.Test.YtaihemmnpliehaaDoorAwake
import Derived.Deep.QuietTactic
import Derived.BigQuiet
namespace Go.Proofs.YtaihemmnpliehaaDoor
open Go.RowKit

theorem ofInt_i64 (a : Nat) (h : a < 9223372036854775808) : (BitVec.ofInt 64 (a : Int)).toNat = a := by
  rw [BitVec.ofInt_natCast, BitVec.toNat_ofNat]; exact Nat.mod_eq_of_lt (by omega)
theorem or_bytes (a b : Nat) (ha : a < 256) (hb : b < 256) : bits BinOp.or IntKind.i64 (a : Int) ((b : Int) * 256) = ((a + 256 * b : Nat) : Int) := by
  have e : ((b : Int) * 256) = ((256 * b : Nat) : Int) := by omega
  rw [e]
  show IntKind.i64.wrap ((BitVec.ofInt 64 (a : Int) ||| BitVec.ofInt 64 ((256 * b : Nat) : Int)).toNat : Int) = _
  rw [BitVec.toNat_or, ofInt_i64 a (by omega), ofInt_i64 _ (by omega), IntKind.wrap_i64]
  have h := Nat.two_pow_add_eq_or_of_lt (i := 8) (show a < 2 ^ 8 by omega) b
  rw [Nat.or_comm, show 256 * b = 2 ^ 8 * b from rfl, ← h]
  omega

/-- how many bytes p says that its frame carries -/
def saidSize (p : List Int) : Nat := (p.getD 4 0).toNat + 256 * (p.getD 5 0).toNat

set_option maxRecDepth 100000 in
set_option maxHeartbeats 800000 in
theorem frameEnd_few (A : Option Addr) (c : Nat) (p : List Int) (w : World) (hs : p.length < 6) :
    Calls Tryd.prog 26 #[.slice A p.length c] w fun e w' => e = .returned (.tuple #[.int .i64 0, .int .i64 2]) ∧ w = w' := by
  have hs' : (p.length : Int) < 6 := by omega
  go_enter Tryd.func26, Tryd.ntmps26
  go_wp2_with fail
  go_ret2
  exact ⟨rfl, rfl⟩

set_option maxRecDepth 100000 in
set_option maxHeartbeats 800000 in
theorem frameEnd_short (S : Nat → Prop) (A : Option Addr) (c : Nat) (p : List Int) (w : World) (hrow : Row S w A (u8s p)) (h8 : Bytes8 p) (hs : 6 ≤ p.length) (hz : saidSize p ≤ 4096) (hlt : p.length < 6 + saidSize p) :
    Calls Tryd.prog 26 #[.slice A p.length c] w fun e w' => e = .returned (.tuple #[.int .i64 0, .int .i64 2]) ∧ Below w.heap.size w w' := by
  obtain ⟨ad, rfl, _, _, c4⟩ := hrow 4 (by rw [u8s_len]; omega)
  obtain ⟨ad', e', _, _, c5⟩ := hrow 5 (by rw [u8s_len]; omega)
  injection e' with e'
  subst e'
  have h4 : 4 < p.length := by omega
  have h5 : 5 < p.length := by omega
  rw [u8s_at h4] at c4
  rw [u8s_at h5] at c5
  have b4 := h8 _ (List.getElem_mem h4)
  have b5 := h8 _ (List.getElem_mem h5)
  obtain ⟨x, hx⟩ := Int.eq_ofNat_of_zero_le b4.1
  obtain ⟨y, hy⟩ := Int.eq_ofNat_of_zero_le b5.1
  have hsz : saidSize p = x + 256 * y := by
    unfold saidSize
    rw [List.getD_eq_getElem?_getD, List.getD_eq_getElem?_getD, List.getElem?_eq_getElem h4, List.getElem?_eq_getElem h5]
    simp only [Option.getD_some]
    rw [hx, hy]; omega
  rw [hx] at c4 b4
  rw [hy] at c5 b5
  have hor := or_bytes x y (by omega) (by omega)
  rw [hsz] at hz hlt
  clear hx hy hsz
  have c4' : w.cell? ⟨ad.block, ad.off + 4, none⟩ = some (.int .u8 (x : Int)) := by simpa [Addr.add] using c4
  have c5' : w.cell? ⟨ad.block, ad.off + 5, none⟩ = some (.int .u8 (y : Int)) := by simpa [Addr.add] using c5
  have hs' : ¬ (p.length : Int) < 6 := by omega
  obtain ⟨n, hn⟩ : ∃ n, n = x + 256 * y := ⟨_, rfl⟩
  rw [← hn] at hor hz hlt
  clear hn
  have z1 : ¬ (4096 : Int) < (n : Int) := by omega
  have i4 : (4 : Int) < (p.length : Int) := by omega
  have i5 : (5 : Int) < (p.length : Int) := by omega
  have z2 : (p.length : Int) < 6 + (n : Int) := by omega
  go_enter Tryd.func26, Tryd.ntmps26
  go_wp2_with fail
  go_quiet (fail)
  go_wp2_with fail
  go_ret2
  exact ⟨rfl, rfl, rfl, rfl, Nat.le_refl _, fun _ _ => rfl⟩

/-- not all of a frame is there -/
def ShortP (p : List Int) : Prop := p.length < 6 ∨ (6 ≤ p.length ∧ saidSize p ≤ 4096 ∧ p.length < 6 + saidSize p)

theorem frameEnd_no (S : Nat → Prop) (A : Option Addr) (n c : Nat) (p : List Int) (w : World) (hn : p.length = n) (hrow : Row S w A (u8s p)) (h8 : Bytes8 p) (hs : ShortP p) :
    Calls Tryd.prog 26 #[.slice A n c] w fun e w' => e = .returned (.tuple #[.int .i64 0, .int .i64 2]) ∧ Below w.heap.size w w' := by
  subst hn
  rcases hs with h | ⟨h1, h2, h3⟩
  · exact (frameEnd_few A c p w h).mono fun e w' ⟨a, b⟩ => ⟨a, by rw [← b]; exact Below.refl _ _⟩
  · exact frameEnd_short S A c p w hrow h8 h1 h2 h3

set_option maxRecDepth 100000 in
set_option maxHeartbeats 800000 in
theorem next_no (S : Nat → Prop) (A : Option Addr) (n c : Nat) (p : List Int) (w : World) (hn : p.length = n) (hrow : Row S w A (u8s p)) (h8 : Bytes8 p) (hs : ShortP p) :
    Calls Tryd.prog 19 #[.slice A n c] w fun e w' => e = .returned (.tuple #[.slice none 0 0, .slice none 0 0, .int .i64 2]) ∧ Below w.heap.size w w' := by
  go_enter Tryd.func19, Tryd.ntmps19
  go_wp2_with fail
  refine (frameEnd_no S A n c p _ hn hrow h8 hs).mono ?_
  rintro e w1 ⟨rfl, hb1⟩
  go_wp2_with fail
  go_ret3
  exact ⟨rfl, hb1⟩

set_option maxRecDepth 100000 in
set_option maxHeartbeats 800000 in
theorem all_no (S : Nat → Prop) (A : Option Addr) (n c : Nat) (p : List Int) (w : World) (hn : p.length = n) (hrow : Row S w A (u8s p)) (h8 : Bytes8 p) (hs : ShortP p) :
    Calls Tryd.prog 22 #[.slice A n c] w fun e w' => e = .returned (.tuple #[.slice none 0 0, .int .i64 0]) ∧ Below w.heap.size w w' := by
  go_enter Tryd.func22, Tryd.ntmps22
  go_wp2_with fail
  refine wp_loop_rounds 1 ?_
  rw [rounds_succ]
  go_wp2_with fail
  refine (frameEnd_no S A n c p _ hn hrow h8 hs).mono ?_
  rintro e w1 ⟨rfl, hb1⟩
  go_wp2_with fail
  go_ret2
  exact ⟨rfl, hb1⟩

end Go.Proofs.YtaihemmnpliehaaDoor
