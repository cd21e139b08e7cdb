/-
  The contracts of ref01's Cut and scroll's atLeastNone.
-/
import Derived.Test.YtlambcmikfihgaaAppend
import Derived.Test.YtlambcmikfihgaaNum
namespace Go.Proofs.Ytlambcmikfihgaa
open Go.RowKit

set_option maxHeartbeats 400000 in
theorem atLeast_any (m : Int) (k : Nat) (w : World) (h2 : m ≤ 9223372036854775807) (hk : m.toNat = k) :
    Calls Try.prog 30 #[.int .i64 m] w fun e w' => e = .returned (.int .u64 (k : Int)) ∧ w = w' := by
  subst hk
  by_cases h : m < 0
  · have e0 : m.toNat = 0 := by omega
    rw [e0]
    go_enter Try.func30, Try.ntmps30
    go_wp2
    go_ret
    exact ⟨rfl, rfl⟩
  · obtain ⟨k, rfl⟩ := Int.eq_ofNat_of_zero_le (show 0 ≤ m by omega)
    rw [Int.toNat_natCast]
    go_enter Try.func30, Try.ntmps30
    go_wp2
    go_ret
    exact ⟨rfl, rfl⟩

set_option maxRecDepth 100000 in
set_option maxHeartbeats 400000 in
theorem cut_any (S : Nat → Prop) (A : Option Addr) (c n : Nat) (l : List Int) (w : World) (hrow : Row S w A (u8s l)) (hc : l.length ≤ c) (hl : l.length ≤ 9223372036854775807) (hn : n ≤ 70368744177664) :
    Calls Try.prog 23 #[.slice A l.length c, .int .i64 (n : Int)] w fun e w' => Gives w (u8s (l.take n)) e w' := by
  obtain ⟨i0, hi, hz0, hz1, hz2⟩ := info_parts Try.info5
  have h0 : (w.alloc (.cells #[] 5)).ownsRow w.heap.size 5 1 (.slice (some ⟨w.heap.size, 0, none⟩) 0 0) 0 [] := World.ownsRow_lit w #[] 0 (Nat.le_refl _) (by decide) rfl
  have hrow1 := (hrow.alloc (.cells #[] 5)).take n
  have htl : ((u8s l).take n).length = min n l.length := by rw [List.length_take, u8s_len]
  have hut : (u8s l).take n = u8s (l.take n) := by simp [u8s]
  rw [hut] at hrow1 htl
  have h1c := u8s_one (l.take n)
  unfold Gives
  generalize u8s (l.take n) = ys at *
  have fin : ∀ (v' : Value) (w' : World), w'.ownsRow w.heap.size 5 1 v' ys.length ys → (w.alloc (.cells #[] 5)).grownBy w' (some w.heap.size) →
      ∃ A c, Ending.returned v' = .returned (.slice A ys.length c) ∧ ys.length ≤ c ∧ Row (fun g => w.heap.size ≤ g) w' A ys ∧ Below w.heap.size w w' := by
    intro v' w' hown hgrow
    obtain ⟨A', c', rfl, hc', _, hr'⟩ := Row.of_own hown
    exact ⟨A', c', rfl, hc', hr'.mono fun g _ h => h.1, ((Below.refl _ _).alloc (Nat.le_refl _) _).grown hgrow (by simp) (fun k e => by injection e with e; omega)⟩
  clear hut
  by_cases h : l.length ≤ n
  · have hm : ys.length = l.length := by omega
    have HM := Lib.hid hm
    clear htl hm
    go_enter Try.func23, Try.ntmps23
    go_wp2_with (at_builtin; refine wpList_append_row _ rfl (.tmp 5) (.tmp 11) 25 rfl w.heap.size 5 i0 (.int .u8 0) 1 Try.underlying25 hi hz0 hz1 hz2 rfl _ 0 [] rfl h0 S A l.length c ys rfl HM.out hrow1 h1c ?c3 ?c4 ?c5 ?_; rotate_right; intro A' c' w' hown hgrow hat)
    case c3 => unfold maxLen; omega
    case c4 => omega
    case c5 => simp
    go_ret
    rw [Nat.zero_add] at hown
    exact fin _ w' (by rw [HM.out]; exact hown) hgrow
  · have hm : ys.length = n := by omega
    have HM := Lib.hid hm
    clear htl hm
    go_enter Try.func23, Try.ntmps23
    go_wp2_with (at_builtin; refine wpList_append_row _ rfl (.tmp 5) (.tmp 11) 25 rfl w.heap.size 5 i0 (.int .u8 0) 1 Try.underlying25 hi hz0 hz1 hz2 rfl _ 0 [] rfl h0 S A n c ys rfl HM.out hrow1 h1c ?d3 ?d4 ?d5 ?_; rotate_right; intro A' c' w' hown hgrow hat)
    case d3 => unfold maxLen; omega
    case d4 => omega
    case d5 => simp
    go_ret
    rw [Nat.zero_add] at hown
    exact fin _ w' (by rw [HM.out]; exact hown) hgrow

end Go.Proofs.Ytlambcmikfihgaa
