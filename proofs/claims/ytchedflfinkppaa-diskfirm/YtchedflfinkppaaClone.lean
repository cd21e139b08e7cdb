/-
  The contract of bytes.Clone.
-/
import Derived.Lib.SliceRun
import Derived.Test.YtchedflfinkppaaParts
namespace Go.Proofs.Ytchedflfinkppaa
open Go.RowKit

set_option maxRecDepth 100000 in
set_option maxHeartbeats 400000 in
theorem clone_any (S : Nat → Prop) (A : Option Addr) (n c : Nat) (p : List Int) (w : World) (hn : p.length = n) (hrow : Row S w A (u8s p)) (hpl : p.length ≤ 70368744177664) :
    Calls Try.prog 47 #[.slice A n c] w fun e w' => Gives w (u8s p) e w' := by
  subst hn
  obtain ⟨i0, hi, hz0, hz1, hz2⟩ := info_parts Try.info5
  rcases A with _ | ad
  · have hp : p = [] := by
      rcases Nat.eq_zero_or_pos p.length with h0 | h0
      · exact List.eq_nil_of_length_eq_zero h0
      · obtain ⟨_, e, _⟩ := hrow 0 (by rw [u8s_len]; exact h0)
        cases e
    subst hp
    have hq := fun u : World => Lib.run_eql_slice_nil (P := Try.prog) u 41 5 none 0 c 0 0 Try.underlying41
    go_enter Try.func47, Try.ntmps47
    go_wp2_with fail
    go_ret
    exact ⟨none, 0, rfl, Nat.le_refl _, Row.nil, Below.refl _ _⟩
  · have hq := fun u : World => Lib.run_eql_slice_nil (P := Try.prog) u 41 5 (some ad) p.length c 0 0 Try.underlying41
    have h0 : (w.alloc (.cells #[] 5)).ownsRow w.heap.size 5 1 (.slice (some ⟨w.heap.size, 0, none⟩) 0 0) 0 [] := World.ownsRow_lit w #[] 0 (Nat.le_refl _) (by decide) rfl
    have hrow1 := hrow.alloc (.cells #[] 5)
    go_enter Try.func47, Try.ntmps47
    go_wp2_with (at_builtin; refine wpList_append_row _ rfl (.tmp 5) (.tmp 6) 41 rfl w.heap.size 5 i0 (.int .u8 0) 1 Try.underlying41 hi hz0 hz1 hz2 rfl _ 0 [] rfl h0 S (some ad) p.length c (u8s p) rfl (u8s_len p) hrow1 (u8s_one p) ?c3 ?c4 ?c5 ?_; rotate_right; intro A' c' w' hown hgrow hat)
    case c3 => unfold maxLen; omega
    case c4 => omega
    case c5 => simp
    go_ret
    rw [Nat.zero_add] at hown
    have hgrow2 : (w.alloc (.cells #[] 5)).grownBy w' (some w.heap.size) := hgrow
    obtain ⟨A2, c2, hv, hc2, _, hr2⟩ := Row.of_own hown
    injection hv with hv1 _ hv3
    subst hv1 hv3
    exact ⟨A', c', by rw [u8s_len]; simp, by rw [u8s_len]; exact hc2, hr2.mono fun g _ h => h.1, ((Below.refl _ _).alloc (Nat.le_refl _) _).grown hgrow2 (by simp) (fun k e => by injection e with e; omega)⟩


end Go.Proofs.Ytchedflfinkppaa
