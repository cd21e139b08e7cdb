/-
  The contract of ref02's Text.
-/
import Derived.Test.YtlambcmikfihgaaRefNum
namespace Go.Proofs.Ytlambcmikfihgaa
open Go.RowKit

set_option maxRecDepth 100000 in
set_option maxHeartbeats 400000 in
theorem refText_any (S : Nat → Prop) (A : Option Addr) (c : Nat) (t : List Int) (w : World) (hr : Row S w A (u8s t)) (hl : t.length ≤ 70368744177000) :
    Calls Try.prog 10 #[.slice A t.length c] w fun e w' => GaveO w (textB t) e w' := by
  obtain ⟨i0, hi, hz0, hz1, hz2⟩ := info_parts Try.info5
  have hU : t.length < U64 := by unfold U64; omega
  have hml : (vi t.length).length ≤ 10 := vi_len10 hU
  have HI := Lib.hid (refNum_any t.length w hU)
  have HTB := Lib.hid (show textB t = vi t.length ++ t from rfl)
  have i1 : (t.length : Int) % 18446744073709551616 = (t.length : Int) := by omega
  obtain ⟨vl, hvl⟩ : ∃ x, vi t.length = x := ⟨_, rfl⟩
  rw [hvl] at HI HTB hml
  clear hvl hU
  go_enter Try.func10, Try.ntmps10
  go_wp2_with fail
  refine (HI.out).mono ?_
  rintro e w2 ⟨A2, c2, rfl, ho2, hb2⟩
  have hs2 := hb2.size
  have hr2 := hr.below hb2
  go_wp2_with (at_builtin; refine wpList_append_row _ rfl (.tmp 6) (.tmp 7) 25 rfl w.heap.size 5 i0 (.int .u8 0) 1 Try.underlying25 hi hz0 hz1 hz2 rfl (.slice A2 vl.length c2) vl.length (u8s vl) rfl ho2 _ A t.length c (u8s t) rfl (u8s_len _) hr2 (u8s_one _) ?k1 ?k2 ?k3 ?_; rotate_right; intro A3 c3 w3 hown3 hgrow3 hat3)
  case k1 => unfold maxLen; omega
  case k2 => omega
  case k3 => omega
  have hb3 : Below w.heap.size w w3 := hb2.grown hgrow3 (by omega) (fun g hg => (own_lt ho2 hg).1)
  have HG : Hid (GaveO w (textB t) (.returned (.slice A3 (vl.length + t.length) c3)) w3) := by
    rw [HTB.out]
    refine ⟨A3, c3, by rw [List.length_append], ?_, hb3⟩
    rw [List.length_append, show u8s (vl ++ t) = u8s vl ++ u8s t by simp [u8s]]
    exact hown3
  clear hown3 hgrow3 hat3 ho2 hb2 hr2
  go_wp2_with fail
  go_ret
  exact HG.out

end Go.Proofs.Ytlambcmikfihgaa
