/-
  The contract of ref02's Vec.
-/
import Derived.Test.YtlambcmikfihgaaRefWhole
namespace Go.Proofs.Ytlambcmikfihgaa
open Go.RowKit

set_option maxRecDepth 100000 in
set_option maxHeartbeats 400000 in
theorem refVec_any (S : Nat → Prop) (A : Option Addr) (c : Nat) (ys : List Int) (w : World) (hr : Row S w A (i32s ys)) (hl : ys.length ≤ 1000) (hi3 : ∀ y ∈ ys, I32 y) :
    Calls Try.prog 12 #[.slice A ys.length c] w fun e w' => GaveO w (vecB ys) e w' := by
  obtain ⟨i0, hi, hz0, hz1, hz2⟩ := info_parts Try.info5
  have hU : ys.length < U64 := by unfold U64; omega
  have hml : (vi ys.length).length ≤ 10 := vi_len10 hU
  have HI := Lib.hid (refNum_any ys.length w hU)
  have HTB := Lib.hid (show vecB ys = vi ys.length ++ (ys.flatMap fun n => vi (foldI n)) from rfl)
  have i1 : (ys.length : Int) % 18446744073709551616 = (ys.length : Int) := by omega
  have H3 := Lib.hid hi3
  obtain ⟨vl, hvl⟩ : ∃ x, vi ys.length = x := ⟨_, rfl⟩
  rw [hvl] at HI HTB hml
  clear hvl hU hi3
  go_enter Try.func12, Try.ntmps12
  go_wp2_with fail
  refine (HI.out).mono ?_
  rintro e w2 ⟨A2, c2, rfl, ho2, hb2⟩
  have hs2 := hb2.size
  go_wp2_with fail
  go_loopw [3, 5, 12] (fun v _ i wr => ∃ k : Nat, k ≤ ys.length ∧ i = .int .i64 k ∧ wr.ownsRow w.heap.size 5 1 v (vl ++ (ys.take k).flatMap fun n => vi (foldI n)).length (u8s (vl ++ (ys.take k).flatMap fun n => vi (foldI n))) ∧ Below w.heap.size w wr) (fun _ _ i _ => ys.length - (intOf i).toNat)
  case atStart => exact ⟨0, Nat.zero_le _, rfl, by simpa using ho2, hb2⟩
  case round =>
    obtain ⟨k, hk, rfl, ho, hbl⟩ := hrel
    have hsz := hbl.size
    by_cases hlt : k < ys.length
    · have j1 : (k : Int) < (ys.length : Int) := by omega
      obtain ⟨ad, rfl, _, _, hcell⟩ := (hr.below hbl) k (by rw [i32s_len]; exact hlt)
      rw [i32s_at hlt] at hcell
      have HW := Lib.hid (refWhole_any ys[k] wr (H3.out _ (List.getElem_mem hlt)))
      have HQ := Lib.hid (flat_next (f := fun n => vi (foldI n)) hlt vl)
      have hfl : ((ys.take k).flatMap fun n => vi (foldI n)).length ≤ 10 * k := by
        have := wholes_len (ys.take k) fun y hy => H3.out y (List.mem_of_mem_take hy)
        rw [List.length_take] at this
        unfold wholes at this
        omega
      have hvl : (vi (foldI ys[k])).length ≤ 10 := vi_len10 (foldI_lt (H3.out _ (List.getElem_mem hlt)))
      have hpl : (vl ++ (ys.take k).flatMap fun n => vi (foldI n)).length ≤ 20000 := by rw [List.length_append]; omega
      rw [show [ys[k]].flatMap (fun n => vi (foldI n)) = vi (foldI ys[k]) by simp] at HQ
      generalize (vl ++ (ys.take k).flatMap fun n => vi (foldI n)) = pl at *
      generalize vi (foldI ys[k]) = nl at *
      generalize ys[k] = y at *
      clear hfl hr
      go_wp2_with fail
      refine (HW.out).mono ?_
      rintro e w4 ⟨A4, c4, rfl, ho4, hb4⟩
      obtain ⟨A4', c4', q1, hc4, _, r4⟩ := Row.of_own ho4
      injection q1 with q11 _ q13
      subst q11 q13
      have ho' := own_below ho hb4
      have hs4 := hb4.size
      have HG5 : Hid (∀ g, u3.ownBlock = some g → w.heap.size ≤ g ∧ g < wr.heap.size) := fun g hg => own_lt ho hg
      go_wp2_with (at_builtin; refine wpList_append_row _ rfl (.tmp 16) (.tmp 18) 25 rfl w.heap.size 5 i0 (.int .u8 0) 1 Try.underlying25 hi hz0 hz1 hz2 rfl u3 pl.length (u8s pl) rfl ho' _ A4 nl.length c4 (u8s nl) rfl (u8s_len _) r4 (u8s_one _) ?k1 ?k2 ?k3 ?_; rotate_right; intro A5 c5 w5 hown5 hgrow5 hat5)
      case k1 => unfold maxLen; omega
      case k2 => omega
      case k3 => omega
      have hb5 : Below w.heap.size w w5 := (hbl.trans (hb4.mono hsz)).grown hgrow5 (by omega) (fun g hg => (HG5.out g hg).1)
      have HO := Lib.hid (show w5.ownsRow w.heap.size 5 1 (.slice A5 (pl.length + nl.length) c5) (pl ++ nl).length (u8s (pl ++ nl)) by
        rw [List.length_append, show u8s (pl ++ nl) = u8s pl ++ u8s nl by simp [u8s]]; exact hown5)
      clear hown5 hgrow5 hat5 ho ho' ho4 r4 hb4
      go_wp2_with fail
      go_roundw
      case rel => exact ⟨k + 1, by omega, by go_num, by rw [HQ.out]; exact HO.out, hb5⟩
      case measure => simp [intOf]; omega
    · have j1 : ¬ (k : Int) < (ys.length : Int) := by omega
      obtain rfl : k = ys.length := by omega
      rw [List.take_length, ← HTB.out] at ho
      obtain ⟨A6, c6, rfl, _, _, _⟩ := Row.of_own ho
      clear hr
      go_wp2_with fail
      go_ret
      exact ⟨A6, c6, rfl, ho, hbl⟩

end Go.Proofs.Ytlambcmikfihgaa
