/-
  The contracts of ref01's Low and Frame, and of the statements' whole.
-/
import Derived.Test.YtaihemmnpliehaaDoorParts
namespace Go.Proofs.YtaihemmnpliehaaDoor
open Go.RowKit

/-- a number's bytes, the lowest first -/
def lowL (n : Nat) : Nat → List Int
  | 0 => []
  | k + 1 => lowL n k ++ [((n / 256 ^ k % 256 : Nat) : Int)]
theorem lowL_len (n : Nat) : ∀ k, (lowL n k).length = k
  | 0 => rfl
  | k + 1 => by simp [lowL, lowL_len n k]
theorem lowL_2 (n : Nat) : lowL n 2 = le16 n := by simp [lowL, le16]
theorem lowL_4 (n : Nat) : lowL n 4 = le32 n := by simp [lowL, le32]

/-- New bytes with a row of their own. -/
def GivesO (w : World) (l : List Int) (e : Ending) (w' : World) : Prop := ∃ A c, e = .returned (.slice A l.length c) ∧ w'.ownsRow w.heap.size 5 1 (.slice A l.length c) l.length (u8s l) ∧ Below w.heap.size w w'

set_option maxRecDepth 100000 in
set_option maxHeartbeats 800000 in
theorem low_any (n k : Nat) (w : World) (hn : n < 18446744073709551616) (hk : k ≤ 100) :
    Calls Tryd.prog 25 #[.int .u64 (n : Int), .int .i64 (k : Int)] w fun e w' => GivesO w (lowL n k) e w' := by
  obtain ⟨i0, hi0, hz0, hz1, hz2⟩ := info_parts Tryd.info5
  go_enter Tryd.func25, Tryd.ntmps25
  go_wp2_with fail
  go_loopw [0, 5, 7] (fun m v i wr => ∃ j : Nat, j ≤ k ∧ i = .int .i64 j ∧ m = .int .u64 ((n / 256 ^ j : Nat) : Int) ∧ wr.ownsRow w.heap.size 5 1 v j (u8s (lowL n j)) ∧ Below w.heap.size w wr) (fun _ _ i _ => k - (intOf i).toNat)
  case atStart => exact ⟨0, Nat.zero_le _, rfl, by simp, ⟨by simp [u8s, lowL], .inl ⟨rfl, rfl⟩⟩, Below.refl _ _⟩
  case round =>
    obtain ⟨j, hj, rfl, rfl, hown, hbl⟩ := hrel
    by_cases hlt : j < k
    · have i1 : (j : Int) < (k : Int) := by omega
      have hm : n / 256 ^ j < 18446744073709551616 := Nat.lt_of_le_of_lt (Nat.div_le_self _ _) hn
      have HD := Lib.hid (show n / 256 ^ (j + 1) = n / 256 ^ j / 256 by rw [Nat.pow_succ, Nat.div_div_eq_div_mul])
      have HL := Lib.hid (show u8s (lowL n (j + 1)) = u8s (lowL n j) ++ [.int .u8 ((n / 256 ^ j % 256 : Nat) : Int)] by simp [u8s, lowL])
      generalize n / 256 ^ j = m at *
      have HO1 : Hid ((wr.alloc (.cells #[.int .u8 ((m : Int) % 256)] 5)).ownsRow w.heap.size 5 1 u5 j (u8s (lowL n j))) := hown.alloc _
      have HG : Hid (∀ g, u5.ownBlock = some g → w.heap.size ≤ g) := fun g hg => (own_lt hown hg).1
      have hsz := hbl.size
      have hr1 : Row (fun _ => True) (wr.alloc (.cells #[.int .u8 ((m : Int) % 256)] 5)) (some ⟨wr.heap.size, 0, none⟩) [.int .u8 ((m : Int) % 256)] := Row.of_block (heap_alloc_new wr _) trivial
      go_wp2_with (at_builtin; refine wpList_append_row _ rfl (.tmp 9) (.tmp 13) 24 rfl w.heap.size 5 i0 (.int .u8 0) 1 Tryd.underlying24 hi0 hz0 hz1 hz2 rfl u5 j (u8s (lowL n j)) rfl HO1.out (fun _ => True) (some ⟨wr.heap.size, 0, none⟩) 1 1 [.int .u8 ((m : Int) % 256)] rfl rfl hr1 ?c1 ?c2 ?c3 ?c4 ?_; rotate_right; intro A8 c8 w8 hown8 hgrow8 hat8)
      case c1 => simp [Value.oneCell']
      case c2 => unfold maxLen; omega
      case c3 => omega
      case c4 => simp; omega
      have hb8 : Below w.heap.size w w8 := (hbl.alloc hsz _).grown hgrow8 (by simp; omega) HG.out
      have HO8 := Lib.hid (show w8.ownsRow w.heap.size 5 1 (.slice A8 (j + 1) c8) (j + 1) (u8s (lowL n (j + 1))) by
        rw [HL.out, show ((m % 256 : Nat) : Int) = (m : Int) % 256 by omega]; exact hown8)
      clear hown8 hgrow8 hat8 hr1
      go_wp2_with fail
      go_roundw
      case rel => exact ⟨j + 1, by omega, by go_num, by rw [HD.out]; go_num, HO8.out, hb8⟩
      case measure => simp [intOf]; omega
    · have i1 : ¬ (j : Int) < (k : Int) := by omega
      have HJ := Lib.hid (show j = k by omega)
      obtain ⟨A8, c8, hv8, _, _, _⟩ := Row.of_own hown
      have HV := Lib.hid hv8
      clear hv8
      go_wp2_with fail
      go_ret
      refine ⟨A8, c8, ?_, ?_, hbl⟩
      · rw [lowL_len, ← HJ.out]; show Ending.returned u5 = _; rw [HV.out]
      · rw [lowL_len, ← HJ.out, ← HV.out]; exact hown

/-- what ref's Frame gives -/
def GivesF (w : World) (l : List Int) (e : Ending) (w' : World) : Prop := ∃ A c, e = .returned (.tuple #[.slice A (frameOf l).length c, .int .i64 0]) ∧ (frameOf l).length ≤ c ∧ Row (fun g => w.heap.size ≤ g) w' A (u8s (frameOf l)) ∧ Below w.heap.size w w'

theorem rframe_long (A : Option Addr) (n c : Nat) (w : World) (hn : 4096 < n) (hl : n ≤ 70368744177664) :
    Calls Tryd.prog 13 #[.slice A n c] w fun e w' => e = .returned (.tuple #[.slice none 0 0, .int .i64 3]) ∧ w = w' := by
  have i1 : (4096 : Int) < (n : Int) := by omega
  go_enter Tryd.func13, Tryd.ntmps13
  go_wp2_with fail
  go_ret2
  exact ⟨rfl, rfl⟩

set_option maxRecDepth 100000 in
set_option maxHeartbeats 1600000 in
theorem rframe_good (S : Nat → Prop) (A : Option Addr) (c : Nat) (l : List Int) (w : World) (hrow : Row S w A (u8s l)) (h8 : Bytes8 l) (hl : l.length ≤ 4096) :
    Calls Tryd.prog 13 #[.slice A l.length c] w fun e w' => GivesF w l e w' := by
  obtain ⟨i0, hi0, hz0, hz1, hz2⟩ := info_parts Tryd.info5
  have i1 : ¬ (4096 : Int) < (l.length : Int) := by omega
  have HLOW : Hid (Calls Tryd.prog 25 #[.int .u64 (l.length : Int), .int .i64 2] w fun e w' => GivesO w (le16 l.length) e w') := by have := low_any l.length 2 w (by omega) (by decide); rw [lowL_2] at this; exact this
  have hl2 : (le16 l.length).length = 2 := rfl
  have h84 : Bytes8 (le16 l.length ++ l) := fun x hx => by
    rcases List.mem_append.1 hx with h | h
    · simp [le16] at h; omega
    · exact h8 x h
  have hsl : sumOf (le16 l.length ++ l) < 4294967296 := Nat.xor_lt_two_pow (n := 32) (crc_lt _ _ (by omega) h84) (by omega)
  have hfo : frameOf l = le32 (sumOf (le16 l.length ++ l)) ++ (le16 l.length ++ l) := rfl
  have HFO := Lib.hid hfo
  clear hfo
  generalize le16 l.length = h2 at *
  have HL2 := Lib.hid hl2
  clear hl2
  go_enter Tryd.func13, Tryd.ntmps13
  go_wp2_with fail
  refine (HLOW.out).mono ?_
  rintro e w1 ⟨A1, c1, rfl, hown1, hb1⟩
  rw [HL2.out] at hown1 ⊢
  have hrow1 := hrow.below hb1
  go_wp2_with (at_builtin; refine wpList_append_row _ rfl (.tmp 11) (.tmp 12) 24 rfl w.heap.size 5 i0 (.int .u8 0) 1 Tryd.underlying24 hi0 hz0 hz1 hz2 rfl (.slice A1 2 c1) 2 (u8s h2) rfl hown1 S A l.length c (u8s l) rfl (u8s_len l) hrow1 (u8s_one l) ?c1 ?c2 hb1.size ?_; rotate_right; intro A2 c2 w2 hown2 hgrow2 hat2)
  case c1 => unfold maxLen; omega
  case c2 => omega
  have hb2 : Below w.heap.size w w2 := hb1.grown hgrow2 hb1.size (fun g hg => (own_lt hown1 hg).1)
  have e2 : u8s h2 ++ u8s l = u8s (h2 ++ l) := by simp [u8s]
  rw [e2] at hown2
  obtain ⟨A3, c3, hv3, hc3, _, hr3⟩ := Row.of_own hown2
  injection hv3 with hv31 _ hv33
  subst hv31 hv33
  have hln : (h2 ++ l).length = 2 + l.length := by rw [List.length_append, HL2.out]
  have HLN := Lib.hid hln
  have HS := Lib.hid (rsum_any _ A2 (2 + l.length) c2 (h2 ++ l) w2 hln hr3 h84 (by omega))
  have hr3' := hr3.any
  clear hln hown1 hgrow2 hat2 hrow1 hr3
  generalize hrl : h2 ++ l = rl at *
  have HRL := Lib.hid hrl
  clear hrl
  generalize sumOf rl = sm at *
  go_wp2_with fail
  refine (HS.out).mono ?_
  rintro e w3 ⟨rfl, rfl⟩
  have HLW : Hid (Calls Tryd.prog 25 #[.int .u64 (sm : Int), .int .i64 4] w2 fun e w' => GivesO w2 (le32 sm) e w') := by have := low_any sm 4 w2 (by omega) (by decide); rw [lowL_4] at this; exact this
  have hl4 : (le32 sm).length = 4 := rfl
  generalize le32 sm = h4 at *
  go_wp2_with fail
  refine (HLW.out).mono ?_
  rintro e w3 ⟨A4, c4, rfl, hown4, hb4⟩
  rw [hl4] at hown4 ⊢
  have HL4 := Lib.hid hl4
  clear hl4
  have hr4 := hr3'.below hb4
  go_wp2_with (at_builtin; refine wpList_append_row _ rfl (.tmp 17) (.tmp 18) 24 rfl w2.heap.size 5 i0 (.int .u8 0) 1 Tryd.underlying24 hi0 hz0 hz1 hz2 rfl (.slice A4 4 c4) 4 (u8s h4) rfl hown4 (fun _ => True) A2 (2 + l.length) c2 (u8s rl) rfl ?d0 hr4 (u8s_one rl) ?d1 ?d2 hb4.size ?_; rotate_right; intro A5 c5 w5 hown5 hgrow5 hat5)
  case d0 => rw [u8s_len]; exact HLN.out
  case d1 => unfold maxLen; omega
  case d2 => omega
  have hb5 : Below w2.heap.size w2 w5 := hb4.grown hgrow5 hb4.size (fun g hg => (own_lt hown4 hg).1)
  have e5 : u8s h4 ++ u8s rl = u8s (frameOf l) := by rw [HFO.out]; simp [u8s]
  rw [e5] at hown5
  have hlf : (frameOf l).length = 4 + (2 + l.length) := by rw [HFO.out, List.length_append, HL4.out, HLN.out]
  obtain ⟨A6, c6, hv6, hc6, _, hr6⟩ := Row.of_own hown5
  injection hv6 with hv61 _ hv63
  subst hv61 hv63
  have HR := Lib.hid (hr6.mono (S' := fun g => w.heap.size ≤ g) fun g _ h => Nat.le_trans hb2.size h.1)
  have HLF := Lib.hid hlf
  clear hlf hr6 hown5 hgrow5 hat5
  go_wp2_with fail
  go_ret2
  refine ⟨A5, c5, ?_, by rw [HLF.out]; exact hc6, HR.out, hb2.trans (hb5.mono hb2.size)⟩
  rw [HLF.out]
  rfl

end Go.Proofs.YtaihemmnpliehaaDoor
