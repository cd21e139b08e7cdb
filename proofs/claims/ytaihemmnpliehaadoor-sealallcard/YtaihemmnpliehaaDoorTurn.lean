/-
  The contract of ref01's Turn.
-/
import Derived.Test.YtaihemmnpliehaaDoorBurstMath
import Derived.BigRegion
namespace Go.Proofs.YtaihemmnpliehaaDoor
open Go.RowKit

theorem bit_and (pat k : Nat) (hp : pat < 4294967296) : bits BinOp.and IntKind.u32 ((pat : Int) / 2 ^ k) 1 = if pat.testBit k = true then 1 else 0 := by
  have hand : ∀ y : Nat, y < 4294967296 → bits BinOp.and IntKind.u32 (y : Int) 1 = ((y % 2 : Nat) : Int) := fun y hy => by
    rw [show (1 : Int) = ((1 : Nat) : Int) from rfl, u32_and_nat y 1 hy (by omega), Nat.and_one_is_mod]
  have hd : pat / 2 ^ k < 4294967296 := Nat.lt_of_le_of_lt (Nat.div_le_self _ _) hp
  rw [show ((pat : Int) / 2 ^ k) = ((pat / 2 ^ k : Nat) : Int) by push_cast; rfl, hand _ hd, Nat.testBit_eq_decide_div_mod_eq]
  rcases Nat.mod_two_eq_zero_or_one (pat / 2 ^ k) with h | h <;> simp [h]

theorem flip_8 {l : List Int} (h : Bytes8 l) (k : Nat) : Bytes8 (flip l k) := fun x hx => by
  rcases List.mem_or_eq_of_mem_set hx with h1 | h1
  · exact h x h1
  · have ha : (l.getD (k / 8) 0).toNat < 256 := by
      by_cases hk : k / 8 < l.length
      · have := h _ (List.getElem_mem hk)
        rw [List.getD_eq_getElem?_getD, List.getElem?_eq_getElem hk]
        simp; omega
      · rw [List.getD_eq_getElem?_getD, List.getElem?_eq_none (by omega)]; simp
    have hb : 2 ^ (k % 8) < 2 ^ 8 := Nat.pow_lt_pow_right (by omega) (by omega)
    have := Nat.xor_lt_two_pow (n := 8) ha hb
    omega
theorem turnTo_8 {l : List Int} (h : Bytes8 l) (at_ pat : Nat) : ∀ i, Bytes8 (turnTo l at_ pat i)
  | 0 => h
  | i + 1 => by
    simp only [turnTo]
    split
    · exact flip_8 (turnTo_8 h at_ pat i) _
    · exact turnTo_8 h at_ pat i
theorem byte_turn (x : Int) (r : Nat) (h1 : 0 ≤ x) (h2 : x < 256) (hr : r < 8) : bits BinOp.xor IntKind.u8 x (2 ^ r % 256) = ((x.toNat ^^^ 2 ^ r : Nat) : Int) := by
  have hb : 2 ^ r < 2 ^ 8 := Nat.pow_lt_pow_right (by omega) (by omega)
  have e : (2 ^ r % 256 : Int) = ((2 ^ r : Nat) : Int) := by
    have hr' : r = 0 ∨ r = 1 ∨ r = 2 ∨ r = 3 ∨ r = 4 ∨ r = 5 ∨ r = 6 ∨ r = 7 := by omega
    rcases hr' with rfl | rfl | rfl | rfl | rfl | rfl | rfl | rfl <;> rfl
  rw [e]
  conv => lhs; rw [show x = ((x.toNat : Nat) : Int) by omega]
  exact u8_xor_nat _ _ (by omega) (by omega)

set_option maxRecDepth 100000 in
set_option maxHeartbeats 800000 in
theorem turn_any (S : Nat → Prop) (A : Option Addr) (n c at_ pat : Nat) (l : List Int) (w : World) (hn : l.length = n) (hrow : Row S w A (u8s l)) (h8 : Bytes8 l) (hpl : n ≤ 1000) (hat : at_ < 8 * n) (hp : pat < 4294967296) :
    Calls Tryd.prog 24 #[.slice A n c, .int .i64 (at_ : Int), .int .u32 (pat : Int)] w fun e w' => ∃ A' c', e = .returned (.slice A' n c') ∧ n ≤ c' ∧ Row (fun g => w.heap.size ≤ g) w' A' (u8s (turnTo l at_ pat 32)) ∧ Below w.heap.size w w' := by
  go_enter Tryd.func24, Tryd.ntmps24
  go_wp2_with fail
  refine (copy_any S A n c l w hn hrow (by omega)).mono ?_
  rintro e w1 ⟨A1, c1, rfl, hc1, hown1, hr1, hb1⟩
  go_wp2_with fail
  go_loopw [8, 9, 12] (fun _ _ i wr => ∃ k : Nat, k ≤ 32 ∧ i = .int .i64 k ∧ wr.ownsRow w.heap.size 5 1 (.slice A1 n c1) n (u8s (turnTo l at_ pat k)) ∧ Below w.heap.size w wr) (fun _ _ i _ => 32 - (intOf i).toNat)
  case atStart => exact ⟨0, Nat.zero_le _, rfl, hown1, hb1⟩
  case round =>
    obtain ⟨k, hk, rfl, hown, hbl⟩ := hrel
    by_cases hlt : k < 32
    · have i1 : (k : Int) < 32 := by omega
      have hbit := bit_and pat k hp
      have HLEN := Lib.hid (turnTo_len l at_ pat k)
      cases htb : pat.testBit k with
      | true =>
        rw [htb, if_pos rfl] at hbit
        by_cases hin : at_ + k < 8 * n
        · have hin' : (at_ : Int) + (k : Int) < 8 * (n : Int) := by omega
          obtain ⟨q, hq⟩ : ∃ q : Nat, ((at_ : Int) + (k : Int)) / 8 = q := ⟨(at_ + k) / 8, by omega⟩
          obtain ⟨r, hr⟩ : ∃ r : Nat, ((at_ : Int) + (k : Int)) % 8 = r := ⟨(at_ + k) % 8, by omega⟩
          have hq' : ((at_ : Int) + (k : Int)).tdiv 8 = q := by rw [Int.tdiv_eq_ediv_of_nonneg (by omega)]; exact hq
          have hr' : ((at_ : Int) + (k : Int)).tmod 8 = r := by rw [Int.tmod_eq_emod_of_nonneg (by omega)]; exact hr
          have hqn : q < n := by omega
          have hr8 : r < 8 := by omega
          obtain ⟨g, cap, hv, hgB, hglt⟩ := hown.form (by omega)
          injection hv with hv1 _ hv3
          subst hv1 hv3
          have hcell := hown.cellAt q (by omega)
          have hfz := hown.frozenAt q
          have hqt : q < (turnTo l at_ pat k).length := by rw [HLEN.out, hn]; exact hqn
          rw [u8s_at hqt] at hcell
          have j1 : (0 : Int) ≤ (q : Int) := by omega
          have j2 : (q : Int) < (n : Int) := by omega
          have hx8 := turnTo_8 h8 at_ pat k _ (List.getElem_mem hqt)
          have hst : (u8s (turnTo l at_ pat k)).set q (.int .u8 (((turnTo l at_ pat k)[q].toNat ^^^ 2 ^ r : Nat) : Int)) = u8s (turnTo l at_ pat (k + 1)) := by
            have e1 : turnTo l at_ pat (k + 1) = flip (turnTo l at_ pat k) (at_ + k) := by
              show (if pat.testBit k = true ∧ at_ + k < 8 * l.length then _ else _) = _
              rw [if_pos ⟨htb, by rw [hn]; exact hin⟩]
            have e2 : (at_ + k) / 8 = q := by omega
            have e3 : (at_ + k) % 8 = r := by omega
            rw [e1]
            unfold flip
            rw [e2, e3, List.getD_eq_getElem?_getD, List.getElem?_eq_getElem hqt]
            simp [u8s, List.map_set]
          have hby := byte_turn (turnTo l at_ pat k)[q] r hx8.1 hx8.2 hr8
          have hO := (hown.stored q (.int .u8 (((turnTo l at_ pat k)[q].toNat ^^^ 2 ^ r : Nat) : Int))).1
          rw [hst] at hO
          have HO := Lib.hid hO
          have HN := Lib.hid hn
          have HTB := Lib.hid htb
          clear hst hO hown hn htb hx8
          generalize (turnTo l at_ pat k)[q] = x at *
          generalize hy : (x.toNat ^^^ 2 ^ r) = y at *
          have HY := Lib.hid hy
          clear hy
          go_wp2_with fail
          go_region
          go_wp2_with fail
          go_roundw
          case rel => exact ⟨k + 1, by omega, by go_num, HO.out, (hbl.setCell hgB _).drew⟩
          case measure => simp [intOf]; omega
        · have hin' : ¬ (at_ : Int) + (k : Int) < 8 * (n : Int) := by omega
          have HE := Lib.hid (show turnTo l at_ pat (k + 1) = turnTo l at_ pat k by
            show (if pat.testBit k = true ∧ at_ + k < 8 * l.length then _ else _) = _
            rw [if_neg (by rw [hn]; exact fun h => hin h.2)])
          have HN := Lib.hid hn
          clear hn htb
          go_wp2_with fail
          go_roundw
          case rel => exact ⟨k + 1, by omega, by go_num, by rw [HE.out]; exact hown, hbl⟩
          case measure => simp [intOf]; omega
      | false =>
        rw [htb, if_neg (by decide)] at hbit
        have HE := Lib.hid (show turnTo l at_ pat (k + 1) = turnTo l at_ pat k by
          show (if pat.testBit k = true ∧ at_ + k < 8 * l.length then _ else _) = _
          rw [if_neg (by rw [htb]; exact fun h => absurd h.1 (by decide))])
        have HN := Lib.hid hn
        clear hn htb
        go_wp2_with fail
        go_roundw
        case rel => exact ⟨k + 1, by omega, by go_num, by rw [HE.out]; exact hown, hbl⟩
        case measure => simp [intOf]; omega
    · have i1 : ¬ (k : Int) < 32 := by omega
      have HK := Lib.hid (show k = 32 by omega)
      have HN := Lib.hid hn
      clear hn
      obtain ⟨A2, c2, hv, hc2, _, hr2⟩ := Row.of_own hown
      injection hv with hv1 _ hv3
      subst hv1 hv3
      have hr3 : Row (fun g => w.heap.size ≤ g) wr A1 (u8s (turnTo l at_ pat 32)) := by rw [HK.out] at hr2; exact hr2.mono fun g _ h => h.1
      have HR := Lib.hid hr3
      clear hr2 hr3
      go_wp2_with fail
      go_ret
      exact ⟨A1, c1, rfl, hc1, HR.out, hbl⟩

end Go.Proofs.YtaihemmnpliehaaDoor
