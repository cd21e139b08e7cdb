/-
  The contracts of ref01's Sum, Num and Copy.
-/
import Derived.Test.YtaihemmnpliehaaDoorLong
namespace Go.Proofs.YtaihemmnpliehaaDoor
open Go.RowKit

set_option maxRecDepth 100000 in
set_option maxHeartbeats 400000 in
theorem copy_any (S : Nat → Prop) (A : Option Addr) (n c : Nat) (p : List Int) (w : World) (hn : p.length = n) (hrow : Row S w A (u8s p)) (hpl : p.length ≤ 70368744177664) :
    Calls Tryd.prog 18 #[.slice A n c] w fun e w' => ∃ A' c', e = .returned (.slice A' n c') ∧ n ≤ c' ∧ w'.ownsRow w.heap.size 5 1 (.slice A' n c') n (u8s p) ∧ Row (fun g => w.heap.size ≤ g) w' A' (u8s p) ∧ Below w.heap.size w w' := by
  subst hn
  obtain ⟨i0, hi, hz0, hz1, hz2⟩ := info_parts Tryd.info5
  have h0 : (w.alloc (.cells #[] 5)).ownsRow w.heap.size 5 1 (.slice (some ⟨w.heap.size, 0, none⟩) 0 0) 0 [] := World.ownsRow_lit w #[] 0 (Nat.le_refl _) (by decide) rfl
  have hrow1 := hrow.alloc (.cells #[] 5)
  go_enter Tryd.func18, Tryd.ntmps18
  go_wp2_with (at_builtin; refine wpList_append_row _ rfl (.tmp 3) (.tmp 4) 24 rfl w.heap.size 5 i0 (.int .u8 0) 1 Tryd.underlying24 hi hz0 hz1 hz2 rfl _ 0 [] rfl h0 S A p.length c (u8s p) rfl (u8s_len p) hrow1 (u8s_one p) ?c3 ?c4 ?c5 ?_; rotate_right; intro A' c' w' hown hgrow hat)
  case c3 => unfold maxLen; omega
  case c4 => omega
  case c5 => simp
  go_ret
  rw [Nat.zero_add, List.nil_append] at hown
  have hgrow2 : (w.alloc (.cells #[] 5)).grownBy w' (some w.heap.size) := hgrow
  obtain ⟨A2, c2, hv, hc2, _, hr2⟩ := Row.of_own hown
  injection hv with hv1 _ hv3
  subst hv1 hv3
  exact ⟨A', c', by simp, hc2, hown, hr2.mono fun g _ h => h.1, ((Below.refl _ _).alloc (Nat.le_refl _) _).grown hgrow2 (by simp) (fun k e => by injection e with e; omega)⟩

/-- bytes as a number, the lowest first -/
def num : List Int → Nat
  | [] => 0
  | x :: l => x.toNat + 256 * num l

theorem num_lt : ∀ {l : List Int}, Bytes8 l → num l < 256 ^ l.length
  | [], _ => by simp [num]
  | x :: l, h => by
    have h1 := num_lt (l := l) fun y hy => h y (List.mem_cons_of_mem _ hy)
    have h2 := h x (List.mem_cons_self ..)
    simp only [num, List.length_cons, Nat.pow_succ]
    omega
theorem num_drop {l : List Int} {k : Nat} (h : k < l.length) : num (l.drop k) = (l[k]).toNat + 256 * num (l.drop (k + 1)) := by
  rw [List.drop_eq_getElem_cons h]; rfl

set_option maxRecDepth 100000 in
set_option maxHeartbeats 800000 in
theorem num_any (S : Nat → Prop) (A : Option Addr) (n c : Nat) (p : List Int) (w : World) (hn : p.length = n) (hrow : Row S w A (u8s p)) (h8 : Bytes8 p) (h4 : n ≤ 4) :
    Calls Tryd.prog 28 #[.slice A n c] w fun e w' => e = .returned (.int .u64 ((num p : Nat) : Int)) ∧ w = w' := by
  go_enter Tryd.func28, Tryd.ntmps28
  go_wp2
  go_loop [3, 4] (fun s i => ∃ k : Nat, k ≤ p.length ∧ i = .int .i64 ((k : Int) - 1) ∧ s = .int .u64 ((num (p.drop k) : Nat) : Int)) (fun _ i => (intOf i + 1).toNat)
  case atStart => exact ⟨p.length, Nat.le_refl _, by rw [hn], by simp [num]⟩
  case round =>
    obtain ⟨k, hk, rfl, rfl⟩ := hrel
    rcases Nat.eq_zero_or_pos k with rfl | hpos
    · go_wp2_with fail
      go_ret
      exact ⟨by simp, rfl⟩
    · obtain ⟨j, rfl⟩ : ∃ j, k = j + 1 := ⟨k - 1, by omega⟩
      have hj : j < p.length := by omega
      have hnd := num_drop hj
      have hlt := num_lt (l := p.drop j) fun y hy => h8 y (List.mem_of_mem_drop hy)
      obtain ⟨ad, rfl, _, _, hcell⟩ := hrow j (by rw [u8s_len]; exact hj)
      rw [u8s_at hj] at hcell
      have hx := h8 _ (List.getElem_mem hj)
      have hb4 : (256 : Nat) ^ (p.drop j).length ≤ 256 ^ 4 := Nat.pow_le_pow_right (by omega) (by rw [List.length_drop]; omega)
      generalize num (p.drop (j + 1)) = s1 at *
      generalize hs0 : num (p.drop j) = s0 at *
      generalize p[j] = x at *
      have hs1 : s1 < 4294967296 := by
        have : (256 : Nat) ^ 4 = 4294967296 := by decide
        omega
      have HND := Lib.hid hnd
      have HS0 := Lib.hid hs0
      clear hnd hs0 hlt hb4
      go_wp2_with fail
      go_round
      case rel => exact ⟨j, by omega, by go_num, by rw [HS0.out, HND.out]; congr 1; omega⟩
      case measure => simp [intOf]

/-- the register behind i bits of a byte, bit by bit -/
def rst (c b : Nat) : Nat → Nat
  | 0 => c
  | i + 1 => if rst c b i % 2 = b / 2 ^ i % 2 then rst c b i / 2 else rst c b i / 2 ^^^ P32
def Zn : Nat → Nat → Nat
  | 0, c => c
  | i + 1, c => Z (Zn i c)
theorem rst_Z (c b : Nat) : ∀ i, rst c b i ^^^ b / 2 ^ i = Zn i (c ^^^ b)
  | 0 => by simp [rst, Zn]
  | i + 1 => by
    have ih := rst_Z c b i
    have hb : b / 2 ^ (i + 1) = b / 2 ^ i / 2 := by rw [Nat.pow_succ, Nat.div_div_eq_div_mul]
    simp only [rst, Zn]
    rw [← ih, hb]
    generalize rst c b i = x
    generalize b / 2 ^ i = y
    have hd : (x ^^^ y) / 2 = x / 2 ^^^ y / 2 := Nat.xor_div_two
    have hm : (x ^^^ y) % 2 = x % 2 ^^^ y % 2 := Nat.xor_mod_two_pow (n := 1)
    unfold Z
    rw [hd, hm]
    rcases Nat.mod_two_eq_zero_or_one x with ha | ha <;> rcases Nat.mod_two_eq_zero_or_one y with hb | hb
    · simp [ha, hb]
    · rw [ha, hb, if_neg (by decide), if_pos (by decide), Nat.xor_assoc, Nat.xor_assoc, Nat.xor_comm P32]
    · rw [ha, hb, if_neg (by decide), if_pos (by decide), Nat.xor_assoc, Nat.xor_assoc, Nat.xor_comm P32]
    · simp [ha, hb]
theorem rst_8 (c : Nat) (x : Int) (h1 : 0 ≤ x) (h2 : x < 256) : rst c x.toNat 8 = crcB c x := by
  have h := rst_Z c x.toNat 8
  rw [Nat.div_eq_of_lt (by omega), Nat.xor_zero] at h
  exact h
theorem rst_lt {c : Nat} (b : Nat) (hc : c < 4294967296) : ∀ i, rst c b i < 4294967296
  | 0 => hc
  | i + 1 => by
    have ih := rst_lt b hc i
    simp only [rst]
    split
    · omega
    · exact Nat.xor_lt_two_pow (n := 32) (by omega) (by unfold P32; omega)

theorem bit_walk (r b k : Nat) (hr : r < 4294967296) (hb : b < 256) :
    (r % 2 = b / 2 ^ k % 2 → (bits BinOp.and IntKind.u32 (r : Int) 1 != bits BinOp.and IntKind.u32 ((b : Int) / 2 ^ k % 4294967296) 1) = false) ∧
    (¬ r % 2 = b / 2 ^ k % 2 → (bits BinOp.and IntKind.u32 (r : Int) 1 != bits BinOp.and IntKind.u32 ((b : Int) / 2 ^ k % 4294967296) 1) = true) := by
  have hand : ∀ y : Nat, y < 4294967296 → bits BinOp.and IntKind.u32 (y : Int) 1 = ((y % 2 : Nat) : Int) := fun y hy => by
    rw [show (1 : Int) = ((1 : Nat) : Int) from rfl, u32_and_nat y 1 hy (by omega), Nat.and_one_is_mod]
  have hd : b / 2 ^ k < 4294967296 := Nat.lt_of_le_of_lt (Nat.div_le_self _ _) (by omega)
  have e : ((b : Int) / 2 ^ k % 4294967296) = ((b / 2 ^ k : Nat) : Int) := by
    rw [show ((b : Int) / 2 ^ k) = ((b / 2 ^ k : Nat) : Int) by push_cast; rfl]
    generalize b / 2 ^ k = y at hd
    omega
  rw [e, hand r hr, hand _ hd]
  generalize b / 2 ^ k = y
  exact ⟨fun h => by simp [h], fun h => by simp; omega⟩

set_option maxRecDepth 100000 in
set_option maxHeartbeats 800000 in
theorem rsum_any (S : Nat → Prop) (A : Option Addr) (n c : Nat) (t : List Int) (w : World) (hn : t.length = n) (hrow : Row S w A (u8s t)) (h8 : Bytes8 t) (hl : n ≤ 70368744177664) :
    Calls Tryd.prog 15 #[.slice A n c] w fun e w' => e = .returned (.int .u32 ((sumOf t : Nat) : Int)) ∧ w = w' := by
  subst hn
  go_enter Tryd.func15, Tryd.ntmps15
  go_wp2
  go_loop [3, 10] (fun s i => ∃ j : Nat, j ≤ t.length ∧ i = .int .i64 j ∧ s = .int .u32 ((crc 4294967295 (t.take j) : Nat) : Int)) (fun _ i => t.length - (intOf i).toNat)
  case atStart => exact ⟨0, Nat.zero_le _, rfl, rfl⟩
  case round =>
    obtain ⟨j, hj, rfl, rfl⟩ := hrel
    by_cases hjl : j < t.length
    · obtain ⟨ad', rfl, _, _, hcell'⟩ := hrow j (by rw [u8s_len]; exact hjl)
      rw [u8s_at hjl] at hcell'
      have hx := h8 _ (List.getElem_mem hjl)
      have hcl2 : crc 4294967295 (t.take j) < 4294967296 := crc_lt _ _ (by omega) fun x hx => h8 x (List.mem_of_mem_take hx)
      have hsn : crc 4294967295 (t.take (j + 1)) = crcB (crc 4294967295 (t.take j)) t[j] := by rw [List.take_succ_eq_append_getElem hjl, crc_snoc]
      generalize crc 4294967295 (t.take j) = c2 at *
      rw [← rst_8 c2 _ hx.1 hx.2] at hsn
      obtain ⟨b, hb⟩ := Int.eq_ofNat_of_zero_le hx.1
      rw [hb] at hsn hcell' hx
      rw [Int.toNat_natCast] at hsn
      have HSN := Lib.hid hsn
      have hrl := fun i => rst_lt b hcl2 i
      have HRL := Lib.hid hrl
      clear hb hsn hrl
      go_wp2_with fail
      go_loop [3, 14] (fun s i => ∃ k : Nat, k ≤ 8 ∧ i = .int .i64 k ∧ s = .int .u32 ((rst c2 b k : Nat) : Int)) (fun _ i => 8 - (intOf i).toNat)
      case atStart => exact ⟨0, Nat.zero_le _, rfl, rfl⟩
      case round =>
        obtain ⟨k, hk, rfl, rfl⟩ := hrel
        by_cases hk8 : k < 8
        · have hr1 := HRL.out k
          have hrn : rst c2 b (k + 1) = if rst c2 b k % 2 = b / 2 ^ k % 2 then rst c2 b k / 2 else rst c2 b k / 2 ^^^ P32 := rfl
          have hbit := bit_walk (rst c2 b k) b k hr1 (by omega)
          generalize rst c2 b k = r at *
          by_cases he : r % 2 = b / 2 ^ k % 2
          · rw [if_pos he] at hrn
            have hq := hbit.1 he
            have HRN := Lib.hid hrn
            clear hrn hbit he
            go_wp2_with fail
            go_round
            case rel => exact ⟨k + 1, by omega, by go_num, by rw [HRN.out]; congr 1⟩
            case measure => simp [intOf]; omega
          · rw [if_neg he] at hrn
            have hq := hbit.2 he
            have HRN := Lib.hid hrn
            clear hrn hbit he
            go_wp2_with fail
            go_round
            case rel => exact ⟨k + 1, by omega, by go_num, by
              rw [HRN.out, show ((r : Int) / 2) = ((r / 2 : Nat) : Int) by omega, show (3988292384 : Int) = ((P32 : Nat) : Int) from rfl, u32_xor_nat _ _ (by omega) (by unfold P32; omega)]⟩
            case measure => simp [intOf]; omega
        · obtain rfl : k = 8 := by omega
          go_wp2_with fail
          go_round
          case rel => exact ⟨j + 1, by omega, by go_num, by rw [HSN.out]⟩
          case measure => simp [intOf]; omega
    · have HE := Lib.hid (show t.take j = t from List.take_of_length_le (by omega))
      have hcl : crc 4294967295 (t.take j) < 4294967296 := crc_lt _ _ (by omega) fun x hx => h8 x (List.mem_of_mem_take hx)
      go_wp2_with fail
      go_ret
      refine ⟨?_, rfl⟩
      show Ending.returned (Value.int .u32 (bits BinOp.xor .u32 ((crc 4294967295 (t.take j) : Nat) : Int) ((4294967295 : Nat) : Int))) = _
      rw [u32_xor_nat _ _ hcl (by omega), HE.out]
      rfl

end Go.Proofs.YtaihemmnpliehaaDoor
