/-
  CRC-32, by plain numbers: a step, a half byte by the table, a byte. No program in it.
-/
namespace Go.Proofs.YtaihemmnpliehaaDoor

def P32 : Nat := 0xedb88320
/-- one bit's step -/
def Z (c : Nat) : Nat := c / 2 ^^^ (if c % 2 = 1 then P32 else 0)

theorem xor_left_comm (a b c : Nat) : a ^^^ (b ^^^ c) = b ^^^ (a ^^^ c) := by rw [← Nat.xor_assoc, ← Nat.xor_assoc, Nat.xor_comm a b]

theorem Z_xor (a b : Nat) : Z (a ^^^ b) = Z a ^^^ Z b := by
  have hd : (a ^^^ b) / 2 = a / 2 ^^^ b / 2 := Nat.xor_div_two
  have hm : (a ^^^ b) % 2 = a % 2 ^^^ b % 2 := Nat.xor_mod_two_pow (n := 1)
  unfold Z
  rw [hd, hm]
  rcases Nat.mod_two_eq_zero_or_one a with ha | ha <;> rcases Nat.mod_two_eq_zero_or_one b with hb | hb
  · simp [ha, hb]
  · simp [ha, hb, Nat.xor_assoc]
  · rw [ha, hb, if_pos (by decide), if_pos rfl, if_neg (by decide), Nat.xor_zero, Nat.xor_assoc, Nat.xor_comm (b / 2) P32, ← Nat.xor_assoc]
  · rw [ha, hb, if_neg (by decide), if_pos rfl, Nat.xor_zero, Nat.xor_assoc, xor_left_comm P32 (b / 2) P32, Nat.xor_self, Nat.xor_zero]

theorem Z_even (c : Nat) : Z (2 * c) = c := by
  unfold Z
  rw [Nat.mul_div_cancel_left _ (by omega), if_neg (by omega), Nat.xor_zero]

theorem Z_lt {c : Nat} (h : c < 4294967296) : Z c < 4294967296 := by
  unfold Z
  have h1 : c / 2 < 2 ^ 32 := by omega
  have h2 : (if c % 2 = 1 then P32 else 0) < 2 ^ 32 := by unfold P32; split <;> omega
  exact Nat.xor_lt_two_pow h1 h2

/-- the table of half bytes -/
def tab : List Nat := [0x00000000, 0x1db71064, 0x3b6e20c8, 0x26d930ac, 0x76dc4190, 0x6b6b51f4, 0x4db26158, 0x5005713c, 0xedb88320, 0xf00f9344, 0xd6d6a3e8, 0xcb61b38c, 0x9b64c2b0, 0x86d3d2d4, 0xa00ae278, 0xbdbdf21c]

theorem tab_Z : ∀ k : Fin 16, Z (Z (Z (Z k.val))) = tab.getD k.val 0 := by decide +kernel
theorem tab_lt : ∀ k : Fin 16, tab.getD k.val 0 < 4294967296 := by decide +kernel

theorem low_high (c : Nat) : c = (16 * (c / 16)) ^^^ (c % 16) := by
  have h : c % 16 < 2 ^ 4 := by omega
  have e := Nat.two_pow_add_eq_or_of_lt h (c / 16)
  have hx : (16 * (c / 16)) ^^^ (c % 16) = (16 * (c / 16)) ||| (c % 16) := by
    apply Nat.eq_of_testBit_eq
    intro i
    rw [Nat.testBit_xor, Nat.testBit_or]
    by_cases hi : i < 4
    · have : (16 * (c / 16)).testBit i = false := by
        rw [show 16 = 2 ^ 4 from rfl, Nat.testBit_two_pow_mul]; simp; omega
      simp [this]
    · have : (c % 16).testBit i = false := Nat.testBit_lt_two_pow (Nat.lt_of_lt_of_le h (Nat.pow_le_pow_right (by omega) (by omega)))
      simp [this]
  rw [hx]
  have e' : 16 * (c / 16) ||| c % 16 = 16 * (c / 16) + c % 16 := e.symm
  omega

/-- four steps at once -/
theorem Z_four (c : Nat) : Z (Z (Z (Z c))) = c / 16 ^^^ tab.getD (c % 16) 0 := by
  have h := low_high c
  conv => lhs; rw [h]
  rw [Z_xor, Z_xor, Z_xor, Z_xor]
  have e : 16 * (c / 16) = 2 * (2 * (2 * (2 * (c / 16)))) := by omega
  rw [e, Z_even, Z_even, Z_even, Z_even, tab_Z ⟨c % 16, by omega⟩]

/-- eight steps -/
def Z8 (c : Nat) : Nat := Z (Z (Z (Z (Z (Z (Z (Z c)))))))
theorem Z8_lt {c : Nat} (h : c < 4294967296) : Z8 c < 4294967296 := Z_lt (Z_lt (Z_lt (Z_lt (Z_lt (Z_lt (Z_lt (Z_lt h)))))))

/-- a byte -/
def crcB (c : Nat) (x : Int) : Nat := Z8 (c ^^^ x.toNat)
def crc (c : Nat) (l : List Int) : Nat := l.foldl crcB c

theorem crcB_lt {c : Nat} {x : Int} (h : c < 4294967296) (h1 : 0 ≤ x) (h2 : x < 256) : crcB c x < 4294967296 := by
  refine Z8_lt (Nat.xor_lt_two_pow (n := 32) (by omega) (by omega))
theorem crc_lt : ∀ (l : List Int) (c : Nat), c < 4294967296 → (∀ x ∈ l, 0 ≤ x ∧ x < 256) → crc c l < 4294967296
  | [], _, h, _ => h
  | x :: l, c, h, h8 => crc_lt l (crcB c x) (crcB_lt h (h8 x (List.mem_cons_self ..)).1 (h8 x (List.mem_cons_self ..)).2) fun y hy => h8 y (List.mem_cons_of_mem _ hy)
theorem crc_append (c : Nat) (l m : List Int) : crc c (l ++ m) = crc (crc c l) m := List.foldl_append ..
theorem crc_snoc (c : Nat) (l : List Int) (x : Int) : crc c (l ++ [x]) = crcB (crc c l) x := by rw [crc_append]; rfl

/-- the sum -/
def sumOf (l : List Int) : Nat := crc 4294967295 l ^^^ 4294967295

/-- a byte, by the table: what the code does -/
theorem crcB_tab (c : Nat) (x : Int) : crcB c x = ((c ^^^ x.toNat) / 16 ^^^ tab.getD ((c ^^^ x.toNat) % 16) 0) / 16 ^^^ tab.getD (((c ^^^ x.toNat) / 16 ^^^ tab.getD ((c ^^^ x.toNat) % 16) 0) % 16) 0 := by
  unfold crcB Z8
  rw [Z_four, Z_four]

end Go.Proofs.YtaihemmnpliehaaDoor
