/-
  What SealBursts does: it returns true, and turns nothing that was there.
-/
import Derived.Test.YtaihemmnpliehaaDoorTurn
namespace Go.Proofs.YtaihemmnpliehaaDoor
open Go.RowKit

theorem sum_ne {a b : List Int} (h : crc 4294967295 a ≠ crc 4294967295 b) : sumOf a ≠ sumOf b := by
  unfold sumOf
  intro e
  apply h
  have := congrArg (· ^^^ 4294967295) e
  simp only [Nat.xor_assoc, Nat.xor_self, Nat.xor_zero] at this
  exact this

/-- a frame of which the bytes that it carries are others, with another sum -/
theorem open_turned {l q : List Int} (hl : l.length ≤ 4096) (h8 : Bytes8 l) (hq : q.length = l.length) (hne : sumOf (le16 l.length ++ q) ≠ sumOf (le16 l.length ++ l)) : openS ((frameOf l).take 6 ++ q) = ([], 5) := by
  have hf : (frameOf l).take 6 = le32 (sumOf (le16 l.length ++ l)) ++ le16 l.length := by simp [frameOf, le32, le16]
  have h4 := said4_frameOf h8
  have hz := saidSize_frameOf hl
  have e1 : saidSize ((frameOf l).take 6 ++ q) = l.length := by
    rw [← hz]; unfold saidSize
    rw [hf]
    simp [frameOf, le32, le16]
  have e2 : said4 ((frameOf l).take 6 ++ q) 4 = sumOf (le16 l.length ++ l) := by
    rw [← h4, hf]
    simp [said4, frameOf, le32, le16]
  have e3 : (((frameOf l).take 6 ++ q).drop 4).take (2 + l.length) = le16 l.length ++ q := by
    rw [hf]
    simp only [le32, le16, List.cons_append, List.nil_append, List.drop_succ_cons, List.drop_zero]
    exact List.take_of_length_le (by simp [hq]; omega)
  have e4 : ((frameOf l).take 6 ++ q).length = 6 + l.length := by rw [hf]; simp [le32, le16, hq]; omega
  have e5 : endS ((frameOf l).take 6 ++ q) = (0, 5) := by
    unfold endS
    rw [e1, e2, e3, e4, if_neg (by omega), if_neg (by omega), if_neg (by omega), if_neg hne]
  unfold openS
  rw [e5, if_pos (by decide)]

theorem own_take {w : World} {B n k : Nat} {A : Option Addr} {c : Nat} {xs : List Value} (h : w.ownsRow B 5 1 (.slice A n c) n xs) (hk : k ≤ n) (h0 : 0 < k) : w.ownsRow B 5 1 (.slice A k c) k (xs.take k) := by
  obtain ⟨h1, h2⟩ := h
  refine ⟨by rw [List.length_take, h1]; omega, ?_⟩
  rcases h2 with ⟨hv, e⟩ | ⟨g, cap, cur, hv, hb, hh, a1, a2, a3, a4⟩
  · omega
  · injection hv with hv1 _ hv3
    subst hv1 hv3
    refine .inr ⟨g, c, cur, rfl, hb, hh, by omega, a2, a3, ?_⟩
    rw [← a4, List.take_take]
    congr 1
    omega

theorem texts_one {w : World} {A : Option Addr} {l : List Int} {c : Nat} (h : Row (fun _ => True) w A (u8s l)) : Texts (fun _ => True) (w.alloc (.cells #[.slice A l.length c] 24)) (some ⟨w.heap.size, 0, none⟩) [l] := by
  refine ⟨[.slice A l.length c], rfl, Row.of_cells (new_at rfl) rfl trivial, fun k hk => ?_⟩
  obtain rfl : k = 0 := by simpa using hk
  exact ⟨A, c, rfl, h.alloc _⟩

set_option maxRecDepth 100000 in
set_option maxHeartbeats 1600000 in
theorem law_bursts (S : Nat → Prop) (A : Option Addr) (c at_ pat : Nat) (l0 : List Int) (w : World) (hT : Rests w) (h0 : 0 < w.heap.size) (hrow0 : Row S w A (u8s l0)) (hc0 : l0.length ≤ c) (hl0 : l0.length ≤ 9223372036854775807) (h80 : Bytes8 l0) (hat : at_ ≤ 65535) (hp : pat < 4294967296) :
    Calls Tryd.prog 6 #[.slice A l0.length c, .int .u16 (at_ : Int), .int .u32 (pat : Int)] w fun e w' => e = .returned (.bool true) ∧ Below w.heap.size w w' := by
  go_enter Tryd.func6, Tryd.ntmps6
  go_wp2_with fail
  refine (awake_any _ hT h0).mono ?_
  rintro e w1 ⟨rfl, hb1⟩
  have hrow1 := hrow0.below hb1
  go_wp2_with fail
  refine (cut_any S A c 600 l0 _ hrow1 hc0 hl0 (by decide)).mono ?_
  rintro e w2 ⟨A2, c2, rfl, hc2, hrow2, hb2⟩
  have hl : (l0.take 600).length ≤ 600 := by rw [List.length_take]; omega
  have h8 : Bytes8 (l0.take 600) := fun x hx => h80 x (List.mem_of_mem_take hx)
  rw [u8s_len] at hc2 ⊢
  generalize l0.take 600 = l at *
  have hb2' := hb1.trans (hb2.mono hb1.size)
  clear hrow1 hrow0 hc0 hl0 h80 hb2 hb1
  rcases Nat.eq_zero_or_pos l.length with hz | hpos
  · have hz' : ((l.length : Int) == 0) = true := by simp [hz]
    clear hz
    go_wp2_with fail
    go_ret
    exact ⟨rfl, hb2'⟩
  · have hz' : ((l.length : Int) == 0) = false := by rw [beq_eq_false_iff_ne]; omega
    obtain ⟨q0, hq0⟩ : ∃ q : Nat, (at_ : Int) % (8 * (l.length : Int)) = q := ⟨at_ % (8 * l.length), by rw [Int.natCast_emod]; rfl⟩
    have hq1 : q0 < 8 * l.length := by have := Int.emod_lt_of_pos (at_ : Int) (show (0 : Int) < 8 * (l.length : Int) by omega); omega
    have hq2 : (at_ : Int).tmod (8 * (l.length : Int)) = q0 := by rw [Int.tmod_eq_emod_of_nonneg (by omega)]; exact hq0
    have hz2 : ((8 * (l.length : Int)) == 0) = false := by rw [beq_eq_false_iff_ne]; omega
    obtain ⟨p1, hp1⟩ : ∃ p1, pat ||| 1 = p1 := ⟨_, rfl⟩
    have hor : bits BinOp.or IntKind.u32 (pat : Int) 1 = (p1 : Int) := by rw [← hp1]; exact u32_or_nat pat 1 hp (by decide)
    have hp2 : p1 < 4294967296 := by rw [← hp1]; exact Nat.or_lt_two_pow (n := 32) hp (by decide)
    have hodd : p1.testBit 0 = true := by rw [← hp1, Nat.testBit_or]; simp
    have HODD := Lib.hid hodd
    clear hp1 hodd
    go_wp2_with fail
    refine (turn_any _ A2 l.length c2 q0 p1 l _ rfl hrow2 h8 (by omega) hq1 hp2).mono ?_
    rintro e w3 ⟨A3, c3, rfl, hc3, hrow3, hb3⟩
    have hlq := turnTo_len l q0 p1 32
    have h8q := turnTo_8 h8 q0 p1 32
    have hne1 := burst l q0 p1 4294967295 hq1 HODD.out
    have hne2 := burst l q0 p1 (crc 4294967295 (le16 l.length)) hq1 HODD.out
    generalize turnTo l q0 p1 32 = q at *
    have hS1 : sumOf l ≠ sumOf q := fun e => sum_ne hne1 e.symm
    have hS2 : sumOf (le16 l.length ++ q) ≠ sumOf (le16 l.length ++ l) := sum_ne (by rw [crc_append, crc_append]; exact hne2)
    have HOP := Lib.hid (open_turned (by omega) h8 hlq hS2)
    have HLQ := Lib.hid hlq
    have hb3' := hb2'.trans (hb3.mono hb2'.size)
    have hr3 : Row (fun _ => True) w3 A2 (u8s l) := (hrow2.below hb3).any
    have hq3 : Row (fun _ => True) w3 A3 (u8s q) := hrow3.any
    have hsl : sumOf l < 4294967296 := Nat.xor_lt_two_pow (n := 32) (crc_lt _ _ (by omega) h8) (by omega)
    have hsq : sumOf q < 4294967296 := Nat.xor_lt_two_pow (n := 32) (crc_lt _ _ (by omega) h8q) (by omega)
    have hSe : (((sumOf l : Nat) : Int) == ((sumOf q : Nat) : Int)) = false := by rw [beq_eq_false_iff_ne]; omega
    clear hne1 hne2 hS1 hS2 hlq hrow2 hrow3 hb2' hb3 hq0 hq2 hor hz2
    go_wp2_with fail
    obtain ⟨w4, hw4⟩ : ∃ x, x = w3.alloc (.cells #[.slice A2 l.length c2] 24) := ⟨_, rfl⟩
    have hal4 : Below w3.heap.size w3 w4 := by rw [hw4]; exact (Below.refl _ _).alloc (Nat.le_refl _) _
    have hb4 := hb3'.trans (hal4.mono hb3'.size)
    have ht4 : Texts (fun _ => True) w4 (some ⟨w3.heap.size, 0, none⟩) [l] := by rw [hw4]; exact texts_one hr3
    rw [← hw4]
    clear hw4
    have hs4 := sum_any _ _ 1 [l] w4 (hT.below hb4 h0) ht4 (by intro t ht; simp at ht; subst ht; exact h8) (by intro t ht; simp at ht; subst ht; omega) (by simp)
    rw [show [l].flatten = l by simp] at hs4
    refine hs4.mono ?_
    rintro e w5 ⟨rfl, rfl⟩
    clear hs4 ht4
    have hq4 := hq3.below hal4
    have hr4 := hr3.below hal4
    go_wp2_with fail
    obtain ⟨w5, hw5⟩ : ∃ x, x = w4.alloc (.cells #[.slice A3 l.length c3] 24) := ⟨_, rfl⟩
    have hal5 : Below w4.heap.size w4 w5 := by rw [hw5]; exact (Below.refl _ _).alloc (Nat.le_refl _) _
    have hb5 := hb4.trans (hal5.mono hb4.size)
    have ht5 : Texts (fun _ => True) w5 (some ⟨w4.heap.size, 0, none⟩) [q] := by rw [hw5, ← HLQ.out]; exact texts_one hq4
    rw [← hw5]
    clear hw5
    have hs5 := sum_any _ _ 1 [q] w5 (hT.below hb5 h0) ht5 (by intro t ht; simp at ht; subst ht; exact h8q) (by intro t ht; simp at ht; subst ht; have := HLQ.out; omega) (by simp)
    rw [show [q].flatten = q by simp] at hs5
    refine hs5.mono ?_
    rintro e w6 ⟨rfl, rfl⟩
    clear hs5 ht5
    have hq5 := hq4.below hal5
    have hr5 := hr4.below hal5
    clear hr3 hq3 hq4 hr4 hal4 hal5
    generalize sumOf l = sl at *
    generalize sumOf q = sq at *
    go_wp2_with fail
    obtain ⟨w6, hw6⟩ : ∃ x, x = w5.alloc (.cells #[.slice A2 l.length c2] 24) := ⟨_, rfl⟩
    have hal6 : Below w5.heap.size w5 w6 := by rw [hw6]; exact (Below.refl _ _).alloc (Nat.le_refl _) _
    have hb6 := hb5.trans (hal6.mono hb5.size)
    have ht6 : Texts (fun _ => True) w6 (some ⟨w5.heap.size, 0, none⟩) [l] := by rw [hw6]; exact texts_one hr5
    rw [← hw6]
    clear hw6
    have h06 : 0 < w6.heap.size := Nat.lt_of_lt_of_le h0 hb6.size
    have hf6 := frame_own _ _ 1 [l] w6 (hT.below hb6 h0) ht6 (by intro t ht; simp at ht; subst ht; exact h8) (by simp) (by simp; omega) h06
    rw [show [l].flatten = l by simp] at hf6
    refine hf6.mono ?_
    rintro e w7 ⟨A7, c7, rfl, hc7, _, hb7, hown7⟩
    have hq6 := (hq5.below hal6).below hb7
    have hb7' := hb6.trans (hb7.mono hb6.size)
    rw [frameOf_len] at hown7 hc7 ⊢
    have hown6 := own_take hown7 (k := 6) (by omega) (by decide)
    have e6 : (u8s (frameOf l)).take 6 = u8s ((frameOf l).take 6) := by simp [u8s]
    rw [e6] at hown6
    have h8f : Bytes8 ((frameOf l).take 6 ++ q) := fun x hx => by
      rcases List.mem_append.1 hx with h | h
      · exact frameOf_8 h8 x (List.mem_of_mem_take h)
      · exact h8q x h
    have hlf : ((frameOf l).take 6).length = 6 := by rw [List.length_take, frameOf_len]; omega
    clear hf6 ht6 hal6 hown7 e6 hq5 hr5
    generalize (frameOf l).take 6 = f6 at *
    obtain ⟨i0, hi0, hz0, hz1, hz2⟩ := info_parts Tryd.info5
    have HLF := Lib.hid hlf
    clear hlf
    have hbase : w6.heap.size ≤ w7.heap.size := hb7.size
    go_wp2_with (at_builtin; refine wpList_append_row _ rfl (.tmp 46) (.tmp 47) 24 rfl w6.heap.size 5 i0 (.int .u8 0) 1 Tryd.underlying24 hi0 hz0 hz1 hz2 rfl _ 6 (u8s f6) rfl hown6 _ A3 l.length c3 (u8s q) rfl ?c1 hq6 (u8s_one q) ?c2 ?c3 hbase ?_; rotate_right; intro A8 c8 w8 hown8 hgrow8 hat8)
    case c1 => rw [u8s_len]; exact HLQ.out
    case c2 => unfold maxLen; omega
    case c3 => omega
    obtain ⟨A9, c9, hv9, hc9, _, hr9⟩ := Row.of_own hown8
    injection hv9 with hv1 _ hv3
    subst hv1 hv3
    have e8 : u8s f6 ++ u8s q = u8s (f6 ++ q) := by simp [u8s]
    rw [e8] at hr9
    have hgrow9 : w7.grownBy w8 (Value.slice A7 6 c7).ownBlock := hgrow8
    have hlow : ∀ g, (Value.slice A7 6 c7).ownBlock = some g → w.heap.size ≤ g := fun g hg => by
      rcases hown6.2 with ⟨h, h'⟩ | ⟨g', cap', cur, h, hb', _⟩
      · omega
      · rw [h] at hg
        obtain rfl : g' = g := by simpa [Value.ownBlock] using hg
        exact Nat.le_trans hb6.size hb'
    have hb8 : Below w.heap.size w w8 := hb7'.grown hgrow9 hb7'.size hlow
    have h08 : 0 < w8.heap.size := Nat.lt_of_lt_of_le h0 hb8.size
    have HO := Lib.hid (open_any _ A8 (6 + l.length) c8 (f6 ++ q) w8 (by rw [List.length_append, HLF.out, HLQ.out]) (hT.below hb8 h0) h08 hr9 (by rw [List.length_append, HLF.out, HLQ.out]; exact hc9) (by rw [List.length_append, HLF.out, HLQ.out]; omega) h8f)
    rw [HOP.out] at HO
    clear hr9 hown8 hown6 hgrow8 hgrow9 hat8 h8f hq6 hlow
    go_wp2_with fail
    refine (HO.out).mono ?_
    rintro e w9 ⟨A9, c9, rfl, _, _, hb9⟩
    go_wp2_with fail
    go_ret
    exact ⟨by simp, hb8.trans (hb9.mono hb8.size)⟩

end Go.Proofs.YtaihemmnpliehaaDoor
