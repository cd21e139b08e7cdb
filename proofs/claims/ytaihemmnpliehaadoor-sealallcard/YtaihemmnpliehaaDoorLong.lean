/-
  SealLong: MaxFrame bytes are a frame, one more are none.
-/
import Derived.Test.YtaihemmnpliehaaDoorMade
import Derived.Test.YtaihemmnpliehaaDoorCuts
namespace Go.Proofs.YtaihemmnpliehaaDoor
open Go.RowKit

theorem saidSize_frameOf {l : List Int} (hl : l.length ≤ 4096) : saidSize (frameOf l) = l.length := by
  unfold saidSize
  have e4 : (frameOf l).getD 4 0 = ((l.length % 256 : Nat) : Int) := by
    rw [List.getD_eq_getElem?_getD]; simp [frameOf, le32, le16]
  have e5 : (frameOf l).getD 5 0 = ((l.length / 256 % 256 : Nat) : Int) := by
    rw [List.getD_eq_getElem?_getD]; simp [frameOf, le32, le16]
  rw [e4, e5]; omega

theorem said4_frameOf {l : List Int} (h8 : Bytes8 l) : said4 (frameOf l) 4 = sumOf (le16 l.length ++ l) := by
  have h84 : Bytes8 (le16 l.length ++ l) := fun x hx => by
    rcases List.mem_append.1 hx with h | h
    · simp [le16] at h; omega
    · exact h8 x h
  have hsl : sumOf (le16 l.length ++ l) < 4294967296 := Nat.xor_lt_two_pow (n := 32) (crc_lt _ _ (by omega) h84) (by omega)
  have e : frameOf l = le32 (sumOf (le16 l.length ++ l)) ++ (le16 l.length ++ l) := rfl
  rw [e]
  generalize le16 l.length ++ l = q at *
  generalize sumOf q = s at *
  simp only [said4, le32, List.cons_append, List.nil_append, List.getD_cons_zero, List.getD_cons_succ, Int.toNat_natCast]
  omega

theorem endS_frameOf {l : List Int} (hl : l.length ≤ 4096) (h8 : Bytes8 l) : endS (frameOf l) = (6 + l.length, 0) := by
  have h1 := saidSize_frameOf hl
  have h2 := said4_frameOf h8
  have h3 := frameOf_len l
  have h4 : ((frameOf l).drop 4).take (2 + l.length) = le16 l.length ++ l := by
    have e : (frameOf l).drop 4 = le16 l.length ++ l := by simp [frameOf, le32]
    rw [e]
    exact List.take_of_length_le (by simp [le16]; omega)
  unfold endS
  rw [h1, h2, h3, h4, if_neg (by omega), if_neg (by omega), if_neg (by omega), if_pos rfl]

theorem openS_frameOf {l : List Int} (hl : l.length ≤ 4096) (h8 : Bytes8 l) : openS (frameOf l) = (l, 0) := by
  unfold openS
  rw [endS_frameOf hl h8, frameOf_len, if_neg (by simp), if_neg (by simp)]
  simp [frameOf, le32, le16]

set_option maxRecDepth 100000 in
set_option maxHeartbeats 800000 in
theorem next_fault (S : Nat → Prop) (A : Option Addr) (n c : Nat) (p : List Int) (f : Int) (w : World) (hn : p.length = n) (hT : Rests w) (h0 : 0 < w.heap.size) (hrow : Row S w A (u8s p)) (hc : p.length ≤ c) (hpl : p.length ≤ 70368744177664) (h8 : Bytes8 p) (hf : (endS p).2 = f) (hf0 : f ≠ 0) :
    Calls Tryd.prog 19 #[.slice A n c] w fun e w' => e = .returned (.tuple #[.slice none 0 0, .slice none 0 0, .int .i64 f]) ∧ Below w.heap.size w w' := by
  have hfe := frameEnd_any S A n c p w hn hT h0 hrow hc hpl h8
  rw [hf] at hfe
  generalize (endS p).1 = en at hfe
  have HFE := Lib.hid hfe
  have hf' : (f != 0) = true := by simpa using hf0
  clear hfe hf hf0
  go_enter Tryd.func19, Tryd.ntmps19
  go_wp2_with fail
  refine HFE.out.mono ?_
  rintro e w1 ⟨rfl, hb1⟩
  go_wp2_with fail
  go_ret3
  exact ⟨rfl, hb1⟩

theorem long_said (m : Nat) (hm : m < 7) (hl : 4096 < 4093 + m) : ([0, 0, 0, 0, (4093 + (m : Int)) % 256, (4093 + (m : Int)) / 256] ++ List.replicate (4093 + m) 0).length = 6 + (4093 + m) ∧
    (endS ([0, 0, 0, 0, (4093 + (m : Int)) % 256, (4093 + (m : Int)) / 256] ++ List.replicate (4093 + m) 0)).2 = 3 ∧ Bytes8 ([0, 0, 0, 0, (4093 + (m : Int)) % 256, (4093 + (m : Int)) / 256] ++ List.replicate (4093 + m) 0) := by
  have hlen : ([0, 0, 0, 0, (4093 + (m : Int)) % 256, (4093 + (m : Int)) / 256] ++ List.replicate (4093 + m) 0).length = 6 + (4093 + m) := by
    rw [List.length_append, List.length_replicate]; simp
  refine ⟨hlen, ?_, fun x hx => ?_⟩
  · have hs : saidSize ([0, 0, 0, 0, (4093 + (m : Int)) % 256, (4093 + (m : Int)) / 256] ++ List.replicate (4093 + m) 0) = 4093 + m := by
      simp only [saidSize, List.cons_append, List.getD_cons_zero, List.getD_cons_succ]
      omega
    unfold endS
    rw [hlen, hs, if_neg (by omega), if_pos hl]
  · rcases List.mem_append.1 hx with h | h
    · simp at h; omega
    · rw [List.mem_replicate] at h; omega

set_option maxRecDepth 100000 in
set_option maxHeartbeats 1600000 in
theorem law_long (n : Nat) (w : World) (hT : Rests w) (h0 : 0 < w.heap.size) (hn : n ≤ 255) :
    Calls Tryd.prog 8 #[.int .u8 (n : Int)] w fun e w' => e = .returned (.bool true) ∧ Below w.heap.size w w' := by
  obtain ⟨m, hm, hm7⟩ : ∃ m : Nat, (n : Int) % 7 = (m : Int) ∧ m < 7 := ⟨n % 7, by omega, by omega⟩
  obtain ⟨L, hL, hmk⟩ := run_make_room (4093 + m) (4093 + m) (by omega) (by omega)
  have hmk' : ∀ u : World, (Instr.makeSlice 24 (.int .i64 (4093 + (m : Int))) (.int .i64 (4093 + (m : Int)))).run Tryd.prog u = .ok (.slice (some ⟨u.heap.size, 0, none⟩) (4093 + m) (4093 + m)) (u.alloc (.cells L.toArray 5)) := fun u => by
    have := hmk u
    rwa [show (((4093 + m : Nat)) : Int) = 4093 + (m : Int) by omega] at this
  have HLL := Lib.hid hL
  clear hL hmk
  go_enter Tryd.func8, Tryd.ntmps8
  go_wp2_with fail
  refine (awake_any _ hT h0).mono ?_
  rintro e w1 ⟨rfl, hb1⟩
  go_wp2_with fail
  obtain ⟨w2, hw2⟩ : ∃ x, x = w1.alloc (.cells L.toArray 5) := ⟨_, rfl⟩
  have hal2 : Below w1.heap.size w1 w2 := by rw [hw2]; exact (Below.refl _ _).alloc (Nat.le_refl _) _
  have hsz2 : w1.heap.size + 1 = w2.heap.size := by rw [hw2]; simp
  have hrow2 : Row (fun _ => True) w2 (some ⟨w1.heap.size, 0, none⟩) (u8s (List.replicate (4093 + m) 0)) := by
    rw [hw2, HLL.out]
    exact Row.of_cells (new_at rfl) (by simp [u8s]) trivial
  rw [← hw2, hsz2]
  have hb2 := hb1.trans (hal2.mono hb1.size)
  clear hw2 hal2 hsz2
  obtain ⟨w3, hw3⟩ : ∃ x, x = w2.alloc (.cells #[.slice (some ⟨w1.heap.size, 0, none⟩) (4093 + m) (4093 + m)] 24) := ⟨_, rfl⟩
  have hal : Below w2.heap.size w2 w3 := by rw [hw3]; exact (Below.refl _ _).alloc (Nat.le_refl _) _
  have hb3 := hb2.trans (hal.mono hb2.size)
  have hT3 := hT.below hb3 h0
  have h03 : 0 < w3.heap.size := Nat.lt_of_lt_of_le h0 hb3.size
  have hts : Texts (fun _ => True) w3 (some ⟨w2.heap.size, 0, none⟩) [List.replicate (4093 + m) 0] := by
    refine ⟨[.slice (some ⟨w1.heap.size, 0, none⟩) (4093 + m) (4093 + m)], rfl, by rw [hw3]; exact Row.of_cells (new_at rfl) rfl trivial, fun k hk => ?_⟩
    obtain rfl : k = 0 := by simpa using hk
    exact ⟨_, 4093 + m, by simp, (hrow2.below hal).any⟩
  rw [← hw3]
  clear hw3 hal hb2 hrow2
  have hfl : [List.replicate (4093 + m) (0 : Int)].flatten = List.replicate (4093 + m) 0 := by simp
  have hz8 : Bytes8 (List.replicate (4093 + m) 0) := fun x hx => by rw [List.mem_replicate] at hx; omega
  have hzl : (List.replicate (4093 + m) (0 : Int)).length = 4093 + m := by simp
  by_cases hlong : 4096 < 4093 + m
  · have hfr := frame_long _ _ 1 [List.replicate (4093 + m) 0] w3 hts (by intro t ht; rw [List.mem_singleton] at ht; subst ht; rw [hzl]; omega) (by simp) (by rw [hfl, hzl]; exact hlong)
    have HFR := Lib.hid hfr
    have HM := Lib.hid hm
    clear hfr hts hfl hz8 hzl hmk' HLL hm
    have z1 : (4096 : Int) < 4093 + (m : Int) := by omega
    refine HFR.out.mono ?_
    rintro e w4 ⟨rfl, rfl⟩
    obtain ⟨w4, hw4⟩ : ∃ x, x = w3.alloc (.cells #[.int .u8 0, .int .u8 0, .int .u8 0, .int .u8 0, .int .u8 ((4093 + (m : Int)) % 256), .int .u8 ((4093 + (m : Int)) / 256)] 5) := ⟨_, rfl⟩
    have hal4 : Below w3.heap.size w3 w4 := by rw [hw4]; exact (Below.refl _ _).alloc (Nat.le_refl _) _
    have hb4 := hb3.trans (hal4.mono hb3.size)
    have hrow4 : Row (fun _ => True) w4 (some ⟨w3.heap.size, 0, none⟩) (u8s [0, 0, 0, 0, (4093 + (m : Int)) % 256, (4093 + (m : Int)) / 256]) := by
      rw [hw4]
      exact Row.of_cells (new_at rfl) rfl trivial
    have hcells : ∀ j v, (u8s [0, 0, 0, 0, (4093 + (m : Int)) % 256, (4093 + (m : Int)) / 256])[j]? = some v → w4.cell? ((⟨w3.heap.size, 0, none⟩ : Addr).add j) = some v := by
      obtain ⟨ad, e, h⟩ := hrow4.cells (by simp [u8s])
      injection e with e
      subst e
      exact h
    have HW4 := Lib.hid hw4
    have HC := Lib.hid hcells
    have hT4 := hT.below hb4 h0
    clear hw4 hcells hrow4 hal4
    go_wp2_with (at_builtin; rw [← HW4.out]; refine wpList_append_made _ rfl (.tmp 32) (.tmp 33) rfl ⟨w3.heap.size, 0, none⟩ 6 6 (4093 + m) rfl rfl _ rfl HC.out (by omega) (by omega) (by omega) ?_; intro c5 w5 hc5 hrow5 hb5)
    have hb5' := hb4.trans (hb5.mono hb4.size)
    have hT5 := hT.below hb5' h0
    have h05 : 0 < w5.heap.size := Nat.lt_of_lt_of_le h0 hb5'.size
    rw [show u8s [0, 0, 0, 0, (4093 + (m : Int)) % 256, (4093 + (m : Int)) / 256] ++ List.replicate (4093 + m) (Value.int .u8 0) = u8s ([0, 0, 0, 0, (4093 + (m : Int)) % 256, (4093 + (m : Int)) / 256] ++ List.replicate (4093 + m) 0) by simp [u8s]] at hrow5
    obtain ⟨g1, g2, g3⟩ := long_said m hm7 hlong
    generalize [0, 0, 0, 0, (4093 + (m : Int)) % 256, (4093 + (m : Int)) / 256] ++ List.replicate (4093 + m) 0 = p at *
    have G1 := Lib.hid g1
    have G2 := Lib.hid g2
    clear g1 g2 HC HW4 HFR
    refine (next_fault _ _ _ c5 p 3 _ G1.out hT5 h05 hrow5 (by rw [G1.out]; exact hc5) (by rw [G1.out]; omega) g3 G2.out (by decide)).mono ?_
    rintro e w6 ⟨rfl, hb6⟩
    go_wp2_with fail
    go_ret
    exact ⟨rfl, hb5'.trans (hb6.mono hb5'.size)⟩
  · have hfr := frame_good _ _ 1 [List.replicate (4093 + m) 0] _ hT3 hts (by intro t ht; rw [List.mem_singleton] at ht; subst ht; exact hz8) (by simp) (by rw [hfl, hzl]; omega) h03
    rw [hfl] at hfr
    have HFR := Lib.hid hfr
    have HM := Lib.hid hm
    have HZL := Lib.hid hzl
    clear hfr hts hfl hzl hmk' HLL hm
    have z1 : ¬ (4096 : Int) < 4093 + (m : Int) := by omega
    generalize hl : List.replicate (4093 + m) (0 : Int) = l at *
    have hos := openS_frameOf (l := l) (by rw [HZL.out]; omega) hz8
    have hlen := frameOf_len l
    have h8f := frameOf_8 hz8
    clear hl
    refine HFR.out.mono ?_
    rintro e w4 ⟨A4, c4, rfl, hc4, hrow4, hb4⟩
    generalize frameOf l = f at *
    have hb4' := hb3.trans (hb4.mono hb3.size)
    have hT4 := hT.below hb4' h0
    have h04 : 0 < w4.heap.size := Nat.lt_of_lt_of_le h0 hb4'.size
    have HLEN := Lib.hid hlen
    have HOS := Lib.hid hos
    clear hlen hos HFR
    go_wp2_with fail
    refine (open_any _ A4 _ c4 f _ rfl hT4 h04 hrow4 hc4 (by rw [HLEN.out, HZL.out]; omega) h8f).mono ?_
    rw [HOS.out]
    rintro e w5 ⟨A5, c5, rfl, hc5, hrow5, hb5⟩
    have hlq : (l.length : Int) = 4093 + (m : Int) := by rw [HZL.out]; omega
    go_wp2_with fail
    go_ret
    exact ⟨rfl, hb4'.trans (hb5.mono hb4'.size)⟩

end Go.Proofs.YtaihemmnpliehaaDoor
