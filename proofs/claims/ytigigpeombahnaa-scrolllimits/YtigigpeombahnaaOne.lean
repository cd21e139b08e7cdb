/-
  ScrollOne: a number, a whole number, a text have just one form.
-/
import Derived.Test.YtigigpeombahnaaNil
import Derived.Test.YtigigpeombahnaaText
import Derived.Test.YtigigpeombahnaaRVec
import Derived.Test.YtigigpeombahnaaOneMath
namespace Go.Proofs.Ytigigpeombahnaa
open Go.RowKit

theorem Rd.kept {w w' : World} {b : Nat} {l : List Int} {f : Int} {B : Nat} (h : Rd w b l f) (hb : Below B w w') (hB : b < B) : Rd w' b l f := by
  obtain ⟨A, c, h1, h2, h3⟩ := h
  exact ⟨A, c, (hb.block b hB).trans h1, h2, h3.kept hb.size fun g _ hg => hb.block g (by omega)⟩
theorem Rd.lt {w : World} {b : Nat} {l : List Int} {f : Int} (h : Rd w b l f) : b < w.heap.size := by
  obtain ⟨A, c, h1, _⟩ := h
  exact lt_of_block h1

theorem rnum_max (b : Nat) (l : List Int) (n s : Nat) (f : Int) (w : World) (h : Rd w b l 0) (hl : l.length ≤ 70368744177664) (h8 : Bytes8 l) (hR : numR l M64 = (n, s, f)) :
    Calls Try.prog 19 #[.pointer (some ⟨b, 0, none⟩), .int .u64 18446744073709551615] w fun e w' => e = .returned (.int .u64 n) ∧ Took b (l.drop s) f w w' := by
  have h := rnum_any b M64 l w h hl h8
  rw [hR] at h
  exact h

theorem endR_ok {l : List Int} {f : Int} (h : endR l f = 0) : l = [] ∧ f = 0 := by
  unfold endR at h
  split at h
  · simp at h
  · rename_i hn
    subst h
    refine ⟨?_, rfl⟩
    cases l with
    | nil => rfl
    | cons x r => simp at hn

theorem one_num' (n : Nat) : [] ++ [n].flatMap vi = vi n := by simp

set_option maxRecDepth 100000 in
set_option maxHeartbeats 1600000 in
theorem law_one (S : Nat → Prop) (A : Option Addr) (c : Nat) (l0 : List Int) (kd : Nat) (w : World) (hrow0 : Row S w A (u8s l0)) (hc0 : l0.length ≤ c) (hl0 : l0.length ≤ 9223372036854775807) (h80 : Bytes8 l0) (hkd : kd ≤ 255) :
    Calls Try.prog 5 #[.slice A l0.length c, .int .u8 (kd : Int)] w fun e w' => e = .returned (.bool true) ∧ Below w.heap.size w w' := by
  go_enter Try.func5, Try.ntmps5
  go_wp2_with fail
  refine (awake_any _).mono ?_
  rintro e w1 ⟨rfl, hb1⟩
  have hrow1 := hrow0.below hb1
  go_wp2_with fail
  refine (cut_any S A c 60 l0 _ hrow1 hc0 hl0 (by decide)).mono ?_
  rintro e w2 ⟨A2, c2, rfl, hc2, hrow2, hb2⟩
  have hl : (l0.take 60).length ≤ 60 := by rw [List.length_take]; omega
  have h8 : Bytes8 (l0.take 60) := fun x hx => h80 x (List.mem_of_mem_take hx)
  rw [u8s_len] at hc2 ⊢
  generalize l0.take 60 = l at *
  have hb2' := hb1.trans (hb2.mono hb1.size)
  clear hrow1 hrow0 hc0 hl0 h80 hb2 hb1
  go_wp2_with fail
  refine (newReader_any _ A2 c2 l _ hrow2 (by omega)).mono ?_
  rintro e w3 ⟨b, rfl, hb, hrd, hb3⟩
  have hb3' := hb2'.trans (hb3.mono hb2'.size)
  have hrow3 : Row (fun g => g < b) w3 A2 (u8s l) := (hrow2.mono (fun g hg _ => Nat.lt_of_lt_of_le hg hb)).below hb3
  have hblt := hrd.lt
  have hwb : w.heap.size ≤ b := Nat.le_trans hb2'.size hb
  clear hrow2 hb3 hb2' hb
  have hwr := Wr.new w3
  have hbw : Below w3.heap.size w3 (w3.alloc (.cells #[.slice none 0 0] 27)) := (Below.refl _ _).alloc (Nat.le_refl _) _
  have hrd4 := hrd.kept hbw hblt
  have hrow4 := hrow3.below hbw
  have hb4 := hb3'.trans (hbw.mono hb3'.size)
  have hs4 : w3.heap.size < (w3.alloc (.cells #[.slice none 0 0] 27)).heap.size := by simp
  obtain ⟨w4, hw4⟩ : ∃ x, x = w3.alloc (.cells #[.slice none 0 0] 27) := ⟨_, rfl⟩
  rw [← hw4] at hwr hrd4 hrow4 hb4 hs4
  have HW4 := Lib.hid hw4
  clear hw4 hrd hrow3 hbw
  go_wp2_with fail
  · rw [← HW4.out]
    obtain ⟨⟨n, s, f⟩, hR⟩ : ∃ r, numR l M64 = r := ⟨_, rfl⟩
    have hn64 : n < U64 := by have := numR_le l M64; rw [hR] at this; unfold U64; unfold M64 at this; simp only at this; omega
    have HR := Lib.hid hR
    clear hR
    refine (rnum_max b l n s f _ hrd4 (by omega) h8 HR.out).mono ?_
    rintro e w5 ⟨rfl, hrd5, hf5⟩
    have hwr5 : Wr w5 w3.heap.size w3.heap.size (.slice none 0 0) [] := hwr.kept hf5 (by omega) (by simp) (.inl rfl)
    have hrow5 : Row (fun g => g < b) w5 A2 (u8s l) := hrow4.kept hf5.size fun g hg h => hf5.block g hg (by omega) (by simp)
    have hb5 : Below b w4 w5 := ⟨hf5.os, hf5.tape, hf5.output, hf5.size, fun k hk => hf5.block k (by omega) (by omega) (by simp)⟩
    have hbw5 : Below w.heap.size w w5 := hb4.trans (hb5.mono hwb)
    go_wp2_with fail
    have hal : Below w5.heap.size w5 (w5.alloc (.cells #[.int .u64 n] 35)) := (Below.refl _ _).alloc (Nat.le_refl _) _
    have hwr6 := hwr5.same hal
    have hr6 : Row (OffW w3.heap.size (.slice none 0 0)) (w5.alloc (.cells #[.int .u64 n] 35)) (some ⟨w5.heap.size, 0, none⟩) (u64s [n]) := Row.of_cells (new_at rfl) (by simp [u64s]) (hwr5.off (Nat.le_refl _))
    have hrd6 := hrd5.kept hal hrd5.lt
    have hrow6 := hrow5.below hal
    have hbw6 := hbw5.trans (hal.mono hbw5.size)
    have hs5 := hf5.size
    clear hwr5 hrd5 hrow5 hbw5 hf5 hal
    refine (nums_any w3.heap.size w3.heap.size 1 _ [] [n] _ _ hwr6 hr6 (by simpa using hn64) (by simp)).mono ?_
    rintro e w7 ⟨rfl, hw7⟩
    rw [one_num'] at hw7
    have hb7 := hw7.below hwr6 (Nat.le_refl _)
    have hrd7 := hrd6.kept hb7 hblt
    have hrow7 : Row (fun g => g < b) w7 A2 (u8s l) := hrow6.kept hb7.size fun g _ h => hb7.block g (by omega)
    have hbw7 : Below w.heap.size w w7 := hbw6.trans (hb7.mono (by omega))
    obtain ⟨v7, hv7, _, _⟩ := hw7
    clear hwr6 hrd6 hrow6 hbw6 hb7
    go_wp2_with fail
    refine (end_any b _ _ _ hrd7).mono ?_
    rintro e w8 ⟨rfl, rfl⟩
    by_cases hE : endR (l.drop s) f = 0
    · have heq := (show vi n = l by
        obtain ⟨h1, h2⟩ := endR_ok hE
        have h3 := HR.out
        rw [h2] at h3
        have h4 := (numR_form h8 h3).1
        have h5 := List.drop_eq_nil_iff.1 h1
        rw [← h4, List.take_of_length_le h5])
      have HQ := Lib.hid heq
      rw [hE]
      clear hE heq
      go_wp2_with fail
      refine (bytes_any _ _ v7 _ _ hv7 (by have := vi_len10 hn64; omega)).mono ?_
      rintro e w9 ⟨g9, rfl, hg9, hgb9, hb9⟩
      have hrow9 := hrow7.below hb9
      have hbw9 := hbw7.trans (hb9.mono hbw7.size)
      go_wp2_with fail
      refine (same_any (fun _ => True) _ _ _ _ _ (vi n) l _ (Row.of_block hgb9 trivial) hrow9 (by rw [HQ.out]; exact h8) h8).mono ?_
      rintro e w10 ⟨rfl, rfl⟩
      rw [show ((vi n) == l) = true by rw [HQ.out]; simp]
      go_wp2_with fail
      go_ret
      exact ⟨rfl, hbw9⟩
    · have hE' : (endR (l.drop s) f != 0) = true := by simpa using hE
      clear hE
      go_wp2_with fail
      go_ret
      exact ⟨rfl, hbw7⟩
  · rw [← HW4.out]
    have hold := rtext_any b 1000 l w4 hrd4 (by omega) h8 (by decide) 1000 rfl
    have hlen := textR_len l 1000
    obtain ⟨⟨t, l', f⟩, hR⟩ : ∃ r, textR l 1000 = r := ⟨_, rfl⟩
    rw [hR] at hold hlen
    simp only at hold hlen
    have HR := Lib.hid hR
    have HT := Lib.hid hold
    clear hR hold
    refine HT.out.mono ?_
    rintro e w5 ⟨A5, c5, rfl, hc5, hrt5, hrd5, hf5⟩
    have hwr5 : Wr w5 w3.heap.size w3.heap.size (.slice none 0 0) [] := hwr.kept hf5 (by omega) (by simp) (.inl rfl)
    have hrow5 : Row (fun g => g < b) w5 A2 (u8s l) := hrow4.kept hf5.size fun g hg h => hf5.block g hg (by omega) (by simp)
    have hb5 : Below b w4 w5 := ⟨hf5.os, hf5.tape, hf5.output, hf5.size, fun k hk => hf5.block k (by omega) (by omega) (by simp)⟩
    have hbw5 : Below w.heap.size w w5 := hb4.trans (hb5.mono hwb)
    go_wp2_with fail
    have hal : Below w5.heap.size w5 (w5.alloc (.cells #[.slice A5 t.length c5] 25)) := (Below.refl _ _).alloc (Nat.le_refl _) _
    have hwr6 := hwr5.same hal
    have hr6 : Texts (OffW w3.heap.size (.slice none 0 0)) (w5.alloc (.cells #[.slice A5 t.length c5] 25)) (some ⟨w5.heap.size, 0, none⟩) [t] := by
      refine ⟨[.slice A5 t.length c5], rfl, Row.of_cells (new_at rfl) rfl (hwr5.off (Nat.le_refl _)), fun k hk => ?_⟩
      obtain rfl : k = 0 := by simpa using hk
      exact ⟨A5, c5, rfl, (hrt5.below hal).mono fun g _ hg => ⟨by omega, by simp [Value.ownBlock]⟩⟩
    have hrd6 := hrd5.kept hal hrd5.lt
    have hrow6 := hrow5.below hal
    have hbw6 := hbw5.trans (hal.mono hbw5.size)
    have hs5 := hf5.size
    clear hwr5 hrd5 hrow5 hbw5 hf5 hal hrt5
    refine (text_any w3.heap.size w3.heap.size 1 _ [] [t] _ _ hwr6 hr6 (by intro x hx; simp at hx; subst hx; unfold U64; omega) (by simp [bulkT]; omega) (by simp)).mono ?_
    rintro e w7 ⟨rfl, hw7⟩
    rw [show [] ++ [t].flatMap textB = textB t by simp] at hw7
    have hb7 := hw7.below hwr6 (Nat.le_refl _)
    have hrd7 := hrd6.kept hb7 hblt
    have hrow7 : Row (fun g => g < b) w7 A2 (u8s l) := hrow6.kept hb7.size fun g _ h => hb7.block g (by omega)
    have hbw7 : Below w.heap.size w w7 := hbw6.trans (hb7.mono (by omega))
    obtain ⟨v7, hv7, _, _⟩ := hw7
    clear hwr6 hrd6 hrow6 hbw6 hb7
    go_wp2_with fail
    refine (end_any b _ _ _ hrd7).mono ?_
    rintro e w8 ⟨rfl, rfl⟩
    by_cases hE : endR l' f = 0
    · have heq := (show textB t = l by
        obtain ⟨h1, h2⟩ := endR_ok hE
        have h3 := HR.out
        rw [h1, h2] at h3
        have h4 := text_form h8 h3
        simpa [textB] using h4)
      have HQ := Lib.hid heq
      rw [hE]
      clear hE heq
      go_wp2_with fail
      refine (bytes_any _ _ v7 _ _ hv7 (by rw [HQ.out]; omega)).mono ?_
      rintro e w9 ⟨g9, rfl, hg9, hgb9, hb9⟩
      have hrow9 := hrow7.below hb9
      have hbw9 := hbw7.trans (hb9.mono hbw7.size)
      go_wp2_with fail
      refine (same_any (fun _ => True) _ _ _ _ _ (textB t) l _ (Row.of_block hgb9 trivial) hrow9 (by rw [HQ.out]; exact h8) h8).mono ?_
      rintro e w10 ⟨rfl, rfl⟩
      rw [show ((textB t) == l) = true by rw [HQ.out]; simp]
      go_wp2_with fail
      go_ret
      exact ⟨rfl, hbw9⟩
    · have hE' : (endR l' f != 0) = true := by simpa using hE
      clear hE
      go_wp2_with fail
      go_ret
      exact ⟨rfl, hbw7⟩
  · rw [← HW4.out]
    have hold := rvec_any b 1000 l w4 hrd4 (by omega) h8 (by decide) 1000 rfl
    have hok := vecR_ok (most := 1000) h8
    obtain ⟨⟨xs, d, f⟩, hR⟩ : ∃ r, vecR l 1000 = r := ⟨_, rfl⟩
    rw [hR] at hold hok
    simp only at hok
    obtain ⟨hxl, hx32⟩ := hok
    have HR := Lib.hid hR
    have HT := Lib.hid hold
    have HX := Lib.hid hx32
    clear hR hold hx32
    refine HT.out.mono ?_
    rintro e w5 ⟨A5, c5, rfl, hc5, hrt5, hrd5, hf5⟩
    have hwr5 : Wr w5 w3.heap.size w3.heap.size (.slice none 0 0) [] := hwr.kept hf5 (by omega) (by simp) (.inl rfl)
    have hrow5 : Row (fun g => g < b) w5 A2 (u8s l) := hrow4.kept hf5.size fun g hg h => hf5.block g hg (by omega) (by simp)
    have hb5 : Below b w4 w5 := ⟨hf5.os, hf5.tape, hf5.output, hf5.size, fun k hk => hf5.block k (by omega) (by omega) (by simp)⟩
    have hbw5 : Below w.heap.size w w5 := hb4.trans (hb5.mono hwb)
    go_wp2_with fail
    have hal : Below w5.heap.size w5 (w5.alloc (.cells #[.slice A5 xs.length c5] 40)) := (Below.refl _ _).alloc (Nat.le_refl _) _
    have hwr6 := hwr5.same hal
    have hr6 : Rows (OffW w3.heap.size (.slice none 0 0)) (w5.alloc (.cells #[.slice A5 xs.length c5] 40)) (some ⟨w5.heap.size, 0, none⟩) [xs] := by
      refine ⟨[.slice A5 xs.length c5], rfl, Row.of_cells (new_at rfl) rfl (hwr5.off (Nat.le_refl _)), fun k hk => ?_⟩
      obtain rfl : k = 0 := by simpa using hk
      exact ⟨A5, c5, rfl, (hrt5.below hal).mono fun g _ hg => ⟨by omega, by simp [Value.ownBlock]⟩⟩
    have hrd6 := hrd5.kept hal hrd5.lt
    have hrow6 := hrow5.below hal
    have hbw6 := hbw5.trans (hal.mono hbw5.size)
    have hs5 := hf5.size
    clear hwr5 hrd5 hrow5 hbw5 hf5 hal hrt5
    refine (vecs_any w3.heap.size w3.heap.size 1 _ [] [xs] _ _ hwr6 hr6 (by intro x hx; simp at hx; subst hx; exact ⟨HX.out, by unfold U64; omega⟩) (by simp [bulkV]; omega) (by simp)).mono ?_
    rintro e w7 ⟨rfl, hw7⟩
    rw [show [] ++ [xs].flatMap vecB = vecB xs by simp] at hw7
    have hb7 := hw7.below hwr6 (Nat.le_refl _)
    have hrd7 := hrd6.kept hb7 hblt
    have hrow7 : Row (fun g => g < b) w7 A2 (u8s l) := hrow6.kept hb7.size fun g _ h => hb7.block g (by omega)
    have hbw7 : Below w.heap.size w w7 := hbw6.trans (hb7.mono (by omega))
    obtain ⟨v7, hv7, _, _⟩ := hw7
    clear hwr6 hrd6 hrow6 hbw6 hb7
    go_wp2_with fail
    refine (end_any b _ _ _ hrd7).mono ?_
    rintro e w8 ⟨rfl, rfl⟩
    by_cases hE : endR (l.drop d) f = 0
    · have heq := (show vecB xs = l by
        obtain ⟨h1, h2⟩ := endR_ok hE
        have h3 := HR.out
        rw [h2] at h3
        have h4 := (vec_form h8 h3).1
        have h5 := List.drop_eq_nil_iff.1 h1
        rw [← h4, List.take_of_length_le h5])
      have HQ := Lib.hid heq
      rw [hE]
      clear hE heq
      go_wp2_with fail
      refine (bytes_any _ _ v7 _ _ hv7 (by rw [HQ.out]; omega)).mono ?_
      rintro e w9 ⟨g9, rfl, hg9, hgb9, hb9⟩
      have hrow9 := hrow7.below hb9
      have hbw9 := hbw7.trans (hb9.mono hbw7.size)
      go_wp2_with fail
      refine (same_any (fun _ => True) _ _ _ _ _ (vecB xs) l _ (Row.of_block hgb9 trivial) hrow9 (by rw [HQ.out]; exact h8) h8).mono ?_
      rintro e w10 ⟨rfl, rfl⟩
      rw [show ((vecB xs) == l) = true by rw [HQ.out]; simp]
      go_wp2_with fail
      go_ret
      exact ⟨rfl, hbw9⟩
    · have hE' : (endR (l.drop d) f != 0) = true := by simpa using hE
      clear hE
      go_wp2_with fail
      go_ret
      exact ⟨rfl, hbw7⟩

end Go.Proofs.Ytigigpeombahnaa
