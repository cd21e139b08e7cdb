/-
  ScrollLimits: what is no more than it may be is read, else told as too much.
-/
import Derived.Test.YtigigpeombahnaaOne
import Derived.Test.YtigigpeombahnaaCutVec
import Derived.Test.YtigigpeombahnaaReadMath
namespace Go.Proofs.Ytigigpeombahnaa
open Go.RowKit

/-- A Reader whose bytes lie from block lo on. -/
def RdLo (lo : Nat) (w : World) (b : Nat) (l : List Int) (f : Int) : Prop :=
  ∃ A c, w.heap[b]? = some (.cells #[.slice A l.length c, .int .i64 f] 64 (0, 0)) ∧ l.length ≤ c ∧ Row (fun g => lo ≤ g ∧ g < b) w A (u8s l)
def OpenedLo (w : World) (l : List Int) (e : Ending) (w' : World) : Prop :=
  ∃ b, e = .returned (.pointer (some ⟨b, 0, none⟩)) ∧ w.heap.size ≤ b ∧ RdLo w.heap.size w' b l 0 ∧ Below w.heap.size w w'
theorem RdLo.other {lo : Nat} {w w' : World} {b b' : Nat} {l : List Int} {f : Int} (h : RdLo lo w b l f) (hf : Fr b' none w w') (hb : b' < lo) (hlo : lo ≤ b) : Rd w' b l f := by
  obtain ⟨A, c, h1, h2, h3⟩ := h
  exact ⟨A, c, (hf.block b (lt_of_block h1) (by omega) (by simp)).trans h1, h2, (h3.kept hf.size fun g hg hs => hf.block g hg (by omega) (by simp)).mono fun g _ hs => hs.2⟩

set_option maxRecDepth 100000 in
set_option maxHeartbeats 400000 in
theorem newReader_lo (S : Nat → Prop) (A : Option Addr) (c : Nat) (l : List Int) (w : World) (hrow : Row S w A (u8s l)) (hl : l.length ≤ 70368744177664) :
    Calls Try.prog 18 #[.slice A l.length c] w fun e w' => OpenedLo w l e w' := by
  obtain ⟨L, hL, hmk⟩ := run_make_u8 l.length hl
  have HL := Lib.hid hL
  clear hL
  go_enter Try.func18, Try.ntmps18
  go_wp2_with (with_reducible refine wpList_copy_splice rfl (.tmp 7) (.tmp 8) 25 25 rfl 5 Try.underlying25 Try.size5 (some ⟨w.heap.size, 0, none⟩) A l.length l.length l.length c rfl rfl w.heap.size 0 L 5 (heap_alloc_new w _) (u8s l) ?c1 ?c2 ?c3 ?c4 w.heap.size w ?c5 (Nat.le_refl _) ?_; rotate_right; intro w2 hg2 hb2)
  case c1 => rw [u8s_len]; exact (Nat.min_self _).symm
  case c2 => exact fun h0 => by simpa using (hrow.alloc _).cells h0
  case c3 => rw [u8s_len, HL.out]; omega
  case c4 => exact u8s_one l
  case c5 => exact (Below.refl _ _).alloc (Nat.le_refl _) _
  go_ret
  have hg3 := hg2.out
  rw [splice_all (by rw [u8s_len, HL.out])] at hg3
  have hlt := lt_of_block hg3
  exact ⟨w2.heap.size, rfl, hb2.size, ⟨_, l.length, heap_alloc_new w2 _, Nat.le_refl _, (Row.of_block hg3 ⟨Nat.le_refl _, by omega⟩).alloc _⟩, hb2.alloc hb2.size _⟩

theorem RdLo.rd {lo : Nat} {w : World} {b : Nat} {l : List Int} {f : Int} (h : RdLo lo w b l f) : Rd w b l f := by
  obtain ⟨A, c, h1, h2, h3⟩ := h
  exact ⟨A, c, h1, h2, h3.mono fun g _ hs => hs.2⟩
theorem Rd.other {w w' : World} {b b' : Nat} {l : List Int} {f : Int} (h : Rd w b l f) (hf : Fr b' none w w') (hb : b < b') : Rd w' b l f := by
  obtain ⟨A, c, h1, h2, h3⟩ := h
  exact ⟨A, c, (hf.block b (lt_of_block h1) (by omega) (by simp)).trans h1, h2, h3.kept hf.size fun g hg hs => hf.block g hg (by omega) (by simp)⟩
theorem text_or {t : List Int} (ht : t.length < U64) (mo : Nat) : (mo < t.length ∧ textR (textB t) mo = ([], textB t, 3)) ∨ (t.length ≤ mo ∧ textR (textB t) mo = (t, [], 0)) := by
  have h := textR_text ht [] mo
  rw [List.append_nil] at h
  by_cases hm : mo < t.length
  · exact .inl ⟨hm, by rw [if_pos hm] at h; exact h⟩
  · exact .inr ⟨by omega, by rw [if_neg hm] at h; exact h⟩
theorem vec_or {xs : List Int} (hx : ∀ x ∈ xs, I32 x) (hl : xs.length < U64) (mo : Nat) : (mo < xs.length ∧ vecR (vecB xs) mo = ([], 0, 3)) ∨ (xs.length ≤ mo ∧ vecR (vecB xs) mo = (xs, (vecB xs).length, 0)) := by
  have h := vecR_vec hx hl [] mo
  rw [List.append_nil] at h
  by_cases hm : mo < xs.length
  · exact .inl ⟨hm, by rw [if_pos hm] at h; exact h⟩
  · exact .inr ⟨by omega, by rw [if_neg hm] at h; exact h⟩

theorem num_one : numR [1] 9 = (1, 1, 0) := by
  have h := numR_vi (n := 1) (by unfold U64; omega) [] 9
  rw [vi_lt (by omega)] at h
  simpa using h
theorem end_three (p : List Int) : endR p 3 = 3 := by simp [endR]
theorem end_none : endR [] 0 = 0 := by simp [endR]
theorem drop_all (p : List Int) : p.drop p.length = [] := List.drop_length ..

set_option maxRecDepth 100000 in
set_option maxHeartbeats 8000000 in
theorem law_limits (S T : Nat → Prop) (A1 A2 : Option Addr) (c1 c2 n mo : Nat) (t0 v0 : List Int) (most : Int) (w : World) (hn : n < U64)
    (hrt0 : Row S w A1 (u8s t0)) (hct0 : t0.length ≤ c1) (hlt0 : t0.length ≤ 9223372036854775807) (h8t0 : Bytes8 t0)
    (hrv0 : Row T w A2 (i32s v0)) (hcv0 : v0.length ≤ c2) (hlv0 : v0.length ≤ 9223372036854775807) (hv0 : ∀ x ∈ v0, I32 x) (hm : most ≤ 9223372036854775807) (hmo : most.toNat = mo) :
    Calls Try.prog 7 #[.int .u64 (n : Int), .slice A1 t0.length c1, .slice A2 v0.length c2, .int .i64 most] w fun e w' => e = .returned (.bool true) ∧ Below w.heap.size w w' := by
  have hmx : (if most < 0 then 0 else most) = (mo : Int) := by split <;> omega
  have HM := Lib.hid hmo
  clear hmo
  have hvn := vi_len10 hn
  go_enter Try.func7, Try.ntmps7
  go_wp2_with fail
  refine (awake_any _).mono ?_
  rintro e w1 ⟨rfl, hb1⟩
  have hrt1 := hrt0.below hb1
  have hrv1 := hrv0.below hb1
  go_wp2_with fail
  refine (cut_any S A1 c1 50 t0 _ hrt1 hct0 hlt0 (by decide)).mono ?_
  rintro e w2 ⟨A3, c3, rfl, hc3, hrt2, hb2⟩
  have htl : (t0.take 50).length ≤ 50 := by rw [List.length_take]; omega
  have h8 : Bytes8 (t0.take 50) := fun x hx => h8t0 x (List.mem_of_mem_take hx)
  have hrv2 := hrv1.below hb2
  rw [u8s_len] at hc3 ⊢
  generalize t0.take 50 = t at *
  go_wp2_with fail
  refine (cutVec_any T A2 c2 20 v0 _ hrv2 hcv0 hlv0 (by decide)).mono ?_
  rintro e w3 ⟨A4, c4, rfl, hc4, hrv3, hb3⟩
  have hvl : (v0.take 20).length ≤ 20 := by rw [List.length_take]; omega
  have hv32 : ∀ x ∈ v0.take 20, I32 x := fun x hx => hv0 x (List.mem_of_mem_take hx)
  have hrt3 := hrt2.below hb3
  rw [i32s_len] at hc4 ⊢
  generalize v0.take 20 = xs at *
  have HV := Lib.hid hv32
  have hbw3 := (hb1.trans (hb2.mono hb1.size)).trans (hb3.mono (Nat.le_trans hb1.size hb2.size))
  have hrt : Row (fun g => g < w3.heap.size) w3 A3 (u8s t) := hrt3.mono fun g h _ => h
  have hrv : Row (fun g => g < w3.heap.size) w3 A4 (i32s xs) := hrv3.mono fun g h _ => h
  clear hrt0 hct0 hlt0 h8t0 hrv0 hcv0 hlv0 hv0 hrt1 hrv1 hrt2 hrv2 hrt3 hrv3 hb1 hb2 hb3 hv32
  go_wp2_with fail
  obtain ⟨w4, hw4e⟩ : ∃ x, x = (w3.alloc (.cells #[.slice none 0 0] 27)).alloc (.cells #[.int .u64 n] 35) := ⟨_, rfl⟩
  have hw4 : Wr w4 w3.heap.size w3.heap.size (.slice none 0 0) [] := by rw [hw4e]; exact (Wr.new w3).alloc _
  have hr4 : Row (OffW w3.heap.size (.slice none 0 0)) w4 (some ⟨w3.heap.size + 1, 0, none⟩) (u64s [n]) := by
    rw [hw4e]
    exact Row.of_cells (new_at (by simp)) (by simp [u64s]) ((Wr.new w3).off (by simp))
  have hb4 : Below w3.heap.size w3 w4 := by rw [hw4e]; exact ((Below.refl _ _).alloc (Nat.le_refl _) _).alloc (by simp) _
  rw [← hw4e]
  clear hw4e
  refine (nums_any w3.heap.size w3.heap.size 1 _ [] [n] _ _ hw4 hr4 (by simpa using hn) (by simp)).mono ?_
  rintro e w5 ⟨rfl, hw5⟩
  have hb5 := hb4.trans (hw5.below hw4 (Nat.le_refl _))
  rw [one_num'] at hw5
  obtain ⟨v5, hv5, _, _⟩ := hw5
  clear hw4 hr4 hb4
  go_wp2_with fail
  have hal : Below w5.heap.size w5 (w5.alloc (.cells #[.int .u64 1] 35)) := (Below.refl _ _).alloc (Nat.le_refl _) _
  have hw6 := hv5.same hal
  have hr6 : Row (OffW w3.heap.size v5) (w5.alloc (.cells #[.int .u64 1] 35)) (some ⟨w5.heap.size, 0, none⟩) (u64s [1]) := Row.of_cells (new_at rfl) (by simp [u64s]) (hv5.off (Nat.le_refl _))
  have hb6 := hb5.trans (hal.mono hb5.size)
  refine (nums_any w3.heap.size w3.heap.size 1 v5 (vi n) [1] _ _ hw6 hr6 (by simp [U64]) (by simp; omega)).mono ?_
  rintro e w7 ⟨rfl, hw7⟩
  have hb7 := hb6.trans (hw7.below hw6 (Nat.le_refl _))
  rw [show vi n ++ [1].flatMap vi = vi n ++ [1] by simp [vi_lt]] at hw7
  obtain ⟨v7, hv7, _, _⟩ := hw7
  clear hw6 hr6 hb6 hal hv5 hb5
  go_wp2_with fail
  refine (bytes_any _ _ v7 _ _ hv7 (by simp; omega)).mono ?_
  rintro e w8 ⟨g8, rfl, hg8, hgb8, hb8⟩
  have hb8' := hb7.trans (hb8.mono hb7.size)
  clear hv7 hb7 hb8 hg8
  have hrow8 : Row (fun _ => True) w8 (some ⟨g8, 0, none⟩) (u8s (vi n ++ [1])) := Row.of_block hgb8 trivial
  have hp8 : Bytes8 (vi n ++ [1]) := fun x hx => by
    rcases List.mem_append.1 hx with h | h
    · exact vi_bytes n x h
    · simp at h; omega
  have hpl : (vi n ++ [1]).length ≤ 11 := by simp; omega
  have hnr := numR_vi hn [1] mo
  have hdrop : (vi n ++ [1]).drop (vi n).length = [1] := List.drop_left ..
  generalize hpe : vi n ++ [1] = p at *
  have HNR := Lib.hid hnr
  have HDR := Lib.hid hdrop
  have HPE := Lib.hid hpe
  clear hnr hdrop hpe
  go_wp2_with fail
  refine (newReader_any _ _ _ p _ hrow8 (by omega)).mono ?_
  rintro e w9 ⟨b9, rfl, hb9, hrd9, hbl9⟩
  have hb9' := hb8'.trans (hbl9.mono hb8'.size)
  clear hrow8 hbl9 hgb8
  have hb9w : w3.heap.size ≤ b9 := Nat.le_trans hb8'.size hb9
  have hrn := rnum_any b9 mo p w9 hrd9 (by omega) hp8
  rw [HNR.out] at hrn
  clear hb9 hb8'
  by_cases hN : mo < n
  case' pos =>
    rw [if_pos hN] at hrn
    simp only [List.drop_zero] at hrn
    have HRN := Lib.hid hrn
    have hN' : ¬ (n : Int) ≤ (mo : Int) := by omega
    clear hrn hrd9
    go_wp2_with fail
    refine HRN.out.mono ?_
    rintro e w10 ⟨rfl, hrd10, hf10⟩
    have hbX := hb9'.trans (hf10.below hb9'.size hb9w (fun _ h => by cases h))
    clear hb9' hf10
    go_wp2_with fail
    refine (rnum_done b9 9 p 3 _ hrd10 rfl).mono ?_
    rintro e wX ⟨rfl, rfl⟩
    go_wp2_with fail
    refine (end_any b9 p 3 _ hrd10).mono ?_
    rintro e wX ⟨rfl, rfl⟩
    rw [end_three]
    go_wp2_with fail
    refine (left_any b9 p 3 _ hrd10).mono ?_
    rintro e wX ⟨rfl, rfl⟩
    clear hrd10
    go_wp2_with fail
  case' neg =>
    rw [if_neg hN] at hrn
    simp only at hrn
    rw [HDR.out] at hrn
    have HRN := Lib.hid hrn
    have hN' : (n : Int) ≤ (mo : Int) := by omega
    clear hrn hrd9
    go_wp2_with fail
    refine HRN.out.mono ?_
    rintro e w9' ⟨rfl, hrd9', hf9'⟩
    have hb9'' := hb9'.trans (hf9'.below hb9'.size hb9w (fun _ h => by cases h))
    have hr1 := rnum_any b9 9 [1] w9' hrd9' (by decide) (by simp [Bytes8])
    rw [num_one] at hr1
    have HR1 := Lib.hid hr1
    clear hb9' hf9' hr1 hrd9'
    go_wp2_with fail
    refine HR1.out.mono ?_
    rintro e w10 ⟨rfl, hrd10, hf10⟩
    have hbX := hb9''.trans (hf10.below hb9''.size hb9w (fun _ h => by cases h))
    clear hb9'' hf10
    go_wp2_with fail
    refine (end_any b9 _ _ _ hrd10).mono ?_
    rintro e wX ⟨rfl, rfl⟩
    rw [show endR (List.drop (1, 1, (0 : Int)).2.1 [1]) (1, 1, (0 : Int)).2.2 = 0 from rfl]
    clear hrd10
    go_wp2_with fail
  all_goals
    have hrt10 : Row (fun g => g < w3.heap.size) w10 A3 (u8s t) := hrt.kept hbX.size fun g _ h => hbX.block g h
    have hrv10 : Row (fun g => g < w3.heap.size) w10 A4 (i32s xs) := hrv.kept hbX.size fun g _ h => hbX.block g h
    have hbw10 := hbw3.trans (hbX.mono hbw3.size)
    have hs10 := hbX.size
    have hsw := hbw3.size
    clear hbX hrt hrv hbw3 HRN
    obtain ⟨w11, hw11e⟩ : ∃ x, x = (w10.alloc (.cells #[.slice none 0 0] 27)).alloc (.cells #[.slice A3 t.length c3] 25) := ⟨_, rfl⟩
    have hw11 : Wr w11 w10.heap.size w10.heap.size (.slice none 0 0) [] := by rw [hw11e]; exact (Wr.new w10).alloc _
    have hr11 : Texts (OffW w10.heap.size (.slice none 0 0)) w11 (some ⟨w10.heap.size + 1, 0, none⟩) [t] := by
      rw [hw11e]
      refine ⟨[.slice A3 t.length c3], rfl, Row.of_cells (new_at (by simp)) rfl ((Wr.new w10).off (by simp)), fun k hk => ?_⟩
      obtain rfl : k = 0 := by simpa using hk
      exact ⟨A3, c3, rfl, ((hrt10.alloc _).alloc _).mono fun g _ hg => ⟨by omega, by simp [Value.ownBlock]⟩⟩
    have hb11 : Below w10.heap.size w10 w11 := by rw [hw11e]; exact ((Below.refl _ _).alloc (Nat.le_refl _) _).alloc (by simp) _
    rw [← hw11e]
    clear hw11e
    refine (text_any w10.heap.size w10.heap.size 1 _ [] [t] _ _ hw11 hr11 (by intro x hx; simp at hx; subst hx; unfold U64; omega) (by simp [bulkT]; omega) (by simp)).mono ?_
    rintro e w12 ⟨rfl, hw12⟩
    have hb12 := hb11.trans (hw12.below hw11 (Nat.le_refl _))
    rw [show [] ++ [t].flatMap textB = textB t by simp] at hw12
    obtain ⟨v12, hv12, _, _⟩ := hw12
    have htbl : (textB t).length ≤ 60 := by
      have := vi_len10 (show t.length < U64 by unfold U64; omega)
      simp [textB]; omega
    have htb8 : Bytes8 (textB t) := fun x hx => by
      rcases List.mem_append.1 hx with h | h
      · exact vi_bytes _ x h
      · exact h8 x h
    clear hw11 hr11 hb11
    go_wp2_with fail
    refine (bytes_any _ _ v12 _ _ hv12 (by omega)).mono ?_
    rintro e w13 ⟨g13, rfl, hg13, hgb13, hb13⟩
    have hb13' := hb12.trans (hb13.mono hb12.size)
    clear hv12 hb12 hb13 hg13
    go_wp2_with fail
    refine (newReader_lo _ _ _ (textB t) _ (Row.of_block hgb13 trivial : Row (fun _ => True) _ _ _) (by omega)).mono ?_
    rintro e w14 ⟨b14, rfl, hb14, hrd14, hbl14⟩
    have hb14' := hb13'.trans (hbl14.mono hb13'.size)
    have hs13 := hb13'.size
    clear hbl14 hgb13 hb13'
    go_wp2_with fail
    have hs14 := hb14'.size
    have hrt14 : Row (fun g => g < w3.heap.size) w14 A3 (u8s t) := hrt10.kept hb14'.size fun g _ h => hb14'.block g (by omega)
    have hrv14 : Row (fun g => g < w3.heap.size) w14 A4 (i32s xs) := hrv10.kept hb14'.size fun g _ h => hb14'.block g (by omega)
    have hbw14 := hbw10.trans (hb14'.mono hbw10.size)
    have hx14 := hrd14.rd
    have hbx := hx14.lt
    clear hb14' hrt10 hrv10 hrd14 hbw10
    obtain ⟨w15, hw15e⟩ : ∃ x, x = (w14.alloc (.cells #[.slice none 0 0] 27)).alloc (.cells #[.slice A4 xs.length c4] 40) := ⟨_, rfl⟩
    have hw15 : Wr w15 w14.heap.size w14.heap.size (.slice none 0 0) [] := by rw [hw15e]; exact (Wr.new w14).alloc _
    have hr15 : Rows (OffW w14.heap.size (.slice none 0 0)) w15 (some ⟨w14.heap.size + 1, 0, none⟩) [xs] := by
      rw [hw15e]
      refine ⟨[.slice A4 xs.length c4], rfl, Row.of_cells (new_at (by simp)) rfl ((Wr.new w14).off (by simp)), fun k hk => ?_⟩
      obtain rfl : k = 0 := by simpa using hk
      exact ⟨A4, c4, rfl, ((hrv14.alloc _).alloc _).mono fun g _ hg => ⟨by omega, by simp [Value.ownBlock]⟩⟩
    have hb15 : Below w14.heap.size w14 w15 := by rw [hw15e]; exact ((Below.refl _ _).alloc (Nat.le_refl _) _).alloc (by simp) _
    rw [← hw15e]
    clear hw15e
    refine (vecs_any w14.heap.size w14.heap.size 1 _ [] [xs] _ _ hw15 hr15 (by intro x hx; simp at hx; subst hx; exact ⟨HV.out, by unfold U64; omega⟩) (by simp [bulkV]; omega) (by simp)).mono ?_
    rintro e w16 ⟨rfl, hw16⟩
    have hb16 := hb15.trans (hw16.below hw15 (Nat.le_refl _))
    rw [show [] ++ [xs].flatMap vecB = vecB xs by simp] at hw16
    obtain ⟨v16, hv16, _, _⟩ := hw16
    have hvbl : (vecB xs).length ≤ 300 := by
      have h1 := vi_len10 (show xs.length < U64 by unfold U64; omega)
      have h2 := wholes_len xs HV.out
      simp [vecB]; omega
    have hvb8 : Bytes8 (vecB xs) := fun x hx => by
      rcases List.mem_append.1 hx with h | h
      · exact vi_bytes _ x h
      · unfold wholes at h
        obtain ⟨y, _, hy⟩ := List.mem_flatMap.1 h
        exact vi_bytes _ x hy
    clear hw15 hr15 hb15
    go_wp2_with fail
    refine (bytes_any _ _ v16 _ _ hv16 (by omega)).mono ?_
    rintro e w17 ⟨g17, rfl, hg17, hgb17, hb17⟩
    have hb17' := hb16.trans (hb17.mono hb16.size)
    clear hv16 hb16 hb17 hg17
    go_wp2_with fail
    refine (newReader_lo _ _ _ (vecB xs) _ (Row.of_block hgb17 trivial : Row (fun _ => True) _ _ _) (by omega)).mono ?_
    rintro e w18 ⟨b18, rfl, hb18, hrd18, hbl18⟩
    have hb18' := hb17'.trans (hbl18.mono hb17'.size)
    have hs17 := hb17'.size
    clear hbl18 hgb17 hb17'
    have hx18 := hx14.kept hb18' hbx
    have hrt18 : Row (fun g => g < w3.heap.size) w18 A3 (u8s t) := hrt14.kept hb18'.size fun g _ h => hb18'.block g (by omega)
    have hrv18 : Row (fun g => g < w3.heap.size) w18 A4 (i32s xs) := hrv14.kept hb18'.size fun g _ h => hb18'.block g (by omega)
    have hbw18 := hbw14.trans (hb18'.mono hbw14.size)
    have hwb : w.heap.size ≤ b14 := by omega
    have htx := rtext_any b14 most (textB t) w18 hx18 (by omega) htb8 hm mo HM.out
    have hx14l : b14 < w17.heap.size := by omega
    rcases text_or (show t.length < U64 by unfold U64; omega) mo with ⟨hT, hTR⟩ | ⟨hT, hTR⟩
    all_goals
      rw [hTR] at htx
      simp only at htx
      have HTX := Lib.hid htx
      clear htx hTR hx18 hx14
      go_wp2_with fail
      refine HTX.out.mono ?_
      rintro e w19 ⟨A19, c19, rfl, hc19, hra19, hx19, hf19⟩
      have hy19 := hrd18.other hf19 hx14l hb18
      have hrt19 : Row (fun g => g < w3.heap.size) w19 A3 (u8s t) := hrt18.kept hf19.size fun g hg h => hf19.block g hg (by omega) (by simp)
      have hrv19 : Row (fun g => g < w3.heap.size) w19 A4 (i32s xs) := hrv18.kept hf19.size fun g hg h => hf19.block g hg (by omega) (by simp)
      have hbw19 := hbw18.trans (hf19.below hbw18.size hwb (fun _ h => by cases h))
      have hvx := rvec_any b18 most (vecB xs) w19 hy19 (by omega) hvb8 hm mo HM.out
      clear HTX hrt18 hrv18 hf19 hy19
      rcases vec_or HV.out (show xs.length < U64 by unfold U64; omega) mo with ⟨hV, hVR⟩ | ⟨hV, hVR⟩
      all_goals
        rw [hVR] at hvx
        have HVX := Lib.hid hvx
        clear hvx hVR
        go_wp2_with fail
        refine HVX.out.mono ?_
        rintro e w20 ⟨A20, c20, rfl, hc20, hrb20, hy20, hf20⟩
        simp only at hc20 hrb20 hy20
        have hb14b : b14 < b18 := by omega
        have hx20 := hx19.other hf20 hb14b
        have hra20 := hra19.kept hf20.size fun g hg (h : g < b14) => hf20.block g hg (by omega) (by simp)
        have hrt20 : Row (fun g => g < w3.heap.size) w20 A3 (u8s t) := hrt19.kept hf20.size fun g hg h => hf20.block g hg (by omega) (by simp)
        have hrv20 : Row (fun g => g < w3.heap.size) w20 A4 (i32s xs) := hrv19.kept hf20.size fun g hg h => hf20.block g hg (by omega) (by simp)
        have hbw20 := hbw19.trans (hf20.below hbw19.size (by omega) (fun _ h => by cases h))
        try rw [drop_all] at hy20
        have hTd : (decide (t.length ≤ mo) = true ∧ t.length ≤ mo) ∨ (decide (t.length ≤ mo) = false ∧ mo < t.length) := by simp; omega
        have hVd : (decide (xs.length ≤ mo) = true ∧ xs.length ≤ mo) ∨ (decide (xs.length ≤ mo) = false ∧ mo < xs.length) := by simp; omega
        rcases hTd with ⟨hTd, hT2⟩ | ⟨hTd, hT2⟩
        all_goals first | (exfalso; omega) | skip
        all_goals rcases hVd with ⟨hVd, hV2⟩ | ⟨hVd, hV2⟩
        all_goals first | (exfalso; omega) | skip
        all_goals clear hT2 hV2 HVX hx19 hra19 hrt19 hrv19 hbw19 hf20
        go_wp2_with fail
        refine (end_any b14 _ _ _ hx20).mono ?_
        rintro e wE ⟨rfl, rfl⟩
        first | rw [end_three] | rw [end_none]
        go_wp2_with fail
        refine (end_any b18 _ _ _ hy20).mono ?_
        rintro e wE ⟨rfl, rfl⟩
        first | rw [end_three] | rw [end_none]
        go_wp2_with fail
        refine (end_any b14 _ _ _ hx20).mono ?_
        rintro e wE ⟨rfl, rfl⟩
        first | rw [end_three] | rw [end_none]
        go_wp2_with fail
        first | ((with_reducible refine (same_any _ _ _ _ c19 c3 t t _ hra20 hrt20 h8 h8).mono ?_); rintro e wE ⟨rfl, rfl⟩; rw [show (t == t) = true by simp]; go_wp2_with fail) | skip
        refine (end_any b18 _ _ _ hy20).mono ?_
        rintro e wE ⟨rfl, rfl⟩
        first | rw [end_three] | rw [end_none]
        go_wp2_with fail
        first | ((with_reducible refine (sameVec_any _ _ _ _ c20 c4 xs xs _ hrb20 hrv20 (by omega)).mono ?_); rintro e wS ⟨rfl, hbS⟩; rw [show (xs == xs) = true by simp]; go_wp2_with fail; go_ret; exact ⟨rfl, hbw20.trans (hbS.mono hbw20.size)⟩) | (go_ret; exact ⟨rfl, hbw20⟩)

end Go.Proofs.Ytigigpeombahnaa
