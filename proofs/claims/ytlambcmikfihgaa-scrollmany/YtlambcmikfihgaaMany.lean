/-
  What ScrollMany does: it returns true, and turns nothing that was there.
-/
import Derived.Test.YtlambcmikfihgaaMany1
import Derived.Deep.RegionHeld3
namespace Go.Proofs.Ytlambcmikfihgaa
open Go.RowKit

set_option maxRecDepth 100000 in
set_option maxHeartbeats 1600000 in
theorem law_many (S : Nat → Prop) (A1 A2 A3 : Option Addr) (c1 c2 c3 : Nat) (xs0 : List Nat) (ts0 vs0 : List (List Int)) (w : World) (h1 : Row S w A1 (u64s xs0)) (hc1 : xs0.length ≤ c1) (hl1 : xs0.length ≤ 9223372036854775807) (hx0 : ∀ x ∈ xs0, x < U64)
    (h2 : RowsC u8s w A2 ts0) (hl2 : ts0.length ≤ 9223372036854775807) (h82 : ∀ t ∈ ts0, Bytes8 t) (h3 : RowsC i32s w A3 vs0) (hl3 : vs0.length ≤ 9223372036854775807) (hi3 : ∀ v ∈ vs0, ∀ y ∈ v, I32 y) :
    Calls Try.prog 4 #[.slice A1 xs0.length c1, .slice A2 ts0.length c2, .slice A3 vs0.length c3] w fun e w' => e = .returned (.bool true) ∧ Below w.heap.size w w' := by
  go_enter Try.func4, Try.ntmps4
  go_wp2_with fail
  refine (awake_any _).mono ?_
  rintro e w1 ⟨rfl, hb1⟩
  have HF := Lib.hid (few_any S A1 A2 A3 c1 c2 c3 0 0 xs0 ts0 vs0 w1 (h1.below hb1) hc1 hl1 (h2.below hb1) hl2 (h3.below hb1) hl3)
  have hxs : Hid (∀ x ∈ xs0.take 5, x < U64) := fun x hx => hx0 x (List.mem_of_mem_take hx)
  have hxl : (xs0.take 5).length ≤ 5 := by rw [List.length_take]; omega
  have hts : Hid (∀ t ∈ cutR 40 ts0 ts0.length, Bytes8 t) := fun t ht x hx => by
    obtain ⟨y, hy, rfl⟩ := List.mem_map.1 ht
    exact h82 y (List.mem_of_mem_take hy) x (List.mem_of_mem_take hx)
  have hvs : Hid (∀ t ∈ cutR 12 vs0 vs0.length, ∀ y ∈ t, I32 y) := fun t ht x hx => by
    obtain ⟨y, hy, rfl⟩ := List.mem_map.1 ht
    exact hi3 y (List.mem_of_mem_take hy) x (List.mem_of_mem_take hx)
  have htl := cutR_len 40 ts0 ts0.length
  have hvl := cutR_len 12 vs0 vs0.length
  have htm := Lib.hid (cutR_most 40 ts0 ts0.length)
  have hvm := Lib.hid (cutR_most 12 vs0 vs0.length)
  generalize xs0.take 5 = xs at *
  generalize cutR 40 ts0 ts0.length = ts at *
  generalize cutR 12 vs0 vs0.length = vs at *
  clear h1 h2 h3 hc1 hl1 hl2 hl3 h82 hi3 hx0
  go_wp2_with fail
  refine (HF.out).mono ?_
  rintro e w2 ⟨B1, e1, B2, e2, B3, e3, rfl, r2, t2, v2, hb2⟩
  have hb2' := hb1.trans (hb2.mono hb1.size)
  go_wp2_with fail
  obtain ⟨w3, hw3⟩ : ∃ x, x = ((w2.alloc (.cells #[.int .u8 0, .slice B1 xs.length e1, .slice B2 ts.length e2, .slice B3 vs.length e3, .int .i64 0] 32)).alloc (.cells #[.slice none 0 0] 27)).alloc (.cells #[.slice none 0 0] 27) := ⟨_, rfl⟩
  have hs3 : w3.heap.size = w2.heap.size + 3 := by rw [hw3]; simp
  have hX3 : w3.heap[w2.heap.size]? = some (.cells #[.int .u8 0, .slice B1 xs.length e1, .slice B2 ts.length e2, .slice B3 vs.length e3, .int .i64 0] 32 (0, 0)) := by
    rw [hw3, Below.heap_alloc _ _ _ (by simp; omega), Below.heap_alloc _ _ _ (by simp)]; exact heap_alloc_new _ _
  have hA3 : w3.heap[w2.heap.size + 1]? = some (.cells #[.slice none 0 0] 27 (0, 0)) := by
    rw [hw3, Below.heap_alloc _ _ _ (by simp)]; exact new_at (by simp)
  have hB3 : w3.heap[w2.heap.size + 1 + 1]? = some (.cells #[.slice none 0 0] 27 (0, 0)) := by
    rw [hw3]; exact new_at (by simp)
  have hb3 : Below w2.heap.size w2 w3 := by rw [hw3]; exact (((Below.refl _ _).alloc (Nat.le_refl _) _).alloc (by simp) _).alloc (by simp; omega) _
  rw [← hw3]
  clear hw3
  have r3 : Row (fun g => g < w2.heap.size) w3 B1 (u64s xs) := (r2.mono fun g hg _ => hg).below hb3
  have t3 : Texts (fun g => g < w2.heap.size) w3 B2 ts := texts_kept t2 hb3.size fun g hg s => ⟨hb3.block g hg, hg⟩
  have v3 : Rows (fun g => g < w2.heap.size) w3 B3 vs := rows_kept v2 hb3.size fun g hg s => ⟨hb3.block g hg, hg⟩
  have hwa : Wr w3 w3.heap.size (w2.heap.size + 1) (.slice none 0 0) [] := ⟨hA3, ⟨by simp, .inl ⟨rfl, rfl⟩⟩, Nat.le_refl _⟩
  have hwb : Wr w3 w3.heap.size (w2.heap.size + 1 + 1) (.slice none 0 0) [] := ⟨hB3, ⟨by simp, .inl ⟨rfl, rfl⟩⟩, Nat.le_refl _⟩
  obtain ⟨X, hX⟩ : ∃ x, x = w2.heap.size := ⟨_, rfl⟩
  rw [← hX] at hs3 hX3 hA3 hB3 hb3 r3 t3 v3 hwa hwb
  have hb13 : Below w1.heap.size w1 w3 := hb2.trans (by rw [hX] at hb3; exact hb3.mono hb2.size)
  have hX1 : w1.heap.size ≤ X := by rw [hX]; exact hb2.size
  rw [← hX]
  clear hX r2 t2 v2 hA3 hB3 hb3 hb2 hb2' HF
  have hbT := bulkT_le htm.out
  have hbV := bulkV_le hvm.out
  have htU : Hid (∀ t ∈ ts, t.length < U64) := fun t ht => by have := htm.out t ht; unfold U64; omega
  have hvU : Hid (∀ t ∈ vs, (∀ y ∈ t, I32 y) ∧ t.length < U64) := fun t ht => ⟨hvs.out t ht, by have := hvm.out t ht; unfold U64; omega⟩
  have hL1 : (xs.flatMap vi).length ≤ 50 := by have := flat_len xs hxs.out; omega
  have hL2 : (ts.flatMap textB).length ≤ 200 := by have := texts_len ts htU.out; omega
  have hL3 : (vs.flatMap vecB).length ≤ 520 := by have := vecs_len vs hvU.out; omega
  have hvn : ∀ g, (Value.slice none 0 0).ownBlock = some g → X ≤ g := fun g e => by simp [Value.ownBlock] at e
  have HN : Hid (Calls Try.prog 7 #[.pointer (some ⟨X + 1, 0, none⟩), .slice B1 xs.length e1] w3.drew fun e w' => e = .returned (.pointer (some ⟨X + 1, 0, none⟩)) ∧ Wrote w3.heap.size (X + 1) (.slice none 0 0) w3 ([] ++ xs.flatMap vi) w') :=
    nums_more (w := w3.drew) ((Wrote.start hwa).beside (Below.refl _ _).drew) (X := X) (by omega) (by omega) r3 hxs.out (by rw [List.length_nil]; omega)
  have HT : Hid (∀ w4, Wrote w3.heap.size (X + 1) (.slice none 0 0) w3 ([] ++ xs.flatMap vi) w4 → Calls Try.prog 9 #[.pointer (some ⟨X + 1, 0, none⟩), .slice B2 ts.length e2] w4 fun e w' => e = .returned (.pointer (some ⟨X + 1, 0, none⟩)) ∧ Wrote w3.heap.size (X + 1) (.slice none 0 0) w3 ([] ++ xs.flatMap vi ++ ts.flatMap textB) w') :=
    fun w4 h4 => text_more h4 (X := X) (by omega) (by omega) (texts_kept t3 h4.size fun g hg s => ⟨h4.block hvn (by omega) s hg, s⟩) htU.out (by rw [List.nil_append]; omega) (by omega)
  have HV : Hid (∀ w4, Wrote w3.heap.size (X + 1) (.slice none 0 0) w3 ([] ++ xs.flatMap vi ++ ts.flatMap textB) w4 → Calls Try.prog 11 #[.pointer (some ⟨X + 1, 0, none⟩), .slice B3 vs.length e3] w4 fun e w' => e = .returned (.pointer (some ⟨X + 1, 0, none⟩)) ∧ Wrote w3.heap.size (X + 1) (.slice none 0 0) w3 ([] ++ xs.flatMap vi ++ ts.flatMap textB ++ vs.flatMap vecB) w') :=
    fun w4 h4 => vecs_more h4 (X := X) (by omega) (by omega) (rows_kept v3 h4.size fun g hg s => ⟨h4.block hvn (by omega) s hg, s⟩) hvU.out (by rw [List.nil_append, List.length_append]; omega) (by omega)
  have HXK : Hid (∀ l w4, Wrote w3.heap.size (X + 1) (.slice none 0 0) w3 l w4 → w4.heap[X]? = some (.cells #[.int .u8 0, .slice B1 xs.length e1, .slice B2 ts.length e2, .slice B3 vs.length e3, .int .i64 0] 32 (0, 0))) := fun l w4 h4 => (h4.block (X := X + 1) (fun g e => by simp [Value.ownBlock] at e) (by omega) (by omega) (by omega)).trans hX3
  have k1 := five_cell1 hX3
  have k2 := five_cell2 hX3
  have k3 := five_cell3 hX3
  have H3 := Lib.hid hX3
  clear hX3
  go_region_held3 (fun w' => w'.cell? ⟨X, 1, none⟩ = some (.slice B1 xs.length e1) ∧ w'.cell? ⟨X, 2, none⟩ = some (.slice B2 ts.length e2) ∧ w'.cell? ⟨X, 3, none⟩ = some (.slice B3 vs.length e3)) (first | exact ⟨k1, k2, k3⟩ | exact ⟨k41, k42, k43⟩ | exact ⟨k51, k52, k53⟩ | exact ⟨k61, k62, k63⟩)
    (first
      | (go_at_call 7; refine (HN.out).mono ?_; rintro e w4 ⟨rfl, h4⟩; have k41 := five_cell1 (HXK.out _ _ h4); have k42 := five_cell2 (HXK.out _ _ h4); have k43 := five_cell3 (HXK.out _ _ h4))
      | (go_at_call 9; refine (HT.out _ h4).mono ?_; rintro e w5 ⟨rfl, h5⟩; have k51 := five_cell1 (HXK.out _ _ h5); have k52 := five_cell2 (HXK.out _ _ h5); have k53 := five_cell3 (HXK.out _ _ h5))
      | (go_at_call 11; refine (HV.out _ h5).mono ?_; rintro e w6 ⟨rfl, h6⟩; have k61 := five_cell1 (HXK.out _ _ h6); have k62 := five_cell2 (HXK.out _ _ h6); have k63 := five_cell3 (HXK.out _ _ h6)))
  clear k41 k42 k43 k51 k52 k53 k61 k62 k63 h4 h5 HN HT HV k1 k2 k3
  have hX6 := HXK.out _ _ h6
  have hs36 := h6.size
  have r6 : Row (fun g => g < X) w6 B1 (u64s xs) := r3.kept h6.size fun g hg s => h6.block hvn (by omega) s hg
  have t6 : Texts (fun g => g < X) w6 B2 ts := texts_kept t3 h6.size fun g hg s => ⟨h6.block hvn (by omega) s hg, s⟩
  have v6 : Rows (fun g => g < X) w6 B3 vs := rows_kept v3 h6.size fun g hg s => ⟨h6.block hvn (by omega) s hg, s⟩
  obtain ⟨va, hwa6, fra, laa⟩ := h6
  rw [List.nil_append] at hwa6
  have hwb6 : Wr w6 w3.heap.size (X + 1 + 1) (.slice none 0 0) [] := hwb.kept fra (by omega) (by simp [Value.ownBlock]) (.inl rfl)
  have hb16 : Below w1.heap.size w1 w6 := hb13.trans ((fra.below (B := X) (by omega) (by omega) (fun g e => by simp [Value.ownBlock] at e)).mono hX1)
  have k1 := five_cell1 hX6
  have HX6 := Lib.hid hX6
  have HWA := Lib.hid hwa6
  generalize hB : w3.heap.size = B at *
  have HBL : Hid (∀ l w4, Wrote B (X + 1 + 1) (.slice none 0 0) w6 l w4 → w4.heap[X]? = some (.cells #[.int .u8 0, .slice B1 xs.length e1, .slice B2 ts.length e2, .slice B3 vs.length e3, .int .i64 0] 32 (0, 0))) := fun l w4 h4 => (h4.block (X := X + 1) (fun g e => by simp [Value.ownBlock] at e) (by omega) (by omega) (by omega)).trans HX6.out
  clear r3 t3 v3 hwa hwb hb13 HXK H3 hwa6 laa fra hX6
  go_wp2_with fail
  go_loopw [11, 42] (fun _ i wr => ∃ k : Nat, k ≤ xs.length ∧ i = .int .i64 k ∧ Wrote B (X + 1 + 1) (.slice none 0 0) w6 ([] ++ (xs.take k).flatMap vi) wr) (fun _ i _ => xs.length - (intOf i).toNat)
  case atStart => exact ⟨0, Nat.zero_le _, rfl, by simpa using Wrote.start hwb6⟩
  case round =>
    obtain ⟨k, hk, rfl, hwr⟩ := hrel
    by_cases hlt : k < xs.length
    · have i1 : (k : Int) < (xs.length : Int) := by omega
      obtain ⟨ad, rfl, _, _, hcell⟩ := (r6.kept hwr.size fun g hg s => hwr.block hvn (by omega) s hg) k (by rw [u64s_len]; exact hlt)
      rw [u64s_at hlt] at hcell
      have hlen : ([] ++ (xs.take k).flatMap vi).length + 10 ≤ 70368744177664 := by
        have := flat_len (xs.take k) fun x h => hxs.out x (List.mem_of_mem_take h)
        rw [List.length_take] at this
        rw [List.nil_append]; omega
      have HS := Lib.hid (nums_step hwr (hxs.out _ (List.getElem_mem hlt)) hlen)
      have HQ := Lib.hid (flat_next (f := vi) hlt [])
      clear hwr r6 t6 v6 hlen
      generalize xs[k] = n at *
      go_wp2_with fail
      refine (HS.out).mono ?_
      rintro e w7 ⟨rfl, h7⟩
      have H7 := Lib.hid h7
      clear h7
      go_wp2_with fail
      go_roundw
      case rel => exact ⟨k + 1, by omega, by go_num, by rw [HQ.out]; simpa using H7.out⟩
      case measure => simp [intOf]; omega
    · have i1 : ¬ (k : Int) < (xs.length : Int) := by omega
      obtain rfl : k = xs.length := by omega
      rw [List.take_length] at hwr
      have k2 := five_cell2 (HBL.out _ _ hwr)
      have HW1 := Lib.hid hwr
      obtain ⟨wo, hwo⟩ : ∃ x, x = wr := ⟨_, rfl⟩
      subst hwo
      clear hwr k1 r6 hk
      go_wp2_with fail
      go_loopw [13, 54] (fun _ i wr => ∃ k : Nat, k ≤ ts.length ∧ i = .int .i64 k ∧ Wrote B (X + 1 + 1) (.slice none 0 0) w6 (([] ++ xs.flatMap vi) ++ (ts.take k).flatMap textB) wr) (fun _ i _ => ts.length - (intOf i).toNat)
      case atStart => exact ⟨0, Nat.zero_le _, rfl, by simpa using HW1.out⟩
      case round =>
        obtain ⟨k, hk, rfl, hwr⟩ := hrel
        by_cases hlt : k < ts.length
        · have i1 : (k : Int) < (ts.length : Int) := by omega
          obtain ⟨ad, At, ct, rfl, hcell, hrt⟩ := (texts_kept t6 hwr.size fun g hg s => ⟨hwr.block hvn (by omega) s hg, s⟩ : Texts (fun g => g < X) wr B2 ts).at_ hlt
          have hlen : (([] ++ xs.flatMap vi) ++ (ts.take k).flatMap textB).length + (ts[k].length + 10) ≤ 70368744177664 := by
            have h1 := texts_len (ts.take k) fun x h => htU.out x (List.mem_of_mem_take h)
            have h2 := bulkT_take hlt
            rw [List.nil_append, List.length_append]; omega
          have HS := Lib.hid (text_step (c := ct) hwr (X := X) (by omega) (by omega) hrt (htU.out _ (List.getElem_mem hlt)) hlen)
          have HQ := Lib.hid (flat_next (f := textB) hlt ([] ++ xs.flatMap vi))
          clear hwr t6 v6 hlen hrt
          generalize ts[k] = t at *
          go_wp2_with fail
          refine (HS.out).mono ?_
          rintro e w7 ⟨rfl, h7⟩
          have H7 := Lib.hid h7
          clear h7
          go_wp2_with fail
          go_roundw
          case rel => exact ⟨k + 1, by omega, by go_num, by rw [HQ.out]; simpa using H7.out⟩
          case measure => simp [intOf]; omega
        · have i1 : ¬ (k : Int) < (ts.length : Int) := by omega
          obtain rfl : k = ts.length := by omega
          rw [List.take_length] at hwr
          obtain ⟨wp, hwp⟩ : ∃ x, x = wr := ⟨_, rfl⟩
          subst hwp
          rw [List.nil_append] at hwr
          have hXp := HBL.out _ _ hwr
          have vp : Rows (fun g => g < X) wp B3 vs := rows_kept v6 hwr.size fun g hg s => ⟨hwr.block hvn (by omega) s hg, s⟩
          have hs6p := hwr.size
          obtain ⟨v7, hwb7, fr7, la7⟩ := hwr
          have hb1p : Below w1.heap.size w1 wp := hb16.trans ((fr7.below (B := X) (by omega) (by omega) (fun g e => by simp [Value.ownBlock] at e)).mono hX1)
          have hwap := HWA.out.kept fr7 (by omega) (by simp [Value.ownBlock]) (by
            cases h : va.ownBlock with
            | none => exact .inl rfl
            | some g => exact .inr ⟨by have := (own_lt HWA.out.own h).1; intro e; injection e with e; omega, by simp [Value.ownBlock]⟩)
          have hne : ∀ g, v7.ownBlock = some g → va.ownBlock ≠ some g := fun g e1 e2 => by
            have := (own_lt HWA.out.own e2).2
            rcases la7 with h | ⟨g', h, hg⟩
            · rw [h] at e1; simp [Value.ownBlock] at e1
            · rw [h] at e1; injection e1 with e1; omega
          have hv7 : ∀ g, v7.ownBlock = some g → B ≤ g ∧ g < wp.heap.size := fun g e => own_lt hwb7.own e
          have h8m := many_8 (xs := xs) (vs := vs) hts.out
          have h87 : Bytes8 (xs.flatMap vi ++ ts.flatMap textB) := fun x hx => by
            rcases List.mem_append.1 hx with h | h
            · exact h8m.1 x h
            · exact h8m.2.1 x h
          have h8L : Bytes8 (xs.flatMap vi ++ ts.flatMap textB ++ vs.flatMap vecB) := fun x hx => by
            rcases List.mem_append.1 hx with h | h
            · exact h87 x h
            · exact h8m.2.2 x h
          have hl7 : (xs.flatMap vi ++ ts.flatMap textB).length ≤ 250 := by rw [List.length_append]; omega
          clear h8m HWA HW1 t6 v6 HBL k2
          generalize xs.flatMap vi ++ ts.flatMap textB = l7 at *
          have HB := Lib.hid (bytes_any B (X + 1 + 1) v7 l7 wp hwb7 (by omega))
          go_wp2_with fail
          refine (HB.out).mono ?_
          rintro e w7 ⟨g7, rfl, hg7, hblk7, hb7⟩
          have hrow7 : Row (fun g => g = g7) w7 (some ⟨g7, 0, none⟩) (u8s l7) := Row.of_block hblk7 rfl
          have hgl7 : g7 < w7.heap.size := lt_of_block hblk7
          have HC := Lib.hid (copy_any _ (some ⟨g7, 0, none⟩) l7.length l7.length l7 w7 rfl hrow7 (by omega))
          go_wp2_with fail
          refine (HC.out).mono ?_
          rintro e w8 ⟨A8, c8, rfl, hc8, r8, hb8⟩
          have hbp8 : Below wp.heap.size wp w8 := hb7.trans (hb8.mono hb7.size)
          have hs7 : wp.heap.size ≤ w7.heap.size := hb7.size
          have hs8 : w7.heap.size ≤ w8.heap.size := hb8.size
          have k3 := five_cell3 ((hbp8.block X (by omega)).trans hXp)
          have vp8 : Rows (fun g => g < X) w8 B3 vs := rows_kept vp hbp8.size fun g hg s => ⟨hbp8.block g hg, s⟩
          have hwb8 := hwb7.below hbp8
          have hwa8 := hwap.below hbp8
          have hr7 := hrow7.below hb8
          have hb18 : Below w1.heap.size w1 w8 := hb1p.trans (hbp8.mono hb1p.size)
          have HV7 := Lib.hid hv7
          have HNE := Lib.hid hne
          have HSZ : X + 3 ≤ wp.heap.size := by omega
          clear hwb7 hwap hrow7 hb8 hb7 hblk7 vp hXp fr7 la7 hv7 hne
          go_wp2_with fail
          go_loopw [17, 70] (fun _ i wr => ∃ k : Nat, k ≤ vs.length ∧ i = .int .i64 k ∧ Wrote B (X + 1 + 1) v7 w8 (l7 ++ (vs.take k).flatMap vecB) wr) (fun _ i _ => vs.length - (intOf i).toNat)
          case atStart => exact ⟨0, Nat.zero_le _, rfl, by simpa using Wrote.start hwb8⟩
          case round =>
            obtain ⟨k, hk, rfl, hwr⟩ := hrel
            by_cases hlt : k < vs.length
            · have i1 : (k : Int) < (vs.length : Int) := by omega
              obtain ⟨ad, At, ct, rfl, hcell, hrt⟩ := (rows_kept vp8 hwr.size fun g hg s => ⟨hwr.block (X := X) (fun g e => by have := (HV7.out g e).1; omega) (by omega) s hg, s⟩ : Rows (fun g => g < X) wr B3 vs).at_ hlt
              have hlen : (l7 ++ (vs.take k).flatMap vecB).length + (10 * vs[k].length + 10) ≤ 70368744177664 := by
                have h1 := vecs_len (vs.take k) fun x h => hvU.out x (List.mem_of_mem_take h)
                have h2 := bulkV_take hlt
                rw [List.length_append]; omega
              have HS := Lib.hid (vecs_step (c := ct) hwr (X := X) (by omega) (by omega) hrt (hvU.out _ (List.getElem_mem hlt)) hlen)
              have HQ := Lib.hid (flat_next (f := vecB) hlt l7)
              clear hwr vp8 hlen hrt hwb8 hwa8 hr7 r8
              generalize vs[k] = t at *
              go_wp2_with fail
              refine (HS.out).mono ?_
              rintro e w9 ⟨rfl, h9⟩
              have H9 := Lib.hid h9
              clear h9
              go_wp2_with fail
              go_roundw
              case rel => exact ⟨k + 1, by omega, by go_num, by rw [HQ.out]; simpa using H9.out⟩
              case measure => simp [intOf]; omega
            · have i1 : ¬ (k : Int) < (vs.length : Int) := by omega
              obtain rfl : k = vs.length := by omega
              rw [List.take_length] at hwr
              obtain ⟨v9, hwb9, fr9, la9⟩ := hwr
              have hs9 : w8.heap.size ≤ wr.heap.size := fr9.size
              have hwa9 := hwa8.kept fr9 (by omega) (fun e => by have := (HV7.out _ e.symm).1; omega) (by
                cases h : va.ownBlock with
                | none => exact .inl rfl
                | some g => exact .inr ⟨by have := (own_lt hwa8.own h).1; intro e; injection e with e; omega, fun e => HNE.out g e.symm h⟩)
              have hr79 : Row (fun g => g = g7) wr (some ⟨g7, 0, none⟩) (u8s l7) := hr7.kept hs9 fun g hg s => fr9.block g hg (by omega) (fun e => by have := (HV7.out _ e.symm).2; omega)
              have hr89 : Row (fun g => w7.heap.size ≤ g) wr A8 (u8s l7) := r8.kept hs9 fun g hg s => fr9.block g hg (by omega) (fun e => by have := (HV7.out _ e.symm).2; omega)
              have hb19 : Below w1.heap.size w1 wr := hb18.trans ((fr9.below (B := X) (by omega) (by omega) (fun g e => by have := (HV7.out _ e).1; omega)).mono hX1)
              have hLt : (l7 ++ vs.flatMap vecB).take l7.length = l7 := by rw [List.take_left]
              have hLl : l7.length ≤ (l7 ++ vs.flatMap vecB).length := by rw [List.length_append]; omega
              have hLm : (l7 ++ vs.flatMap vecB).length ≤ 1000 := by rw [List.length_append]; omega
              generalize l7 ++ vs.flatMap vecB = L at *
              have HLT := Lib.hid hLt
              have j1 : (l7.length : Int) ≤ (L.length : Int) := by omega
              clear hLt vp8 hwb8 hwa8 hr7 r8 k3 fr9 la9 hk
              have HBA := Lib.hid (bytes_any B (X + 1) va L wr hwa9 (by omega))
              go_wp2_with fail
              refine (HBA.out).mono ?_
              rintro e wa ⟨ga, rfl, hga, hblka, hba⟩
              have HBB := Lib.hid (bytes_any B (X + 1 + 1) v9 L wa (hwb9.below hba) (by omega))
              go_wp2_with fail
              refine (HBB.out).mono ?_
              rintro e wb ⟨gb, rfl, hgb, hblkb, hbb⟩
              have hbab := hba.trans (hbb.mono hba.size)
              have HSM := Lib.hid (same_any (fun _ => True) (fun _ => True) (some ⟨ga, 0, none⟩) (some ⟨gb, 0, none⟩) L.length L.length L L wb (Row.of_block ((hbb.block ga (lt_of_block hblka)).trans hblka) trivial) (Row.of_block hblkb trivial) h8L h8L)
              rw [show (L == L) = true by simp] at HSM
              have HS2 := Lib.hid (same_any _ _ (some ⟨g7, 0, none⟩) A8 l7.length c8 l7 l7 wb (hr79.below hbab) (hr89.below hbab) h87 h87)
              rw [show (l7 == l7) = true by simp] at HS2
              have HB3 := Lib.hid (bytes_any B (X + 1 + 1) v9 L wb (hwb9.below hbab) (by omega))
              go_wp2_with fail
              refine (HSM.out).mono ?_
              rintro e wb' ⟨rfl, rfl⟩
              go_wp2_with fail
              refine (HS2.out).mono ?_
              rintro e wb' ⟨rfl, rfl⟩
              go_wp2_with fail
              refine (HB3.out).mono ?_
              rintro e wc ⟨gc, rfl, hgc, hblkc, hbc⟩
              have hbac := hbab.trans (hbc.mono hbab.size)
              have hrc : Row (fun _ => True) wc (some ⟨gc, 0, none⟩) (u8s l7) := by
                have := (Row.of_block (S := fun _ => True) hblkc trivial).take l7.length
                rw [show (u8s L).take l7.length = u8s l7 by rw [show (u8s L).take l7.length = u8s (L.take l7.length) by simp [u8s], HLT.out]] at this
                exact this
              have HS3 := Lib.hid (same_any _ _ (some ⟨gc, 0, none⟩) (some ⟨g7, 0, none⟩) L.length l7.length l7 l7 wc hrc (hr79.below hbac) h87 h87)
              rw [show (l7 == l7) = true by simp] at HS3
              go_wp2_with fail
              refine (HS3.out).mono ?_
              rintro e wc' ⟨rfl, rfl⟩
              go_wp2_with fail
              go_ret
              have hb1c : Below w1.heap.size w1 wc := hb19.trans (hbac.mono hb19.size)
              exact ⟨rfl, hb1.trans (hb1c.mono hb1.size)⟩

end Go.Proofs.Ytlambcmikfihgaa
