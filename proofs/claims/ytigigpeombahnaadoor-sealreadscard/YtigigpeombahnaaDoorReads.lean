/-
  SealReads: any bytes begin with a frame, or don't; are one, or aren't; they come back untouched.
-/
import Derived.Test.YtigigpeombahnaaDoorRNext
namespace Go.Proofs.YtigigpeombahnaaDoor
open Go.RowKit

theorem next_8 {l : List Int} (h8 : Bytes8 l) : Bytes8 (nextS l).1 ∧ Bytes8 (nextS l).2.1 := by
  unfold nextS
  split
  · exact ⟨fun x hx => by simp at hx, fun x hx => by simp at hx⟩
  · exact ⟨fun x hx => h8 x (List.mem_of_mem_drop (List.mem_of_mem_take hx)), fun x hx => h8 x (List.mem_of_mem_drop hx)⟩
theorem open_next (l : List Int) : openS l = if (nextS l).2.2 ≠ 0 then ([], (nextS l).2.2) else if 0 < (nextS l).2.1.length then ([], 4) else ((nextS l).1, 0) := by
  by_cases h : (endS l).2 = 0
  · obtain ⟨g1, g2⟩ := endS_ge h
    have hn : nextS l = ((l.drop 6).take ((endS l).1 - 6), l.drop (endS l).1, 0) := by unfold nextS; rw [if_neg (by simp [h])]
    have ho : openS l = if (endS l).1 < l.length then ([], 4) else (l.drop 6, 0) := by unfold openS; rw [if_neg (by simp [h])]
    rw [hn, ho]
    show _ = if (0 : Int) ≠ 0 then _ else if 0 < (l.drop (endS l).1).length then _ else ((l.drop 6).take ((endS l).1 - 6), (0 : Int))
    rw [if_neg (show ¬ (0 : Int) ≠ 0 by simp), List.length_drop]
    by_cases hlt : (endS l).1 < l.length
    · rw [if_pos hlt, if_pos (by omega)]
    · rw [if_neg hlt, if_neg (by omega), List.take_of_length_le (by rw [List.length_drop]; omega)]
  · have hn : nextS l = ([], [], (endS l).2) := by unfold nextS; rw [if_pos h]
    have ho : openS l = ([], (endS l).2) := by unfold openS; rw [if_pos h]
    rw [hn, ho, if_pos h]

set_option maxRecDepth 100000 in
set_option maxHeartbeats 1600000 in
theorem law_reads (S : Nat → Prop) (A : Option Addr) (c : Nat) (l0 : List Int) (w : World) (hT : Rests w) (h0 : 0 < w.heap.size) (hrow0 : Row S w A (u8s l0)) (hc0 : l0.length ≤ c) (hl0 : l0.length ≤ 9223372036854775807) (h80 : Bytes8 l0) :
    Calls Tryd.prog 4 #[.slice A l0.length c] w fun e w' => e = .returned (.bool true) ∧ Below w.heap.size w w' := by
  obtain ⟨i0, hi, hz0, hz1, hz2⟩ := info_parts Tryd.info5
  go_enter Tryd.func4, Tryd.ntmps4
  go_wp2_with fail
  refine (awake_any _ hT h0).mono ?_
  rintro e w1 ⟨rfl, hb1⟩
  have hrow1 := hrow0.below hb1
  go_wp2_with fail
  refine (cut_any S A c 5000 l0 _ hrow1 hc0 hl0 (by decide)).mono ?_
  rintro e w2 ⟨A2, c2, rfl, hc2, hrow2, hb2⟩
  have hl : (l0.take 5000).length ≤ 5000 := by rw [List.length_take]; omega
  have h8 : Bytes8 (l0.take 5000) := fun x hx => h80 x (List.mem_of_mem_take hx)
  rw [u8s_len] at hc2 ⊢
  generalize l0.take 5000 = l at *
  have hb2' := hb1.trans (hb2.mono hb1.size)
  clear hrow1 hrow0 hc0 hl0 h80 hb2 hb1
  go_wp2_with fail
  refine (copy_any _ A2 l.length c2 l _ rfl hrow2 (by omega)).mono ?_
  rintro e w3 ⟨A3, c3, rfl, hc3, hown3, hrow3, hb3⟩
  have hb3' := hb2'.trans (hb3.mono hb2'.size)
  have hrow2' := hrow2.below hb3
  obtain ⟨w4, hw4⟩ : ∃ x, x = w3.alloc (.cells #[.int .u8 165] 5) := ⟨_, rfl⟩
  have hal : Below w3.heap.size w3 w4 := by rw [hw4]; exact (Below.refl _ _).alloc (Nat.le_refl _) _
  have hown4 : w4.ownsRow w2.heap.size 5 1 (.slice A3 l.length c3) l.length (u8s l) := by rw [hw4]; exact hown3.alloc _
  have hlit : Row (fun _ => True) w4 (some ⟨w3.heap.size, 0, none⟩) (u8s [165]) := by rw [hw4]; exact Row.of_cells (new_at rfl) rfl trivial
  have hrow2'' := hrow2'.below hal
  have hsz4 : w2.heap.size ≤ w4.heap.size := Nat.le_trans hb3.size hal.size
  have hb4 : Below w.heap.size w w4 := hb3'.trans (hal.mono hb3'.size)
  have HW4 := Lib.hid hw4
  have HB24 := Lib.hid (hb3.trans (hal.mono hb3.size))
  have HR2 := Lib.hid hrow2
  clear hw4 hown3 hrow3 hrow2' hrow2 hal
  go_wp2_with (at_builtin; rw [← HW4.out]; refine wpList_append_row _ rfl (.tmp 17) (.tmp 18) 24 rfl w2.heap.size 5 i0 (.int .u8 0) 1 Tryd.underlying24 hi hz0 hz1 hz2 rfl _ _ _ rfl hown4 _ _ 1 1 (u8s [165]) rfl rfl hlit (u8s_one _) ?c3 ?c4 ?c5 ?_; rotate_right; intro A5 c5 w5 hown5 hgrow5 hat5; have hcc : (l.length : Int) ≤ (c5 : Int) := (by obtain ⟨_, _, hv, hcv, _⟩ := Row.of_own hown5; injection hv with _ _ hv3; omega))
  case c3 => unfold maxLen; omega
  case c4 => omega
  case c5 => exact hsz4
  have hb25 : Below w2.heap.size w2 w5 := HB24.out.grown hgrow5 hsz4 (fun g e => (hown4.lt g e).1)
  have hb5 := hb2'.trans (hb25.mono hb2'.size)
  have hrowp := HR2.out.below hb25
  obtain ⟨g, cap, hv, hg1, hg2⟩ := hown5.form (by omega)
  injection hv with hv1 _ hv3
  subst hv1 hv3
  have hcl := hown5.cellAt l.length (by omega)
  have hrq : Row (fun _ => True) w5 (some ⟨g, 0, none⟩) (u8s l) := by
    obtain ⟨A', c', hv, _, _, hr'⟩ := Row.of_own hown5
    injection hv with hv _ _
    subst hv
    have := hr'.any.take l.length
    rwa [List.take_left' (u8s_len l)] at this
  rw [show (u8s l ++ u8s [165])[l.length]? = some (.int .u8 165) by rw [List.getElem?_append_right (by rw [u8s_len]; exact Nat.le_refl _), u8s_len]; simp [u8s]] at hcl
  have hT5 := hT.below hb5 h0
  have h05 : 0 < w5.heap.size := Nat.lt_of_lt_of_le h0 hb5.size
  have hcc1 : (l.length : Int) + 1 ≤ (c5 : Int) := by
    obtain ⟨_, _, hv, hcv, _⟩ := Row.of_own hown5
    injection hv with _ _ hv3
    omega
  clear hown5 hgrow5 hat5 hown4 hlit hrow2'' hb4 HW4 HB24 HR2 hsz4
  have hop := open_next l
  have hN := next_any _ _ l.length c5 l w5 rfl hT5 h05 hrq (by omega) (by omega) h8
  obtain ⟨k81, k82⟩ := next_8 h8
  have hR := fun (u : World) (hu : Row (fun _ => True) u A2 (u8s l)) => rnext_any _ A2 l.length c2 l u rfl hu hc2 (by omega) h8
  obtain ⟨⟨x, y, f⟩, hE⟩ : ∃ r, nextS l = r := ⟨_, rfl⟩
  rw [hE] at hop hN hR k81 k82
  simp only at hop k81 k82
  have HOP := Lib.hid hop
  have HR := Lib.hid hR
  clear hop hR hE
  refine hN.mono ?_
  clear hN
  rintro e w6 ⟨A6, c6, B6, d6, rfl, hra, hrb, hb6⟩
  simp only at hra hrb ⊢
  have hb6' := hb5.trans (hb6.mono hb5.size)
  have hrq6 := hrq.below hb6
  have hrp6 := hrowp.any.below hb6
  have hcl6 := (hb6.cell (p := ⟨g, l.length, none⟩) hg2).trans hcl
  clear hrq hrowp hcl hb25
  go_wp2_with fail
  refine (HR.out _ hrp6).mono ?_
  rintro e w7 ⟨A7, c7, B7, d7, rfl, hrc, hrd, hb7⟩
  simp only at hrc hrd ⊢
  have hb7' := hb6'.trans (hb7.mono hb6'.size)
  have hra7 := hra.below hb7
  have hrb7 := hrb.below hb7
  have hrq7 := hrq6.below hb7
  have hrp7 := hrp6.below hb7
  have hcl7 := (hb7.cell (p := ⟨g, l.length, none⟩) (Nat.lt_of_lt_of_le hg2 hb6.size)).trans hcl6
  clear hra hrb hrq6 hrp6 hcl6 HR
  go_wp2_with fail
  have S1 := Lib.hid (same_any _ _ A6 A7 c6 c7 x x w7 hra7 hrc k81 k81)
  have S2 := Lib.hid (same_any _ _ B6 B7 d6 d7 y y w7 hrb7 hrd k82 k82)
  have S3 := Lib.hid (same_any _ _ (some ⟨g, 0, none⟩) A2 c5 c2 l l w7 hrq7 hrp7 h8 h8)
  refine S1.out.mono ?_
  rintro e w8 ⟨rfl, rfl⟩
  rw [beq_self_eq_true]
  go_wp2_with fail
  refine S2.out.mono ?_
  rintro e w8 ⟨rfl, rfl⟩
  rw [beq_self_eq_true]
  have hff : (f != f) = false := by simp
  go_wp2_with fail
  refine S3.out.mono ?_
  rintro e w8 ⟨rfl, rfl⟩
  rw [beq_self_eq_true]
  clear S1 S2 S3
  have hT7 := hT.below hb7' h0
  have h07 : 0 < w7.heap.size := Nat.lt_of_lt_of_le h0 hb7'.size
  have hO := open_any _ (some ⟨g, 0, none⟩) l.length c5 l w7 rfl hT7 h07 hrq7 (by omega) (by omega) h8
  rw [HOP.out] at hO
  have HO := Lib.hid hO
  clear hO HOP
  go_wp2_with fail
  by_cases hf : f = 0
  · subst hf
    by_cases hy : 0 < y.length
    · have hO := HO.out
      rw [if_neg (by simp), if_pos hy] at hO
      refine hO.mono ?_
      clear hO HO
      rintro e w9 ⟨A9, c9, rfl, _, hr9, hb9⟩
      have hy' : (0 : Int) < (y.length : Int) := by omega
      go_wp2_with fail
      go_ret
      exact ⟨rfl, hb7'.trans (hb9.mono hb7'.size)⟩
    · have hO := HO.out
      rw [if_neg (by simp), if_neg hy] at hO
      refine hO.mono ?_
      clear hO HO
      rintro e w9 ⟨A9, c9, rfl, _, hr9, hb9⟩
      have hy' : ¬ (0 : Int) < (y.length : Int) := by omega
      have S4 := Lib.hid (same_any _ _ A9 A7 c9 c7 x x w9 hr9 (hrc.below hb9) k81 k81)
      go_wp2_with fail
      refine S4.out.mono ?_
      rintro e w10 ⟨rfl, rfl⟩
      rw [beq_self_eq_true]
      go_wp2_with fail
      go_ret
      exact ⟨rfl, hb7'.trans (hb9.mono hb7'.size)⟩
  · have hO := HO.out
    rw [if_pos hf] at hO
    have hf' : (f != 0) = true := by simpa using hf
    have hf2 : (f == f) = true := by simp
    refine hO.mono ?_
    clear hO HO hf
    rintro e w9 ⟨A9, c9, rfl, _, hr9, hb9⟩
    go_wp2_with fail
    go_ret
    exact ⟨rfl, hb7'.trans (hb9.mono hb7'.size)⟩

end Go.Proofs.YtigigpeombahnaaDoor
