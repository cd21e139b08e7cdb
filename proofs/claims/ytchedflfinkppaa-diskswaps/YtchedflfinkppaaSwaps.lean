/-
  The walk of DiskSwaps.
-/
import Derived.Test.YtchedflfinkppaaAwake
namespace Go.Proofs.Ytchedflfinkppaa
open Go.RowKit Go.Maps Go.Sort Go.Shelf

/-- New bytes, that read as l. -/
def GivesL (w : World) (l : List Int) (e : Ending) (w' : World) : Prop :=
  ∃ A c, e = .returned (.slice A l.length c) ∧ l.length ≤ c ∧ Row (fun g => w.heap.size ≤ g) w' A (u8s l) ∧ Below w.heap.size w w'
theorem rcut_l (S : Nat → Prop) (A : Option Addr) (c n : Nat) (l m : List Int) (w : World) (hm : m = l.take n) (hrow : Row S w A (u8s l)) (hc : l.length ≤ c) (hl : l.length ≤ 9223372036854775807) (hn : n ≤ 70368744177664) :
    Calls Try.prog 30 #[.slice A l.length c, .int .i64 (n : Int)] w fun e w' => GivesL w m e w' := by
  subst hm
  refine (rcut_any S A c n l w hrow hc hl hn).mono ?_
  rintro e w' ⟨A', c', rfl, h1, h2, h3⟩
  rw [u8s_len] at h1 ⊢
  exact ⟨A', c', rfl, h1, h2, h3⟩
/-- New numbers, that read as l. -/
def GivesI (w : World) (l : List Int) (e : Ending) (w' : World) : Prop :=
  ∃ A c, e = .returned (.slice A l.length c) ∧ l.length ≤ c ∧ Row (fun g => w.heap.size ≤ g) w' A (i64s l) ∧ Below w.heap.size w w'
theorem ends_l (S : Nat → Prop) (A : Option Addr) (c : Nat) (l m : List Int) (w : World) (hm : m = l.take 20) (hrow : Row S w A (i64s l)) (hc : l.length ≤ c) (hl : l.length ≤ 9223372036854775807) :
    Calls Try.prog 21 #[.slice A l.length c] w fun e w' => GivesI w m e w' := by
  subst hm
  refine (ends_any S A c l w hrow hc hl).mono ?_
  rintro e w' ⟨A', c', rfl, h1, h2, h3⟩
  rw [i64s_len] at h1 ⊢
  exact ⟨A', c', rfl, h1, h2, h3⟩

theorem crash_firm (x : List UInt8) (bs : List Int) (keep : List Int) : crashA [(x, bs, bs.length)] keep = [(x, bs, bs.length)] := by
  rw [crash_one]
  have h : keepN 0 keep (x, bs, bs.length) = bs.length := by
    have := keptN_le 0 keep (bs.length - bs.length)
    simp only [keepN]
    omega
  simp [cr0, h]

set_option maxRecDepth 100000 in
set_option maxHeartbeats 2000000 in
theorem law_swaps (A0 A1 A2 A3 : Option Addr) (c0 c1 c2 c3 : Nat) (l0 l1 l2 l3 : List Int) (w : World) (r0 : Row (fun g => g < w.heap.size) w A0 (u8s l0)) (r1 : Row (fun g => g < w.heap.size) w A1 (u8s l1)) (r2 : Row (fun g => g < w.heap.size) w A2 (u8s l2)) (r3 : Row (fun g => g < w.heap.size) w A3 (i64s l3))
    (k0 : l0.length ≤ c0) (k1 : l1.length ≤ c1) (k2 : l2.length ≤ c2) (k3 : l3.length ≤ c3) (m0 : l0.length ≤ 9223372036854775807) (m1 : l1.length ≤ 9223372036854775807) (m2 : l2.length ≤ 9223372036854775807) (m3 : l3.length ≤ 9223372036854775807) (b0 : Bytes8 l0) :
    Calls Try.prog 6 #[.slice A0 l0.length c0, .slice A1 l1.length c1, .slice A2 l2.length c2, .slice A3 l3.length c3] w fun e w' => e = .returned (.bool true) ∧ Below w.heap.size w w' := by
  have R0 := Lib.hid r0
  have R1 := Lib.hid r1
  have R2 := Lib.hid r2
  have R3 := Lib.hid r3
  obtain ⟨la, hla⟩ : ∃ la, la = l0.take 100 := ⟨_, rfl⟩
  obtain ⟨lb, hlb⟩ : ∃ la, la = l1.take 100 := ⟨_, rfl⟩
  obtain ⟨ll, hll⟩ : ∃ la, la = l2.take 100 := ⟨_, rfl⟩
  obtain ⟨lk, hlk⟩ : ∃ la, la = l3.take 20 := ⟨_, rfl⟩
  have na : la.length ≤ 100 := by rw [hla, List.length_take]; omega
  have nb : lb.length ≤ 100 := by rw [hlb, List.length_take]; omega
  have nl : ll.length ≤ 100 := by rw [hll, List.length_take]; omega
  have nk : lk.length ≤ 20 := by rw [hlk, List.length_take]; omega
  have B8 : Hid (Bytes8 la) := fun x hx => b0 x (List.mem_of_mem_take (hla ▸ hx))
  have HLA := Lib.hid hla
  have HLB := Lib.hid hlb
  have HLL := Lib.hid hll
  have HLK := Lib.hid hlk
  have K := Lib.hid (show (l0.length ≤ c0 ∧ l1.length ≤ c1 ∧ l2.length ≤ c2 ∧ l3.length ≤ c3) ∧ (l0.length ≤ 9223372036854775807 ∧ l1.length ≤ 9223372036854775807 ∧ l2.length ≤ 9223372036854775807 ∧ l3.length ≤ 9223372036854775807) from ⟨⟨k0, k1, k2, k3⟩, m0, m1, m2, m3⟩)
  clear hla hlb hll hlk r0 r1 r2 r3 k0 k1 k2 k3 m0 m1 m2 m3 b0
  go_enter Try.func6, Try.ntmps6
  go_wp2_with fail
  refine (awake_any w).mono ?_
  rintro e w1 ⟨rfl, hb1⟩
  have HB1 := Lib.hid hb1
  clear hb1
  go_wp2_with fail
  refine (new_lv w w1 5000 HB1.out (by decide)).mono ?_
  rintro e w2 ⟨rfl, h2, _⟩
  obtain ⟨b, hb⟩ : ∃ b, b = w1.heap.size + 1 := ⟨_, rfl⟩
  obtain ⟨mb, hmb⟩ : ∃ mb, mb = w1.heap.size := ⟨_, rfl⟩
  have H2 : Hid (Lv w w2 b mb Pw.fresh 5000 []) := by rw [hb, hmb]; exact h2
  rw [← hb]
  clear h2 hb hmb
  go_wp2_with fail
  refine (rcut_l _ A0 c0 100 l0 la w2 HLA.out (R0.out.below H2.out.bel) K.out.1.1 K.out.2.1 (by decide)).mono ?_
  rintro e w3 ⟨Aa, ca, rfl, hca, hra, hb3⟩
  have H3 := Lib.hid (H2.out.below hb3)
  have RA3 := Lib.hid (H2.out.new hra)
  clear hra hb3
  go_wp2_with fail
  refine (rcut_l _ A1 c1 100 l1 lb w3 HLB.out (R1.out.below H3.out.bel) K.out.1.2.1 K.out.2.2.1 (by decide)).mono ?_
  rintro e w4 ⟨Ab, cb, rfl, hcb, hrb, hb4⟩
  have H4 := Lib.hid (H3.out.below hb4)
  have RA4 := Lib.hid (RA3.out.below hb4)
  have RB4 := Lib.hid (H3.out.new hrb)
  clear hrb hb4 RA3
  go_wp2_with fail
  refine (rcut_l _ A2 c2 100 l2 ll w4 HLL.out (R2.out.below H4.out.bel) K.out.1.2.2.1 K.out.2.2.2.1 (by decide)).mono ?_
  rintro e w5 ⟨Al, cl, rfl, hcl, hrl, hb5⟩
  have H5 := Lib.hid (H4.out.below hb5)
  have RA5 := Lib.hid (RA4.out.below hb5)
  have RB5 := Lib.hid (RB4.out.below hb5)
  have RL5 := Lib.hid (H4.out.new hrl)
  clear hrl hb5 RA4 RB4
  go_wp2_with fail
  obtain ⟨w6, hw6⟩ : ∃ x, x = w5.alloc (.cells #[.slice Aa la.length ca] 41) := ⟨_, rfl⟩
  have HW6 := Lib.hid hw6
  have hL6 : Lv w w6 b mb Pw.fresh 5000 [] := by rw [hw6]; exact H5.out.alloc _
  have RA6 : Row (fun g => ¬ Of b mb [] g) w6 Aa (u8s la) := by rw [hw6]; exact RA5.out.alloc _
  have RB6 : Row (fun g => ¬ Of b mb [] g) w6 Ab (u8s lb) := by rw [hw6]; exact RB5.out.alloc _
  have RL6 : Row (fun g => ¬ Of b mb [] g) w6 Al (u8s ll) := by rw [hw6]; exact RL5.out.alloc _
  have hT6 : TxtAt (fun g => ¬ Of b mb [] g) w6 (some ⟨w5.heap.size, 0, none⟩) [la] := .one (by rw [hw6]; exact new_at rfl) hca (H5.out.notOf (Nat.le_refl _)) RA6
  rw [← hw6]
  clear hw6
  refine (wnew_lv w w6 b mb Pw.fresh 5000 [] sA (some ⟨w5.heap.size, 0, none⟩) 1 [la] hL6 rfl sA_name hT6 (by simp) (by simp; omega) (by simp [abs]) (by decide) (by simp [abs, sumA]; omega)).mono ?_
  rintro e w7 ⟨rfl, E7, hL7, hC7, hA7⟩
  have H7 : Hid (Lv w w7 b mb Pw.fresh 5000 E7) := hL7
  have HA7 : Hid (abs E7 = [([97], la, 0)]) := by show _ = _; rw [hA7]; simp [abs]
  have RA7 := Lib.hid (RA6.off hC7)
  have RB7 := Lib.hid (RB6.off hC7)
  have RL7 := Lib.hid (RL6.off hC7)
  clear hL6 hT6 hL7 hA7 hC7 RA6 RB6 RL6 RA5 RB5 RL5 HW6
  go_wp2_with fail
  obtain ⟨w8, hw8⟩ : ∃ x, x = w7.alloc (.cells #[.slice Ab lb.length cb] 41) := ⟨_, rfl⟩
  have hL8 : Lv w w8 b mb Pw.fresh 5000 E7 := by rw [hw8]; exact H7.out.alloc _
  have RA8 : Row (fun g => ¬ Of b mb E7 g) w8 Aa (u8s la) := by rw [hw8]; exact RA7.out.alloc _
  have RB8 : Row (fun g => ¬ Of b mb E7 g) w8 Ab (u8s lb) := by rw [hw8]; exact RB7.out.alloc _
  have RL8 : Row (fun g => ¬ Of b mb E7 g) w8 Al (u8s ll) := by rw [hw8]; exact RL7.out.alloc _
  have hT8 : TxtAt (fun g => ¬ Of b mb E7 g) w8 (some ⟨w7.heap.size, 0, none⟩) [lb] := .one (by rw [hw8]; exact new_at rfl) hcb (H7.out.notOf (Nat.le_refl _)) RB8
  rw [← hw8]
  clear hw8
  refine (wnew_lv w w8 b mb Pw.fresh 5000 E7 sB (some ⟨w7.heap.size, 0, none⟩) 1 [lb] hL8 rfl sB_name hT8 (by simp) (by simp; omega) (by rw [HA7.out]; simp) (by rw [HA7.out]; simp) (by rw [HA7.out]; simp [sumA]; omega)).mono ?_
  rintro e w9 ⟨rfl, E9, hL9, hC9, hA9⟩
  have H9 : Hid (Lv w w9 b mb Pw.fresh 5000 E9) := hL9
  have HA9 : Hid (abs E9 = [([98], lb, 0), ([97], la, 0)]) := by show _ = _; rw [hA9, HA7.out]; simp
  have RA9 := Lib.hid (RA8.off hC9)
  have RL9 := Lib.hid (RL8.off hC9)
  clear hL8 hT8 hL9 hA9 hC9 RA8 RB8 RL8 RA7 RB7 RL7
  go_wp2_with fail
  obtain ⟨w10, hw10⟩ : ∃ x, x = w9.alloc (.cells #[.string sA, .string sB] 9) := ⟨_, rfl⟩
  have hL10 : Lv w w10 b mb Pw.fresh 5000 E9 := by rw [hw10]; exact H9.out.alloc _
  have RA10 : Row (fun g => ¬ Of b mb E9 g) w10 Aa (u8s la) := by rw [hw10]; exact RA9.out.alloc _
  have RL10 : Row (fun g => ¬ Of b mb E9 g) w10 Al (u8s ll) := by rw [hw10]; exact RL9.out.alloc _
  have hT10 : Row (fun g => ¬ Of b mb E9 g) w10 (some ⟨w9.heap.size, 0, none⟩) (strs [sA, sB]) := by
    rw [hw10]
    exact Row.of_cells (new_at rfl) rfl (H9.out.notOf (Nat.le_refl _))
  rw [← hw10]
  clear hw10
  refine (firm_lv w w10 b mb Pw.fresh 5000 E9 (some ⟨w9.heap.size, 0, none⟩) 2 [sA, sB] hL10 rfl hT10 (by simp) (fun s hs => ?_) (fun s hs => ?_)).mono ?_
  · rcases List.mem_cons.1 hs with rfl | hs
    · exact name_max sA_name
    · rw [List.mem_singleton.1 hs]
      exact name_max sB_name
  · rw [HA9.out]
    rcases List.mem_cons.1 hs with rfl | hs
    · exact ⟨([97], la, 0), by simp, rfl⟩
    · rw [List.mem_singleton.1 hs]
      exact ⟨([98], lb, 0), by simp, rfl⟩
  rintro e w11 ⟨rfl, E11, hL11, hC11, hA11⟩
  have H11 : Hid (Lv w w11 b mb Pw.fresh 5000 E11) := hL11
  have HA11 : Hid (abs E11 = [([98], lb, lb.length), ([97], la, la.length)]) := by show _ = _; rw [hA11, HA9.out]; simp [firmA, firm1A]
  have RA11 := Lib.hid (RA10.off hC11)
  have RL11 := Lib.hid (RL10.off hC11)
  clear hL10 hT10 hL11 hA11 hC11 RA10 RL10 RA9 RL9
  go_wp2_with fail
  obtain ⟨w12, hw12⟩ : ∃ x, x = w11.alloc (.cells #[.slice Al ll.length cl] 41) := ⟨_, rfl⟩
  have hL12 : Lv w w12 b mb Pw.fresh 5000 E11 := by rw [hw12]; exact H11.out.alloc _
  have RA12 : Row (fun g => ¬ Of b mb E11 g) w12 Aa (u8s la) := by rw [hw12]; exact RA11.out.alloc _
  have RL12 : Row (fun g => ¬ Of b mb E11 g) w12 Al (u8s ll) := by rw [hw12]; exact RL11.out.alloc _
  have hT12 : TxtAt (fun g => ¬ Of b mb E11 g) w12 (some ⟨w11.heap.size, 0, none⟩) [ll] := .one (by rw [hw12]; exact new_at rfl) hcl (H11.out.notOf (Nat.le_refl _)) RL12
  rw [← hw12]
  clear hw12
  refine (wadd_lv w w12 b mb Pw.fresh 5000 E11 sA (some ⟨w11.heap.size, 0, none⟩) 1 [ll] ([97], la, la.length) hL12 rfl sA_name hT12 (by simp) (by simp; omega) (by rw [HA11.out]; simp) rfl (by rw [HA11.out]; simp [sumA]; omega)).mono ?_
  rintro e w13 ⟨rfl, E13, hL13, hC13, hA13⟩
  have H13 : Hid (Lv w w13 b mb Pw.fresh 5000 E13) := hL13
  have HA13 : Hid (abs E13 = [([98], lb, lb.length), ([97], la ++ ll, la.length)]) := by show _ = _; rw [hA13, HA11.out]; simp [setA]
  have RA13 := Lib.hid (RA12.off hC13)
  clear hL12 hT12 hL13 hA13 hC13 RA12 RL12 RA11 RL11
  go_wp2_with fail
  refine (swap_lv w w13 b mb Pw.fresh 5000 E13 sA sB ([97], la ++ ll, la.length) H13.out rfl sB_name (name_max sA_name) (by rw [HA13.out]; simp) rfl).mono ?_
  rintro e w14 ⟨rfl, E14, hL14, hC14, hA14⟩
  have H14 : Hid (Lv w w14 b mb Pw.fresh 5000 E14) := hL14
  have HA14 : Hid (abs E14 = [([98], la, la.length)]) := by show _ = _; rw [hA14, HA13.out]; simp [dropA]
  have RA14 := Lib.hid (RA13.out.off hC14)
  clear hL14 hA14 hC14 RA13
  go_wp2_with fail
  refine (ends_l _ A3 c3 l3 lk w14 HLK.out (R3.out.below H14.out.bel) K.out.1.2.2.2 K.out.2.2.2.2).mono ?_
  rintro e w15 ⟨Ak, ck, rfl, hck, hrk, hb15⟩
  have H15 := Lib.hid (H14.out.below hb15)
  have RA15 := Lib.hid (RA14.out.below hb15)
  have RK15 := Lib.hid (H14.out.new hrk)
  clear hrk hb15 RA14
  go_wp2_with fail
  refine (crash_lv w w15 b mb Pw.fresh 5000 E14 Ak ck lk H15.out RK15.out (by omega)).mono ?_
  rintro e w16 ⟨rfl, E16, hL16, hC16, hA16⟩
  have H16 := Lib.hid hL16
  have HA16 : Hid (abs E16 = [([98], la, la.length)]) := by show _ = _; rw [hA16, HA14.out, crash_firm]
  have RA16 := Lib.hid (RA15.out.off hC16)
  clear hL16 hA16 hC16 RA15 RK15
  go_wp2_with fail
  refine (read_lv w w16 b mb Pw.fresh 5000 E16 sB ([98], la, la.length) H16.out rfl (name_max sB_name) (by rw [HA16.out]; simp) rfl).mono ?_
  rintro e w17 ⟨Ap, cp, rfl, hcp, hrp, hb17⟩
  have H17 := Lib.hid (H16.out.below hb17)
  have RA17 := Lib.hid (RA16.out.below hb17)
  have RP17 := Lib.hid hrp
  clear hrp hb17 RA16
  go_wp2_with fail
  refine (read_lv_none w w17 b mb Pw.fresh 5000 E16 sA H17.out rfl (name_max sA_name) (by rw [HA16.out]; simp)).mono ?_
  rintro e w18 ⟨Aq, cq, rfl, hcq, hrq, hb18⟩
  have H18 := Lib.hid (H17.out.below hb18)
  have RA18 := Lib.hid (RA17.out.below hb18)
  have RP18 := Lib.hid (RP17.out.below hb18)
  clear hrq hb18 RA17 RP17
  go_wp2_with fail
  refine (same_any _ _ Ap Aa cp ca la la w18 RP18.out RA18.out B8.out B8.out).mono ?_
  rintro e w19 ⟨rfl, rfl⟩
  rw [beq_self_eq_true]
  go_wp2_with fail
  refine (used_lv w w18 b mb Pw.fresh 5000 E16 H18.out).mono ?_
  rintro e w20 ⟨rfl, hb20⟩
  have HB20 : Hid (Below w.heap.size w w20) := H18.out.bel.trans (hb20.mono H18.out.bel.size)
  have hsum : sumA (abs E16) = la.length := by rw [HA16.out]; simp [sumA]
  rw [hsum]
  clear hb20 hsum
  go_wp2_with fail
  go_ret
  exact ⟨rfl, HB20.out⟩

end Go.Proofs.Ytchedflfinkppaa
