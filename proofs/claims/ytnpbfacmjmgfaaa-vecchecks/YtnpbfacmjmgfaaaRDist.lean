/-
  The contract of ref03's Dist; those of ref02's CutVec and SameVec; the document's examples (awake).
-/
import Derived.Test.YtnpbfacmjmgfaaaDist
namespace Go.Proofs.Ytnpbfacmjmgfaaa
open Go.RowKit

theorem quietL {P : Program} {f : FuncId} {args : Array Value} {w : World} {n : Nat} {v : Value}
    (h : Calls P f args (w.drewN n) fun e w' => e = .returned v ∧ w.drewN n = w') : Calls P f args (w.drewN n) fun e w2 => e = .returned v ∧ ∃ m, w2 = w.drewN m :=
  h.mono fun _ _ ⟨he, hm⟩ => ⟨he, n, hm.symm⟩
theorem below_drewN {B : Nat} {a w : World} (h : Below B a w) (n : Nat) : Below B a (w.drewN n) := ⟨h.os, h.tape, h.output, h.size, h.block⟩
theorem Row.drewN {S : Nat → Prop} {w : World} {A : Option Addr} {xs : List Value} (h : Row S w A xs) (n : Nat) : Row S (w.drewN n) A xs := h

theorem gap_sq (x y : Int) (h1 : -268435456 ≤ x ∧ x ≤ 268435456) (h2 : -268435456 ≤ y ∧ y ≤ 268435456) :
    ((gapN x y * gapN x y % 18446744073709551616 : Nat) : Int) = (x - y) * (x - y) ∧ gapN x y ≤ 536870912 := by
  unfold gapN
  have h3 : (x - y) * (x - y) = ((x - y).natAbs * (x - y).natAbs : Nat) := by rw [Int.natCast_mul, Int.natAbs_mul_self']
  have h4 : (x - y).natAbs ≤ 536870912 := by omega
  have h5 : (x - y).natAbs * (x - y).natAbs ≤ 536870912 * 536870912 := Nat.mul_le_mul h4 h4
  refine ⟨?_, h4⟩
  rw [h3, Nat.mod_eq_of_lt (by omega)]

set_option maxRecDepth 100000 in
set_option maxHeartbeats 1000000 in
theorem refDist_any (S T : Nat → Prop) (A B : Option Addr) (c d : Nat) (l m : List Int) (w : World) (h1 : Row S w A (i32s l)) (h2 : Row T w B (i32s m)) (hl : l.length ≤ 70368744177664) (hm : m.length ≤ 70368744177664) :
    Calls Try.prog 14 #[.slice A l.length c, .slice B m.length d] w fun e w' => e = .returned (distR l m) ∧ Below w.heap.size w w' := by
  have HA := Lib.hid (refRight_any S A c l w h1 hl)
  have HB := Lib.hid (refRight_any T B d m w h2 hm)
  cases ra : rightB l with
  | false =>
    have HV := Lib.hid (show distR l m = .tuple #[.int .u64 0, .int .i64 4] by unfold distR goodB; simp [ra])
    rw [ra] at HA
    clear ra
    go_enter Try.func14, Try.ntmps14
    go_wp2_with (go_at_call 16; refine (HA.out).mono ?_; rintro e w' ⟨rfl, rfl⟩)
    go_ret2
    exact ⟨by rw [HV.out]; rfl, Below.refl _ _⟩
  | true =>
    cases rb : rightB m with
    | false =>
      have HV := Lib.hid (show distR l m = .tuple #[.int .u64 0, .int .i64 4] by unfold distR goodB; simp [rb])
      rw [ra] at HA
      rw [rb] at HB
      clear ra rb
      go_enter Try.func14, Try.ntmps14
      go_wp2_with (go_at_call 16; first | (with_reducible refine (HA.out).mono ?_; rintro e w' ⟨rfl, rfl⟩) | (with_reducible refine (HB.out).mono ?_; rintro e w' ⟨rfl, rfl⟩))
      go_ret2
      exact ⟨by rw [HV.out]; rfl, Below.refl _ _⟩
    | true =>
      by_cases hne : l.length = m.length
      · have hne' : ((l.length : Int) != (m.length : Int)) = false := by simp [hne]
        have HN := Lib.hid hne
        clear hne
        have HV := Lib.hid (show distR l m = .tuple #[.int .u64 (sqI l m), .int .i64 0] by unfold distR goodB; simp [ra, rb, HN.out])
        obtain ⟨_, l8, la⟩ := rightB_parts ra
        obtain ⟨_, m8, ma⟩ := rightB_parts rb
        have HLA := Lib.hid la
        have HMA := Lib.hid ma
        rw [ra] at HA
        rw [rb] at HB
        clear ra rb la ma
        go_enter Try.func14, Try.ntmps14
        go_wp2_with (go_at_call 16; first | (with_reducible refine (HA.out).mono ?_; rintro e w' ⟨rfl, rfl⟩) | (with_reducible refine (HB.out).mono ?_; rintro e w' ⟨rfl, rfl⟩))
        go_loopw [6, 7, 8, 9, 27] (fun s _ _ _ i wr => ∃ k : Nat, k ≤ l.length ∧ i = .int .i64 k ∧ s = .int .u64 (sqI (l.take k) (m.take k)) ∧ Below w.heap.size w wr) (fun _ _ _ _ i _ => l.length - (intOf i).toNat)
        case atStart => exact ⟨0, Nat.zero_le _, rfl, rfl, Below.refl _ _⟩
        case round =>
          obtain ⟨k, hk, rfl, rfl, hbl⟩ := hrel
          by_cases hlt : k < l.length
          · have hlm : k < m.length := by rw [← HN.out]; exact hlt
            obtain ⟨ad, rfl, _, _, hcA⟩ := (h1.below hbl) k (by rw [i32s_len]; exact hlt)
            obtain ⟨bd, rfl, _, _, hcB⟩ := (h2.below hbl) k (by rw [i32s_len]; exact hlm)
            rw [i32s_at hlt] at hcA
            rw [i32s_at hlm] at hcB
            have i1 : (k : Int) < (l.length : Int) := by omega
            have i2 : (k : Int) < (m.length : Int) := by omega
            have HS := Lib.hid (sqI_step l m k hlt hlm)
            have hx := all_at HLA.out k hlt
            have hy := all_at HMA.out k hlm
            obtain ⟨s1, s2⟩ := sqI_bd _ _ (all_take HLA.out k) (all_take HMA.out k)
            have s3 : sqI (l.take k) (m.take k) ≤ 2305843009213693952 := by
              have : (l.take k).length ≤ 8 := by rw [List.length_take]; omega
              omega
            clear s2
            generalize sqI (l.take k) (m.take k) = s at *
            generalize l[k] = x at *
            generalize m[k] = y at *
            obtain ⟨q1, q2⟩ := sq_bd (x - y) (by omega) (by omega)
            obtain ⟨g1, g2⟩ := gap_sq x y hx hy
            have HG : Hid (∀ W, Calls Try.prog 27 #[.int .i32 x, .int .i32 y] W fun e w' => e = .returned (.int .u64 ((gapN x y : Nat) : Int)) ∧ W = w') := fun W => gap_any x y W hx hy
            have HM : Hid (∀ W, Calls Try.prog 26 #[.int .u64 ((gapN x y : Nat) : Int), .int .u64 ((gapN x y : Nat) : Int)] W fun e w' => e = .returned (.tuple #[.int .u64 (hi64 (gapN x y) (gapN x y)), .int .u64 ((x - y) * (x - y))]) ∧ W = w') := fun W => by
              have := mul64_any (gapN x y) (gapN x y) W (by omega) (by omega)
              rw [g1] at this
              exact this
            clear g1 g2 hx hy
            generalize hi64 (gapN x y) (gapN x y) = hh at HM
            generalize gapN x y = g at HG HM
            go_wp2_with fail
            go_quiet (first | (go_at_call 27; exact quietL (HG.out _)) | (go_at_call 26; exact quietL (HM.out _)))
            go_wp2_with fail
            go_roundw
            case rel => exact ⟨k + 1, by omega, by go_num, by rw [HS.out], below_drewN hbl _⟩
            case measure => simp [intOf]; omega
          · have HT := Lib.hid (show sqI (l.take k) (m.take k) = sqI l m by rw [List.take_of_length_le (by omega), List.take_of_length_le (by have := HN.out; omega)])
            have i1 : ¬ (k : Int) < (l.length : Int) := by omega
            go_wp2_with fail
            go_ret2
            exact ⟨by rw [HV.out, ← HT.out]; rfl, hbl⟩
      · have hne' : ((l.length : Int) != (m.length : Int)) = true := by simp; omega
        have HV := Lib.hid (show distR l m = .tuple #[.int .u64 0, .int .i64 4] by unfold distR goodB; simp [hne])
        clear hne
        rw [ra] at HA
        rw [rb] at HB
        clear ra rb
        go_enter Try.func14, Try.ntmps14
        go_wp2_with (go_at_call 16; first | (with_reducible refine (HA.out).mono ?_; rintro e w' ⟨rfl, rfl⟩) | (with_reducible refine (HB.out).mono ?_; rintro e w' ⟨rfl, rfl⟩))
        go_ret2
        exact ⟨by rw [HV.out]; rfl, Below.refl _ _⟩

set_option maxRecDepth 100000 in
set_option maxHeartbeats 400000 in
theorem awake_any (w : World) : Calls Try.prog 11 #[] w fun e w' => e = .returned (.bool true) ∧ Below w.heap.size w w' := by
  obtain ⟨w1, hw1⟩ : ∃ x, x = (w.alloc (.cells #[.int .i32 1, .int .i32 2] 21)).alloc (.cells #[.int .i32 4, .int .i32 6] 21) := ⟨_, rfl⟩
  have r1 : Row (fun _ => True) w1 (some ⟨w.heap.size, 0, none⟩) (i32s [1, 2]) := by
    rw [hw1]
    exact (Row.of_block (S := fun _ => True) (heap_alloc_new w _) trivial).alloc _
  have r2 : Row (fun _ => True) w1 (some ⟨w.heap.size + 1, 0, none⟩) (i32s [4, 6]) := by
    rw [hw1]
    have := Row.of_block (S := fun _ => True) (heap_alloc_new (w.alloc (.cells #[.int .i32 1, .int .i32 2] 21)) (.cells #[.int .i32 4, .int .i32 6] 21)) trivial
    simpa [i32s] using this
  have hd : distR [1, 2] [4, 6] = .tuple #[.int .u64 25, .int .i64 0] := by unfold distR; rw [if_pos (by decide)]; rfl
  have hh : homeI 1 4 = 1 := by decide
  have HD : Hid (Calls Try.prog 13 #[.slice (some ⟨w.heap.size, 0, none⟩) 2 2, .slice (some ⟨w.heap.size + 1, 0, none⟩) 2 2] w1 fun e w' => e = .returned (.tuple #[.int .u64 25, .int .i64 0]) ∧ w1 = w') := by
    rw [← hd]
    exact dist_any _ _ _ _ 2 2 [1, 2] [4, 6] w1 r1 r2 (by decide) (by decide)
  have HH : Hid (∀ W, Calls Try.prog 20 #[.int .u64 1, .int .i64 4] W fun e w' => e = .returned (.int .i64 1) ∧ W = w') := fun W => by
    rw [← hh]
    exact home_any 1 4 W (by decide) (by decide)
  have HB := Lib.hid (show Below w.heap.size w w1 by rw [hw1]; exact ((Below.refl _ _).alloc (Nat.le_refl _) _).alloc (by simp) _)
  clear hd hh r1 r2
  subst hw1
  go_enter Try.func11, Try.ntmps11
  go_wp2_with (first | (go_at_call 13; refine (HD.out).mono ?_; rintro e w' ⟨rfl, rfl⟩) | (go_at_call 20; refine (HH.out _).mono ?_; rintro e w' ⟨rfl, rfl⟩))
  go_ret
  exact ⟨rfl, HB.out⟩

end Go.Proofs.Ytnpbfacmjmgfaaa
