/-
  The document's graph: Reach; and the calls on none.
-/
import Derived.Test.YtdfmgfclcbeeiaaGRef4
namespace Go.Proofs.Ytdfmgfclcbeeiaa
open Go.RowKit Go.Maps Go.Sort
set_option linter.unusedSimpArgs false
set_option linter.unusedVariables false

theorem reachS_le (nd : Bool) (l : List Int) (e : Edg) : (reachS nd l e).length ≤ l.length + 1 := by
  rcases reachS_len nd l e with h | h <;> rw [h] <;> omega
theorem reachS_eq (nd : Bool) (l : List Int) (z0 z1 : Int) (z2 : Bool) : reachS nd l (z0, z1, z2) = if nd && !z2 then l else if hasN l z0 && !hasN l z1 then putL l z1 else if hasN l z1 && !hasN l z0 then putL l z0 else l := rfl

section
variable {w w' : World} {B x : Nat} {vN vE : Value} {N : List Int} {E : List Edg} {y a b : Int}

set_option maxRecDepth 100000 in
set_option maxHeartbeats 8000000 in
theorem rreach_any (h : RG w B x vN vE N E) (hB : B ≤ w.heap.size) (hN : N.length ≤ 1000) (hE : E.length ≤ 1000) (nd : Bool) :
    Calls Try.prog 18 #[.pointer (some ⟨x, 0, none⟩), .int .u64 y, .bool nd] w (GivesL w (if hasN N y then roundsL E nd [y] N.length else [])) := by
  have HH := Lib.hid (rhas_any h (by omega) y)
  cases hh : hasN N y with
  | false =>
    rw [hh] at HH
    have HF : Hid (GivesL w (if false = true then roundsL E nd [y] N.length else []) (.returned (.slice none 0 0)) w) := ⟨none, 0, rfl, ⟨rfl, .inl ⟨rfl, rfl⟩⟩, Below.refl _ _⟩
    clear h hh
    go_enter Try.func18, Try.ntmps18
    go_wp2_with fail
    refine (HH.out).mono ?_
    rintro e w' ⟨rfl, hw⟩
    have hw := hw.symm
    subst hw
    go_wp2_with fail
    go_ret
    exact HF.out
  | true =>
    rw [hh] at HH
    have c0 := h.cell0
    have c1 := h.cell1
    have HC1 : Hid (∀ W, Below w.heap.size w W → W.cell? ⟨x, 1, none⟩ = some vE) := fun W hW => (h.below hW).cell1
    obtain ⟨AN, cN, hvN, hncN⟩ := own_form h.nodes
    subst hvN
    obtain ⟨A, c, rfl, hnc, _, hrow⟩ := Edges.of_own h.edges
    have H1 := Lib.hid hrow
    obtain ⟨n, hn⟩ : ∃ n, n = E.length := ⟨_, rfl⟩
    obtain ⟨m, hm⟩ : ∃ m, m = N.length := ⟨_, rfl⟩
    rw [← hn] at c1 hnc hE HC1
    rw [← hm] at c0 hncN hN ⊢
    have HNE : Hid (E.length = n) := hn.symm
    have HO0 : Hid (Mks w [y] (.slice (some ⟨w.heap.size, 0, none⟩) 1 1) (w.alloc (.cells #[.int .u64 y] 31))) := ⟨World.ownsRow_lit w #[.int .u64 y] 1 (Nat.le_refl _) (by decide) rfl, (Below.refl _ _).alloc (Nat.le_refl _) _⟩
    have hxl := lt_of_block h.blk
    rw [if_pos rfl]
    clear h hh hrow hn hm
    go_enter Try.func18, Try.ntmps18
    go_wp2_with fail
    refine (HH.out).mono ?_
    rintro e w' ⟨rfl, hw⟩
    have hw := hw.symm
    subst hw
    go_wp2_with fail
    go_loopw [7, 9, 10, 11, 23, 30] (fun v _ _ _ i _ wr => ∃ j : Nat, j ≤ m ∧ i = .int .i64 j ∧ Mks w (roundsL E nd [y] j) v wr ∧ (roundsL E nd [y] j).length ≤ 1 + j * 1000) (fun _ _ _ _ i _ _ => m - (intOf i).toNat)
    case atStart => exact ⟨0, Nat.zero_le _, rfl, HO0.out, by simp [roundsL]⟩
    case round =>
      obtain ⟨j, hj, rfl, hM, hlen⟩ := hrel
      by_cases hlt : j < m
      · have i1 : (j : Int) < (m : Int) := by omega
        have c1r := HC1.out _ hM.2
        obtain ⟨L0, hL0⟩ : ∃ L, L = roundsL E nd [y] j := ⟨_, rfl⟩
        have HL1 : Hid (roundsL E nd [y] (j + 1) = roundL E nd L0) := by show _ = _; rw [hL0]; rfl
        rw [← hL0] at hM hlen
        have HM := Lib.hid hM
        have HLEN := Lib.hid hlen
        clear hM hlen hL0
        go_wp2_with fail
        go_loopw [7, 9, 10, 11, 30] (fun v _ _ _ i wr => ∃ k : Nat, k ≤ n ∧ i = .int .i64 k ∧ Mks w (roundL (E.take k) nd L0) v wr ∧ (roundL (E.take k) nd L0).length ≤ 1 + j * 1000 + k) (fun _ _ _ _ i _ => n - (intOf i).toNat)
        case atStart => exact ⟨0, Nat.zero_le _, rfl, HM.out, HLEN.out⟩
        case round =>
          obtain ⟨k, hk, rfl, hM, hlen⟩ := hrel
          by_cases hlt2 : k < n
          · have hlt' : k < E.length := by rw [HNE.out]; exact hlt2
            obtain ⟨ad, rfl, _, q0, q1, q2⟩ := (H1.out.below hM.2) k hlt'
            have i2 : (k : Int) < (n : Int) := by omega
            have HS : Hid (roundL (E.take (k + 1)) nd L0 = reachS nd (roundL (E.take k) nd L0) (E[k]'hlt')) := by show _ = _; rw [take_succ_edge hlt', roundL_snoc]
            obtain ⟨e, he⟩ : ∃ e, e = E[k]'hlt' := ⟨_, rfl⟩
            rw [← he] at q0 q1 q2 HS
            obtain ⟨l, hl⟩ : ∃ l, l = roundL (E.take k) nd L0 := ⟨_, rfl⟩
            rw [← hl] at hM HS hlen
            have HLE : Hid ((roundL (E.take (k + 1)) nd L0).length ≤ 1 + j * 1000 + (k + 1)) := by show _ ≤ _; rw [HS.out]; have := reachS_le nd l e; omega
            have hM2 := hM.below (w2 := wr.alloc (.cells #[.int .u64 e.1, .int .u64 e.2.1, .bool e.2.2] 50)) ((Below.refl _ _).alloc (Nat.le_refl _) _)
            have HM2 := Lib.hid hM2
            obtain ⟨A7, c7, rfl, hnc7, hrow7⟩ := Row.of_own hM2.1
            have hlb : l.length ≤ 1099511627776 := by omega
            obtain ⟨W1, hW1⟩ : ∃ W, W = wr.alloc (.cells #[.int .u64 e.1, .int .u64 e.2.1, .bool e.2.2] 50) := ⟨_, rfl⟩
            rw [← hW1] at HM2 hrow7
            have HPU : Hid (∀ z q, Calls Try.prog 28 #[.slice A7 l.length c7, .int .u64 z] (W1.drewN q) (PutG (W1.drewN q) l.length (putL l z))) := fun z q => put_any A7 c7 l.length l z _ rfl hrow7 hnc7 hlb
            have HPM : Hid (∀ z q A' c' w2, w2.ownsRow (W1.drewN q).heap.size 31 1 (.slice A' (l.length + 1) c') (l.length + 1) (us (putL l z)) → Below (W1.drewN q).heap.size (W1.drewN q) w2 → Mks w (putL l z) (.slice A' (l.length + 1) c') w2) := fun z q A' c' w2 ho hb => HM2.out.put (n := 0) (by rw [putL_len]; exact ho) ⟨hb.os, hb.tape, hb.output, hb.size, hb.block⟩
            have HIS : Hid (∀ z q, Calls Try.prog 36 #[.slice A7 l.length c7, .int .u64 z] (W1.drewN q) fun e w' => e = .returned (.bool (hasN l z)) ∧ ∃ mm, w' = W1.drewN mm) := fun z q => Calls.quiet_of_same (is_any A7 c7 l.length l z (W1.drewN q) rfl hrow7 (by omega))
            have HMD : Hid (∀ q, Mks w l (.slice A7 l.length c7) (W1.drewN q)) := fun q => ⟨HM2.out.1, ⟨HM2.out.2.os, HM2.out.2.tape, HM2.out.2.output, HM2.out.2.size, HM2.out.2.block⟩⟩
            rw [show e = (e.1, e.2.1, e.2.2) from rfl, reachS_eq] at HS
            obtain ⟨R, hR⟩ : ∃ R, R = roundL (E.take (k + 1)) nd L0 := ⟨_, rfl⟩
            rw [← hR] at HS HLE
            have HRR : Hid (∀ v wx, Mks w R v wx → Mks w (roundL (E.take (k + 1)) nd L0) v wx ∧ (roundL (E.take (k + 1)) nd L0).length ≤ 1 + j * 1000 + (k + 1)) := fun v wx h => by rw [← hR]; exact ⟨h, HLE.out⟩
            clear he hl hM hM2 hlt' hrow7 hlen hlb hR HLE
            obtain ⟨z0, z1, z2⟩ := e
            simp only at q0 q1 q2 HS hW1
            have HIS0 : Hid (∀ q, Calls Try.prog 36 #[.slice A7 l.length c7, .int .u64 z0] (W1.drewN q) fun e w' => e = .returned (.bool (hasN l z0)) ∧ ∃ mm, w' = W1.drewN mm) := fun q => HIS.out z0 q
            have HIS1 : Hid (∀ q, Calls Try.prog 36 #[.slice A7 l.length c7, .int .u64 z1] (W1.drewN q) fun e w' => e = .returned (.bool (hasN l z1)) ∧ ∃ mm, w' = W1.drewN mm) := fun q => HIS.out z1 q
            have HW1 := Lib.hid hW1
            have r0 : W1.cell? ⟨wr.heap.size, 0, none⟩ = some (.int .u64 z0) := by rw [hW1]; simp
            have r1 : W1.cell? ⟨wr.heap.size, 1, none⟩ = some (.int .u64 z1) := by rw [hW1]; simp
            have r2 : W1.cell? ⟨wr.heap.size, 2, none⟩ = some (.bool z2) := by rw [hW1]; simp
            clear HIS hW1
            by_cases hsk : (nd && !z2) = true
            · rw [if_pos hsk] at HS
              have hnd : nd = true := by cases nd <;> simp at hsk ⊢
              have hz2 : z2 = false := by cases z2 <;> simp at hsk ⊢
              subst hnd hz2
              have HMM : Hid (Mks w R (.slice A7 l.length c7) W1) := by show Mks _ _ _ _; rw [HS.out]; exact HMD.out 0
              clear hsk
              go_wp2_with fail
              rw [← HW1.out]
              go_wp2_with fail
              go_roundw
              case rel => exact ⟨k + 1, by omega, by go_num, (HRR.out _ _ HMM.out).1, (HRR.out _ _ HMM.out).2⟩
              case measure => simp [intOf]; omega
            · rw [if_neg hsk] at HS
              have hsk' : (nd && !z2) = false := by simpa using hsk
              have HND : Hid (nd = true → z2 = true) := fun h => by subst h; simpa using hsk
              clear hsk
              obtain ⟨b0, hb0⟩ : ∃ b0, b0 = hasN l z0 := ⟨_, rfl⟩
              obtain ⟨b1, hb1⟩ : ∃ b1, b1 = hasN l z1 := ⟨_, rfl⟩
              rw [← hb0, ← hb1] at HS
              rw [← hb0] at HIS0
              rw [← hb1] at HIS1
              clear hb0 hb1
              have HG : ∀ nz : Bool × Bool, nz = (nd, z2) → (nz = (true, true) ∨ nz = (false, true) ∨ nz = (false, false)) := fun nz h => by
                subst h
                cases nd <;> cases z2 <;> simp at hsk' ⊢
              rcases HG _ rfl with hh | hh | hh
              all_goals
                simp only [Prod.mk.injEq] at hh
                obtain ⟨rfl, rfl⟩ := hh
                clear HG hsk' HND
                cases b0 <;> cases b1
              all_goals simp only [Bool.not_true, Bool.not_false, Bool.and_true, Bool.and_false, Bool.true_and, Bool.false_and, if_true, if_false, Bool.false_eq_true] at HS
              all_goals go_wp2_with fail
              all_goals rw [← HW1.out]
              all_goals go_wp2_with fail
              all_goals go_quiet (first | (go_at_call 36; with_reducible exact HIS0.out _) | (go_at_call 36; with_reducible exact HIS1.out _))
              all_goals first
                | (have HMM : Hid (Mks w R (.slice A7 l.length c7) (W1.drewN nq)) := by show Mks w R _ _; rw [HS.out]; with_reducible exact HMD.out nq
                   go_wp2_with fail
                   go_roundw
                   case rel => exact ⟨k + 1, by omega, by go_num, (HRR.out _ _ HMM.out).1, (HRR.out _ _ HMM.out).2⟩
                   case measure => simp [intOf]; omega)
                | (have HP := Lib.hid (HPU.out z1 nq)
                   have HM9 : Hid (∀ A' c' w2, w2.ownsRow (W1.drewN nq).heap.size 31 1 (.slice A' (l.length + 1) c') (l.length + 1) (us (putL l z1)) → Below (W1.drewN nq).heap.size (W1.drewN nq) w2 → Mks w R (.slice A' (l.length + 1) c') w2) := by
                     intro A' c' w2 ho hb
                     rw [HS.out]
                     with_reducible exact HPM.out z1 nq A' c' w2 ho hb
                   go_wp2_with fail
                   refine (HP.out).mono ?_
                   rintro e w2 ⟨A', c', rfl, ho, hb⟩
                   have HMM := Lib.hid (HM9.out A' c' w2 ho hb)
                   clear ho hb HM9 HP
                   go_wp2_with fail
                   go_roundw
                   case rel => exact ⟨k + 1, by omega, by go_num, (HRR.out _ _ HMM.out).1, (HRR.out _ _ HMM.out).2⟩
                   case measure => simp [intOf]; omega)
                | (have HP := Lib.hid (HPU.out z0 nq)
                   have HM9 : Hid (∀ A' c' w2, w2.ownsRow (W1.drewN nq).heap.size 31 1 (.slice A' (l.length + 1) c') (l.length + 1) (us (putL l z0)) → Below (W1.drewN nq).heap.size (W1.drewN nq) w2 → Mks w R (.slice A' (l.length + 1) c') w2) := by
                     intro A' c' w2 ho hb
                     rw [HS.out]
                     with_reducible exact HPM.out z0 nq A' c' w2 ho hb
                   go_wp2_with fail
                   refine (HP.out).mono ?_
                   rintro e w2 ⟨A', c', rfl, ho, hb⟩
                   have HMM := Lib.hid (HM9.out A' c' w2 ho hb)
                   clear ho hb HM9 HP
                   go_wp2_with fail
                   go_roundw
                   case rel => exact ⟨k + 1, by omega, by go_num, (HRR.out _ _ HMM.out).1, (HRR.out _ _ HMM.out).2⟩
                   case measure => simp [intOf]; omega)
          · have i2 : ¬ (k : Int) < (n : Int) := by omega
            rw [List.take_of_length_le (by rw [HNE.out]; omega)] at hM hlen
            have HMM : Hid (Mks w (roundsL E nd [y] (j + 1)) u7 wr) := by show Mks _ _ _ _; rw [HL1.out]; exact hM
            have HLL : Hid ((roundsL E nd [y] (j + 1)).length ≤ 1 + (j + 1) * 1000) := by show _ ≤ _; rw [HL1.out]; omega
            clear hM hlen
            go_wp2_with fail
            go_roundw
            case rel => exact ⟨j + 1, by omega, by go_num, HMM.out, HLL.out⟩
            case measure => simp [intOf]; omega
      · have i1 : ¬ (j : Int) < (m : Int) := by omega
        obtain rfl : j = m := by omega
        have HG := Lib.hid hM.gives
        clear hM hlen
        go_wp2_with fail
        go_ret
        exact HG.out
end

end Go.Proofs.Ytdfmgfclcbeeiaa
