/-
  The contract of the partial insertion sort.
-/
import Derived.Test.YtdfmgfclcbeeiaaSHeap
import Derived.Deep.CutRange
namespace Go.Proofs.Ytdfmgfclcbeeiaa
open Go.RowKit Go.Sort
set_option linter.unusedSimpArgs false
set_option linter.unusedVariables false

/-- sorted up to i, the rest anyhow; nothing from a on is less than what stands ahead of a -/
structure Pi (a b i : Nat) (d dk : Array Int) : Prop where
  srt : SortedIn ltInt a i dk
  perm : PermIn a b d dk
  low : Go.Sort.Below ltInt a b dk
theorem Pi.swap {a b i j k : Nat} {d dk : Array Int} (h : Pi a b i d dk) (hb : b ≤ d.size) (hai : a ≤ i) (hj : i ≤ j ∧ j < b) (hk : i ≤ k ∧ k < b) : Pi a b i d (swp dk j k) := by
  have hs := permIn_size h.perm
  have hp := swp_permIn dk a b j k (by omega) (by omega) (by omega) (by omega) (by omega)
  exact ⟨h.srt.congrA fun p hp => swp_other dk j k p (by omega) (by omega), permIn_trans _ _ _ _ _ h.perm hp, h.low.perm (by omega) hp⟩

section
variable (w : World) (blk off cap : Nat) (d : Array Int) (a b : Nat)

set_option maxRecDepth 100000 in
set_option maxHeartbeats 4000000 in
theorem partial_any (h : Holds encU w blk off d) (hblk : blk < w.heap.size) (hab : a < b) (hb : b ≤ d.size) (hsz : d.size < 4611686018427387904) (hlow : Go.Sort.Below ltInt a b d) :
    Calls Try.prog 53 #[.slice (some ⟨blk, off, none⟩) d.size cap, .int .i64 a, .int .i64 b] w fun e w' => ∃ (ok : Bool) (d' : Array Int), e = .returned (.bool ok) ∧ Moved w blk off a b d d' w' ∧ (ok = true → SortedIn ltInt a b d') := by
  obtain ⟨n, hn⟩ : ∃ n, n = d.size := ⟨_, rfl⟩
  have H0 := Lib.hid (Ro.start h hblk)
  have HP0 : Hid (Pi a b (a + 1) d d) := ⟨fun p q h1 h2 h3 => by omega, permIn_refl d a b, hlow⟩
  have HN : Hid (d.size = n) := hn.symm
  rw [← hn] at hsz hb ⊢
  clear h hlow hn
  go_enter Try.func53, Try.ntmps53
  go_wp2_with fail
  go_loopw [7, 8, 9, 10] (fun s7 s8 _ _ wr => ∃ (i s : Nat) (dk : Array Int), s7 = .int .i64 (i : Int) ∧ s8 = .int .i64 (s : Int) ∧ a < i ∧ i ≤ b ∧ s ≤ 5 ∧ dk.size = n ∧ Pi a b i d dk ∧ Ro w wr blk off dk) (fun _ s8 _ _ _ => 5 - (intOf s8).toNat)
  case atStart => exact ⟨a + 1, 0, d, by go_num, rfl, by omega, by omega, by omega, HN.out, HP0.out, H0.out⟩
  case round =>
    obtain ⟨i0, s, dk, rfl, rfl, hai0, hib0, hs5, hsz0, hP, hR⟩ := hrel
    have HP := Lib.hid hP
    have HR := Lib.hid hR
    have HSZ := Lib.hid hsz0
    clear hP hR hsz0
    by_cases hs : s < 5
    · have e0 : (s : Int) < 5 := by omega
      go_wp2_with fail
      go_loopw [7] (fun s7 wr => ∃ i : Nat, s7 = .int .i64 (i : Int) ∧ a < i ∧ i ≤ b ∧ Pi a b i d dk ∧ Ro w wr blk off dk) (fun s7 _ => b - (intOf s7).toNat)
      case atStart => exact ⟨i0, rfl, hai0, hib0, HP.out, HR.out⟩
      case round =>
        obtain ⟨i, rfl, hai, hib, hP, hR⟩ := hrel
        obtain ⟨G, hG, hcw, hfw⟩ := hR.fam
        rw [HSZ.out] at hcw hfw
        have HPi := Lib.hid hP
        have HRi := Lib.hid hR
        have HG := Lib.hid hG
        clear hP hR hG
        obtain ⟨BB, hBB⟩ : ∃ B : Bool, B = (decide (i < b) && !ltInt (G i) (G (i - 1))) := ⟨_, rfl⟩
        have HBB := Lib.hid hBB
        clear hBB
        go_upto_region 5 with fail
        go_cut [32] from 17 to 34 (fun t wx => t = .bool BB ∧ ∃ nq, wx = wr.drewN nq)
        case first =>
          by_cases hij : i < b
          · go_quiet (first | (go_at_call 54; refine Calls.quiet_of_same (less_any _ _ _)) | fail)
            go_wp2_with fail
            go_meet
            exact ⟨by rw [HBB.out]; simp [hij], nq, rfl⟩
          · go_quiet (first | (go_at_call 54; refine Calls.quiet_of_same (less_any _ _ _)) | fail)
            go_wp2_with fail
            go_meet
            exact ⟨by rw [HBB.out]; simp [hij], nq, rfl⟩
        case rest =>
          obtain ⟨rfl, nq, rfl⟩ := hcut
          cases hb9 : BB with
          | true =>
            have hE : i < b ∧ ltInt (G i) (G (i - 1)) = false := by have := HBB.out; rw [hb9] at this; simpa using this.symm
            obtain ⟨hij, hL⟩ := hE
            rw [HG.out, HG.out] at hL
            have HNX : Hid (Pi a b (i + 1) d dk) := ⟨HPi.out.srt.snoc swo_ltInt hL, HPi.out.perm, HPi.out.low⟩
            clear hL
            go_wp2_with fail
            go_roundw
            case rel => exact ⟨i + 1, by go_num, by omega, by omega, HNX.out, HRi.out.drewN nq⟩
            case measure => simp [intOf]; omega
          | false =>
            have HR2 := Lib.hid (HRi.out.drewN nq)
            have hcw2 : ∀ t, t < n → (wr.drewN nq).cell? ⟨blk, off + t, none⟩ = some (.int .u64 (G t)) := hcw
            have hfw2 : ∀ t, t < n → (wr.drewN nq).frozen? ⟨blk, off + t, none⟩ = false := hfw
            generalize wr.drewN nq = wr2 at *
            clear hcw hfw nq HBB
            by_cases hib2 : i = b
            · have HFIN : Hid (∃ d', Moved w blk off a b d d' wr2 ∧ SortedIn ltInt a b d') := ⟨dk, ⟨HR2.out, HPi.out.perm⟩, by rw [← hib2]; exact HPi.out.srt⟩
              have e1 : ((i : Int) == (b : Int)) = true := by simp [hib2]
              have e2 : (i : Int) = (b : Int) := by omega
              clear hib2
              go_wp2_with fail
              go_ret
              obtain ⟨d', h1, h2⟩ := HFIN.out
              exact ⟨true, d', rfl, h1, fun _ => h2⟩
            · have e1 : ((i : Int) == (b : Int)) = false := by simp; omega
              have e2 : ¬ (i : Int) = (b : Int) := by omega
              by_cases h50 : b - a < 50
              · have e3 : (b : Int) - (a : Int) < 50 := by omega
                go_wp2_with fail
                go_ret
                exact ⟨false, dk, rfl, ⟨HR2.out, HPi.out.perm⟩, fun h => by cases h⟩
              · have e3 : ¬ (b : Int) - (a : Int) < 50 := by omega
                have hin : i < n ∧ (i - 1) < n ∧ i ≠ (i - 1) := by omega
                obtain ⟨hin1, hin2, hin3⟩ := hin
                have hsw : Ro w (((wr2.setCell ⟨blk, off + i, none⟩ (.int .u64 (G (i - 1)))).setCell ⟨blk, off + (i - 1), none⟩ (.int .u64 (G i))).drewN 1) blk off (swp dk i (i - 1)) := Ro.swp 1 HR2.out (by rw [HSZ.out]; omega) (by rw [HSZ.out]; omega) (by rw [HG.out]; rfl) (by rw [HG.out]; rfl)
                obtain ⟨w3, hw3⟩ : ∃ y, y = ((wr2.setCell ⟨blk, off + i, none⟩ (.int .u64 (G (i - 1)))).setCell ⟨blk, off + (i - 1), none⟩ (.int .u64 (G i))).drewN 1 := ⟨_, rfl⟩
                rw [← hw3] at hsw
                have hpm : PermIn a b d (swp dk i (i - 1)) := permIn_trans _ _ _ _ _ HPi.out.perm (swp_permIn dk a b i (i - 1) (by omega) (by omega) (by omega) (by omega) (by rw [HSZ.out]; omega))
                have hlw : Go.Sort.Below ltInt a b (swp dk i (i - 1)) := HPi.out.low.perm (by rw [HSZ.out]; omega) (swp_permIn dk a b i (i - 1) (by omega) (by omega) (by omega) (by omega) (by rw [HSZ.out]; omega))
                have hins : Ins ltInt a (i - 1) (i - 1) (swp dk i (i - 1)) := ⟨fun p q k1 k2 k3 k4 k5 => by
                  rw [swp_other dk i (i - 1) p (by omega) (by omega), swp_other dk i (i - 1) q (by omega) (by omega)]
                  exact HPi.out.srt p q k1 k2 (by omega), fun q k1 k2 => by omega⟩
                have HW3 := Lib.hid hw3
                have HR3 := Lib.hid hsw
                have HPM := Lib.hid hpm
                have HLW := Lib.hid hlw
                have HINS := Lib.hid hins
                have HSZ3 : Hid ((swp dk i (i - 1)).size = n) := by show _ = _; rw [swp_sz]; exact HSZ.out
                clear hw3 hsw hpm hlw hins
                go_wp2_with fail
                go_region
                all_goals go_upto_if 61 with fail
                rw [show ((wr2.setCell ⟨blk, off + i, none⟩ (.int .u64 (G (i - 1)))).setCell ⟨blk, off + (i - 1), none⟩ (.int .u64 (G i))).drew = w3 from HW3.out.symm]
                clear hcw2 hfw2 HG HPi HR2 HR HP
                go_cut [9] from 13 to 132 (fun _ wx => ∃ dk' : Array Int, dk'.size = n ∧ Pi a b i d dk' ∧ Ro w wx blk off dk')
                case first =>
                  have e9 : i - 1 + 1 = i := by omega
                  by_cases h2 : 2 ≤ i - a
                  · have e5 : (2 : Int) ≤ (i : Int) - (a : Int) := by omega
                    go_wp2_with fail
                    go_loopw [9] (fun s9 wx => ∃ (j : Nat) (dj : Array Int), s9 = .int .i64 (j : Int) ∧ a ≤ j ∧ j ≤ i - 1 ∧ dj.size = n ∧ Ins ltInt a j (i - 1) dj ∧ PermIn a b d dj ∧ Go.Sort.Below ltInt a b dj ∧ Ro w wx blk off dj) (fun s9 _ => (intOf s9).toNat)
                    case atStart => exact ⟨i - 1, _, by congr 1 <;> omega, by omega, Nat.le_refl _, HSZ3.out, HINS.out, HPM.out, HLW.out, HR3.out⟩
                    case round =>
                      obtain ⟨j, dj, rfl, haj, hji, hsj, hI, hp, hlo, hRj⟩ := hrel
                      obtain ⟨G2, hG2, hcw, hfw⟩ := hRj.fam
                      rw [hsj] at hcw hfw
                      have HI := Lib.hid hI
                      have HP2 := Lib.hid hp
                      have HLO := Lib.hid hlo
                      have HRJ := Lib.hid hRj
                      have HSJ := Lib.hid hsj
                      have HG2 := Lib.hid hG2
                      have hjn : j < n := by omega
                      clear hI hp hlo hRj hsj hG2
                      by_cases hj1 : 1 ≤ j
                      · have e6 : (1 : Int) ≤ (j : Int) := by omega
                        go_wp2_with fail
                        go_quiet (first | (go_at_call 54; refine Calls.quiet_of_same (less_any _ _ _)) | fail)
                        have HRJ2 := Lib.hid (HRJ.out.drewN nq)
                        have hcw2 : ∀ t, t < n → (wr.drewN nq).cell? ⟨blk, off + t, none⟩ = some (.int .u64 (G2 t)) := hcw
                        have hfw2 : ∀ t, t < n → (wr.drewN nq).frozen? ⟨blk, off + t, none⟩ = false := hfw
                        generalize wr.drewN nq = wr2 at *
                        clear hcw hfw nq
                        cases hL : ltInt (G2 j) (G2 (j - 1)) with
                        | true =>
                          have hja : a < j := by
                            rcases Nat.lt_or_ge a j with h | h
                            · exact h
                            · have hjea : j = a := by omega
                              rcases HLO.out with h0 | h0
                              · omega
                              · have := h0 j haj (by omega)
                                rw [HG2.out, HG2.out] at hL
                                rw [hjea] at hL this
                                rw [hL] at this
                                cases this
                          have hne : j ≠ j - 1 := by omega
                          have HSW : Hid (Ro w (((wr2.setCell ⟨blk, off + j, none⟩ (.int .u64 (G2 (j - 1)))).setCell ⟨blk, off + (j - 1), none⟩ (.int .u64 (G2 j))).drewN 1) blk off (swp dj j (j - 1))) := Ro.swp 1 HRJ2.out (by rw [HSJ.out]; omega) (by rw [HSJ.out]; omega) (by rw [HG2.out]; rfl) (by rw [HG2.out]; rfl)
                          have hpp := swp_permIn dj a b j (j - 1) (by omega) (by omega) (by omega) (by omega) (by rw [HSJ.out]; omega)
                          have HPP := Lib.hid (permIn_trans _ _ _ _ _ HP2.out hpp)
                          have HLL := Lib.hid (HLO.out.perm (by rw [HSJ.out]; omega) hpp)
                          have HII : Hid (Ins ltInt a (j - 1) (i - 1) (swp dj j (j - 1))) := by
                            have hst := HI.out
                            rw [HG2.out, HG2.out] at hL
                            obtain ⟨jj, rfl⟩ : ∃ jj, j = jj + 1 := ⟨j - 1, by omega⟩
                            exact hst.step hL (by omega) (by rw [HSJ.out]; omega)
                          clear hpp
                          go_wp2_with fail
                          go_region
                          all_goals go_wp2_with fail
                          go_roundw
                          case rel => exact ⟨j - 1, _, by congr 1 <;> omega, by omega, by omega, by rw [swp_sz]; exact HSJ.out, HII.out, HPP.out, HLL.out, HSW.out⟩
                          case measure => simp [intOf]; omega
                        | false =>
                          have HFI : Hid (Pi a b i d dj) := by
                            rw [HG2.out, HG2.out] at hL
                            have hst := HI.out.stop swo_ltInt (.inr hL)
                            rw [e9] at hst
                            exact ⟨hst, HP2.out, HLO.out⟩
                          go_wp2_with fail
                          go_meet
                          exact ⟨dj, HSJ.out, HFI.out, HRJ2.out⟩
                      · have e6 : ¬ (1 : Int) ≤ (j : Int) := by omega
                        have HFI : Hid (Pi a b i d dj) := by
                          have hst := HI.out.stop swo_ltInt (.inl (by omega))
                          rw [e9] at hst
                          exact ⟨hst, HP2.out, HLO.out⟩
                        go_wp2_with fail
                        go_meet
                        exact ⟨dj, HSJ.out, HFI.out, HRJ.out⟩
                  · have e5 : ¬ (2 : Int) ≤ (i : Int) - (a : Int) := by omega
                    go_wp2_with fail
                    go_meet
                    exact ⟨_, HSZ3.out, ⟨fun p q k1 k2 k3 => by omega, HPM.out, HLW.out⟩, HR3.out⟩
                case rest =>
                  obtain ⟨dk2, hs2, hP2, hR2⟩ := hcut
                  have HS2 := Lib.hid hs2
                  have HP2 := Lib.hid hP2
                  have HR2 := Lib.hid hR2
                  clear hs2 hP2 hR2 HINS HPM HLW HR3 HSZ3
                  by_cases hbi : 2 ≤ b - i
                  · have e5 : (2 : Int) ≤ (b : Int) - (i : Int) := by omega
                    go_wp2_with fail
                    go_loopw [10] (fun s10 wx => ∃ (j : Nat) (dj : Array Int), s10 = .int .i64 (j : Int) ∧ i + 1 ≤ j ∧ j ≤ b ∧ dj.size = n ∧ Pi a b i d dj ∧ Ro w wx blk off dj) (fun s10 _ => b - (intOf s10).toNat)
                    case atStart => exact ⟨i + 1, dk2, by go_num, Nat.le_refl _, by omega, HS2.out, HP2.out, HR2.out⟩
                    case round =>
                      obtain ⟨j, dj, rfl, hij, hjb, hsj, hPj, hRj⟩ := hrel
                      obtain ⟨G2, hG2, hcw, hfw⟩ := hRj.fam
                      rw [hsj] at hcw hfw
                      have HPJ := Lib.hid hPj
                      have HRJ := Lib.hid hRj
                      have HSJ := Lib.hid hsj
                      have HG2 := Lib.hid hG2
                      clear hPj hRj hsj hG2
                      by_cases hj1 : j < b
                      · have hjn : j < n := by omega
                        go_wp2_with fail
                        go_quiet (first | (go_at_call 54; refine Calls.quiet_of_same (less_any _ _ _)) | fail)
                        have HRJ2 := Lib.hid (HRJ.out.drewN nq)
                        have hcw2 : ∀ t, t < n → (wr.drewN nq).cell? ⟨blk, off + t, none⟩ = some (.int .u64 (G2 t)) := hcw
                        have hfw2 : ∀ t, t < n → (wr.drewN nq).frozen? ⟨blk, off + t, none⟩ = false := hfw
                        generalize wr.drewN nq = wr2 at *
                        clear hcw hfw nq
                        cases hL : ltInt (G2 j) (G2 (j - 1)) with
                        | true =>
                          have hne : j ≠ j - 1 := by omega
                          have HSW : Hid (Ro w (((wr2.setCell ⟨blk, off + j, none⟩ (.int .u64 (G2 (j - 1)))).setCell ⟨blk, off + (j - 1), none⟩ (.int .u64 (G2 j))).drewN 1) blk off (swp dj j (j - 1))) := Ro.swp 1 HRJ2.out (by rw [HSJ.out]; omega) (by rw [HSJ.out]; omega) (by rw [HG2.out]; rfl) (by rw [HG2.out]; rfl)
                          have HPP := Lib.hid (HPJ.out.swap (j := j) (k := j - 1) (by rw [HN.out]; omega) (by omega) (by omega) (by omega))
                          go_wp2_with fail
                          go_region
                          all_goals go_wp2_with fail
                          go_roundw
                          case rel => exact ⟨j + 1, _, by go_num, by omega, by omega, by rw [swp_sz]; exact HSJ.out, HPP.out, HSW.out⟩
                          case measure => simp [intOf]; omega
                        | false =>
                          go_wp2_with fail
                          go_roundw
                          case rel => exact ⟨i, s + 1, dj, rfl, by go_num, hai, hib, by omega, HSJ.out, HPJ.out, HRJ2.out⟩
                          case measure => simp [intOf]; omega
                      · go_wp2_with fail
                        go_roundw
                        case rel => exact ⟨i, s + 1, dj, rfl, by go_num, hai, hib, by omega, HSJ.out, HPJ.out, HRJ.out⟩
                        case measure => simp [intOf]; omega
                  · have e5 : ¬ (2 : Int) ≤ (b : Int) - (i : Int) := by omega
                    go_wp2_with fail
                    go_roundw
                    case rel => exact ⟨i, s + 1, dk2, rfl, by go_num, hai, hib, by omega, HS2.out, HP2.out, HR2.out⟩
                    case measure => simp [intOf]; omega
    · have e0 : ¬ (s : Int) < 5 := by omega
      go_wp2_with fail
      go_ret
      exact .inl ⟨rfl, dk, HR.out, HP.out.perm⟩
end

end Go.Proofs.Ytdfmgfclcbeeiaa
