/-
  The contract of pdqsort.
-/
import Derived.Test.YtdfmgfclcbeeiaaSLeft
import Derived.Test.YtdfmgfclcbeeiaaSPart
import Derived.Test.YtdfmgfclcbeeiaaSPiv
import Derived.Test.YtdfmgfclcbeeiaaSBrk
import Derived.Deep.CutRange
namespace Go.Proofs.Ytdfmgfclcbeeiaa
open Go.RowKit Go.Sort
set_option linter.unusedSimpArgs false
set_option linter.unusedVariables false

/-- where the sort stands: s, t and e of 'Lft', and the row in its place -/
structure Pq (w0 w : World) (blk off n a b : Nat) (d : Array Int) (s t : Nat) (e : Array Int) : Prop where
  sz : e.size = n
  lft : Lft a b d s t e
  ro : Ro w0 w blk off e

theorem Pq.lt {w0 w : World} {blk off n a b : Nat} {d : Array Int} {s t : Nat} {e : Array Int} (h : Pq w0 w blk off n a b d s t e) : blk < w.heap.size :=
  Nat.lt_of_lt_of_le h.ro.lt h.ro.size

theorem Pq.step {w0 w w1 : World} {blk off n a b : Nat} {d : Array Int} {s t : Nat} {e f : Array Int} (h : Pq w0 w blk off n a b d s t e) (ht : t ≤ n) (hm : Moved w blk off s t e f w1) : Pq w0 w1 blk off n a b d s t f :=
  ⟨by rw [hm.2.1, h.sz], h.lft.perm (by rw [h.sz]; exact ht) hm.2, h.ro.trans hm.1 hm.2.1⟩

theorem Pq.drewN {w0 w : World} {blk off n a b : Nat} {d : Array Int} {s t : Nat} {e : Array Int} (h : Pq w0 w blk off n a b d s t e) (q : Nat) : Pq w0 (w.drewN q) blk off n a b d s t e := ⟨h.sz, h.lft, h.ro.drewN q⟩

theorem Pq.fin {w0 w w1 : World} {blk off n a b : Nat} {d : Array Int} {s t : Nat} {e f : Array Int} (h : Pq w0 w blk off n a b d s t e) (hm : Moved w blk off s t e f w1) (hs : SortedIn ltInt s t f) : ∃ d', Moved w0 blk off a b d d' w1 ∧ SortedIn ltInt a b d' :=
  have k := h.lft.fin f hm.2 hs
  ⟨f, ⟨h.ro.trans hm.1 hm.2.1, k.1⟩, k.2⟩

section
variable (blk off cap : Nat)

set_option maxRecDepth 100000 in
set_option maxHeartbeats 8000000 in
theorem pdq_all (m : Nat) : ∀ (w : World) (d : Array Int) (a b lim : Nat), b - a = m → Holds encU w blk off d → blk < w.heap.size → a ≤ b → b ≤ d.size → d.size < 4611686018427387904 → Go.Sort.Below ltInt a b d → lim ≤ 64 →
    Calls Try.prog 43 #[.slice (some ⟨blk, off, none⟩) d.size cap, .int .i64 a, .int .i64 b, .int .i64 lim] w fun e w' => e = .returned (.tuple #[]) ∧ ∃ d', Moved w blk off a b d d' w' ∧ SortedIn ltInt a b d' := by
  induction m using Nat.strongRecOn with
  | ind m ih =>
  intro w d a b lim0 hm h hblk hab hb hsz hlow hlim0
  have HIH : Hid (∀ (w : World) (d : Array Int) (a b lim : Nat), b - a < m → Holds encU w blk off d → blk < w.heap.size → a ≤ b → b ≤ d.size → d.size < 4611686018427387904 → Go.Sort.Below ltInt a b d → lim ≤ 64 →
    Calls Try.prog 43 #[.slice (some ⟨blk, off, none⟩) d.size cap, .int .i64 a, .int .i64 b, .int .i64 lim] w fun e w' => e = .returned (.tuple #[]) ∧ ∃ d', Moved w blk off a b d d' w' ∧ SortedIn ltInt a b d') := fun w d a b lim hlt h1 h2 h3 h4 h5 h6 h7 => ih (b - a) hlt w d a b lim rfl h1 h2 h3 h4 h5 h6 h7
  obtain ⟨n, hn⟩ : ∃ n, n = d.size := ⟨_, rfl⟩
  have HQ0 : Hid (Pq w w blk off n a b d a b d) := ⟨hn.symm, Lft.start hlow, Ro.start h hblk⟩
  have HN : Hid (d.size = n) := hn.symm
  rw [← hn] at hsz hb ⊢
  have HM := Lib.hid hm
  clear ih h hlow hn hblk hm
  go_enter Try.func43, Try.ntmps43
  go_wp2_with fail
  go_loopw [1, 2, 3, 8, 9, 10, 11, 12, 13, 14, 15, 16, 17, 18] (fun s1 s2 s3 s8 s9 _ _ _ _ _ _ _ _ _ wr => ∃ (s t lim : Nat) (wb wp : Bool) (e : Array Int), s1 = .int .i64 (s : Int) ∧ s2 = .int .i64 (t : Int) ∧ s3 = .int .i64 (lim : Int) ∧ s8 = .bool wb ∧ s9 = .bool wp ∧ a ≤ s ∧ s ≤ t ∧ t ≤ b ∧ lim ≤ 64 ∧ Pq w wr blk off n a b d s t e) (fun s1 s2 _ _ _ _ _ _ _ _ _ _ _ _ _ => (intOf s2).toNat - (intOf s1).toNat)
  case atStart => exact ⟨a, b, lim0, true, true, d, rfl, rfl, rfl, rfl, rfl, Nat.le_refl _, hab, Nat.le_refl _, hlim0, HQ0.out⟩
  case round =>
    obtain ⟨s, t, lim, wb, wp, e, rfl, rfl, rfl, rfl, rfl, has, hst, htb, hlim, hQ⟩ := hrel
    obtain ⟨l, hl⟩ : ∃ l, l = t - s := ⟨_, rfl⟩
    have e1 : (t : Int) - (s : Int) = (l : Int) := by omega
    have HL := Lib.hid hl
    have htn : t ≤ n := by omega
    have hln : l ≤ n := by omega
    have HQ := Lib.hid hQ
    clear hl hQ HQ0
    by_cases h12 : l ≤ 12
    · have e2 : (l : Int) ≤ 12 := by omega
      have HC := insertion_any wr blk off cap e s t HQ.out.ro.hold HQ.out.lt hst (by rw [HQ.out.sz]; exact htn) (by rw [HQ.out.sz]; exact hsz)
      rw [HQ.out.sz] at HC
      have HC := Lib.hid HC
      go_wp2_with fail
      refine (HC.out).mono ?_
      rintro e0 w2 ⟨rfl, f, hmv, hs⟩
      have HF := Lib.hid (HQ.out.fin hmv hs)
      clear hmv hs
      go_wp2_with fail
      refine bodyPost_ret (results_none rfl _ _ _) rfl ?_
      exact ⟨rfl, HF.out⟩
    · have e2 : ¬ (l : Int) ≤ 12 := by omega
      by_cases hl0 : lim = 0
      · subst hl0
        have HC := heap_any wr blk off cap e s t HQ.out.ro.hold HQ.out.lt hst (by rw [HQ.out.sz]; exact htn) (by rw [HQ.out.sz]; exact hsz)
        rw [HQ.out.sz] at HC
        have HC := Lib.hid HC
        go_wp2_with fail
        refine (HC.out).mono ?_
        rintro e0 w2 ⟨rfl, f, hmv, hs⟩
        have HF := Lib.hid (HQ.out.fin hmv hs)
        clear hmv hs
        go_wp2_with fail
        refine bodyPost_ret (results_none rfl _ _ _) rfl ?_
        exact ⟨rfl, HF.out⟩
      · have e3 : ((lim : Int) == 0) = false := by simp; omega
        have e3' : ¬ (lim : Int) = 0 := by omega
        go_upto_if 35 with fail
        go_cut [3] from 19 to 133 (fun s3 wx => ∃ (lim' : Nat) (e' : Array Int), s3 = .int .i64 (lim' : Int) ∧ lim' ≤ 64 ∧ Pq w wx blk off n a b d s t e')
        case first =>
          cases wb with
          | true =>
            go_wp2_with fail
            go_meet
            exact ⟨lim, e, rfl, hlim, HQ.out⟩
          | false =>
            have HC := break_any wr blk off cap e s t HQ.out.ro.hold HQ.out.lt hst (by rw [HQ.out.sz]; exact htn) (by rw [HQ.out.sz]; exact hsz)
            rw [HQ.out.sz] at HC
            have HC := Lib.hid HC
            have e4 : (lim : Int) - 1 = ((lim - 1 : Nat) : Int) := by omega
            go_wp2_with fail
            refine (HC.out).mono ?_
            rintro e0 w2 ⟨rfl, f, hmv⟩
            have HQ2 := Lib.hid (HQ.out.step htn hmv)
            clear hmv
            go_wp2_with fail
            go_meet
            exact ⟨lim - 1, f, rfl, by omega, HQ2.out⟩
        case rest =>
          obtain ⟨lim1, e1', rfl, hlim1, hQ1⟩ := hcut
          have HQ1 := Lib.hid hQ1
          have hst' : s < t := by have := HL.out; omega
          clear hQ1 HQ e3 e3' hl0 hlim
          have HC := choosePivot_any w wc blk off cap e1' s t HQ1.out.ro hst' (by rw [HQ1.out.sz]; exact htn) (by rw [HQ1.out.sz]; exact hsz)
          rw [HQ1.out.sz] at HC
          have HC := Lib.hid HC
          go_wp2_with fail
          refine (HC.out).mono ?_
          rintro e0 w2 ⟨p, k, rfl, hp1, hp2, hk, hro⟩
          have HQ2 : Hid (Pq w w2 blk off n a b d s t e1') := ⟨HQ1.out.sz, HQ1.out.lft, hro⟩
          clear hro HC HQ1
          go_upto_if 50 with fail
          go_cut [11, 12] from 19 to 133 (fun s11 s12 wx => ∃ (p k : Nat) (f : Array Int), s11 = .int .i64 (p : Int) ∧ s12 = .int .i64 (k : Int) ∧ s ≤ p ∧ p < t ∧ k ≤ 2 ∧ Pq w wx blk off n a b d s t f)
          case first =>
            by_cases hk2 : k = 2
            · subst hk2
              have HC := reverse_any w2 blk off cap e1' s t HQ2.out.ro.hold HQ2.out.lt hst (by rw [HQ2.out.sz]; exact htn) (by rw [HQ2.out.sz]; exact hsz)
              rw [HQ2.out.sz] at HC
              have HC := Lib.hid HC
              obtain ⟨x, hx⟩ : ∃ x, x = t - 1 - (p - s) := ⟨_, rfl⟩
              have e5 : (t : Int) - 1 - ((p : Int) - (s : Int)) = (x : Int) := by omega
              have HX : Hid (s ≤ x ∧ x < t) := by show _ ∧ _; omega
              clear hx
              go_wp2_with fail
              refine (HC.out).mono ?_
              rintro e0 w3 ⟨rfl, f, hmv⟩
              have HQ3 := Lib.hid (HQ2.out.step htn hmv)
              clear hmv
              go_wp2_with fail
              go_meet
              exact ⟨x, 1, f, rfl, by go_num, HX.out.1, HX.out.2, by omega, HQ3.out⟩
            · have e5 : ((k : Int) == 2) = false := by simp; omega
              have e5' : ¬ (k : Int) = 2 := by omega
              go_wp2_with fail
              go_meet
              exact ⟨p, k, e1', rfl, rfl, hp1, hp2, hk, HQ2.out⟩
          case rest =>
            obtain ⟨p, k, f, rfl, rfl, hp1, hp2, hk, hQ3⟩ := hcut
            have HQ3 := Lib.hid hQ3
            clear hQ3 HQ2
            obtain ⟨BT, hBT⟩ : ∃ B : Bool, B = (wb && wp && decide (k = 1)) := ⟨_, rfl⟩
            have HBT := Lib.hid hBT
            clear hBT
            go_upto_region 15 with fail
            go_cut [68] from 19 to 133 (fun t68 wx => t68 = .bool BT ∧ wx = wc)
            case first =>
              by_cases hk1 : k = 1
              · subst hk1
                cases wb <;> cases wp <;> (go_wp2_with fail; go_meet; exact ⟨by rw [HBT.out]; rfl, rfl⟩)
              · have e6 : ((k : Int) == 1) = false := by simp; omega
                have e6' : ¬ (k : Int) = 1 := by omega
                have e6'' : decide (k = 1) = false := by simp [hk1]
                cases wb <;> cases wp <;> (go_wp2_with fail; go_meet; exact ⟨by rw [HBT.out, e6'']; rfl, rfl⟩)
            case rest =>
              obtain ⟨rfl, rfl⟩ := hcut
              go_upto_if 68 with fail
              go_cut [11] from 19 to 133 (fun s11 wx => s11 = .int .i64 (p : Int) ∧ ∃ f' : Array Int, Pq w wx blk off n a b d s t f')
              case first =>
                cases BT with
                | true =>
                  have HC := partial_any wc blk off cap f s t HQ3.out.ro.hold HQ3.out.lt hst' (by rw [HQ3.out.sz]; exact htn) (by rw [HQ3.out.sz]; exact hsz) HQ3.out.lft.low
                  rw [HQ3.out.sz] at HC
                  have HC := Lib.hid HC
                  go_wp2_with fail
                  refine (HC.out).mono ?_
                  rintro e0 w3 ⟨ok, f', rfl, hmv, hs⟩
                  cases ok with
                  | true =>
                    have HF := Lib.hid (HQ3.out.fin hmv (hs rfl))
                    clear hmv hs
                    go_wp2_with fail
                    refine bodyPost_ret (results_none rfl _ _ _) rfl ?_
                    exact ⟨rfl, HF.out⟩
                  | false =>
                    have HQ4 := Lib.hid (HQ3.out.step htn hmv)
                    clear hmv hs
                    go_wp2_with fail
                    go_meet
                    exact ⟨rfl, f', HQ4.out⟩
                | false =>
                  go_wp2_with fail
                  go_meet
                  exact ⟨rfl, f, HQ3.out⟩
              case rest =>
                obtain ⟨rfl, g, hQ4⟩ := hcut
                have HQ4 := Lib.hid hQ4
                clear hQ4 HQ3 HBT BT
                obtain ⟨G, hG, hcw, hfw⟩ := HQ4.out.ro.fam
                rw [HQ4.out.sz] at hcw hfw
                obtain ⟨BQ, hBQ⟩ : ∃ B : Bool, B = (decide (0 < s) && !ltInt (G (s - 1)) (G p)) := ⟨_, rfl⟩
                have HBQ := Lib.hid hBQ
                have HG := Lib.hid hG
                have hpn : p < n ∧ s - 1 < n := by omega
                obtain ⟨hpn1, hpn2⟩ := hpn
                clear hBQ hG
                go_upto_region 17 with fail
                go_cut [87] from 19 to 133 (fun t87 wx => t87 = .bool BQ ∧ ∃ nq, wx = wc.drewN nq)
                case first =>
                  by_cases hs0 : 0 < s
                  · have e7 : (0 : Int) < (s : Int) := by omega
                    go_quiet (first | (go_at_call 54; refine Calls.quiet_of_same (less_any _ _ _)) | fail)
                    go_wp2_with fail
                    go_meet
                    exact ⟨by rw [HBQ.out]; simp [hs0], nq, rfl⟩
                  · have e7 : ¬ (0 : Int) < (s : Int) := by omega
                    go_quiet (first | (go_at_call 54; refine Calls.quiet_of_same (less_any _ _ _)) | fail)
                    go_wp2_with fail
                    go_meet
                    exact ⟨by rw [HBQ.out]; simp [hs0], nq, rfl⟩
                case rest =>
                  obtain ⟨rfl, nq, rfl⟩ := hcut
                  have HQ5 := Lib.hid (HQ4.out.drewN nq)
                  clear hcw hfw HQ4
                  generalize wc.drewN nq = w5 at *
                  cases hb9 : BQ with
                  | true =>
                    have hE : 0 < s ∧ ltInt g[s - 1]! g[p]! = false := by have := HBQ.out; rw [hb9, HG.out, HG.out] at this; simpa using this.symm
                    have HE := Lib.hid hE
                    have HC := partEq_any w5 blk off cap g s t p HQ5.out.ro.hold HQ5.out.lt ⟨hp1, hp2⟩ (by rw [HQ5.out.sz]; exact htn) (by rw [HQ5.out.sz]; exact hsz)
                    rw [HQ5.out.sz] at HC
                    have HC := Lib.hid HC
                    clear hE HBQ
                    go_wp2_with fail
                    refine (HC.out).mono ?_
                    rintro e0 w6 ⟨mid, g2, rfl, hm1, hm2, hmv, hle, hgt⟩
                    have HQ6 : Hid (Pq w w6 blk off n a b d mid t g2) := ⟨by rw [hmv.2.1]; exact HQ5.out.sz, HQ5.out.lft.eq HE.out.1 ⟨hp1, hp2⟩ (by rw [HQ5.out.sz]; exact htn) ⟨hm1, hm2⟩ HE.out.2 hmv.2 hle hgt, HQ5.out.ro.trans hmv.1 hmv.2.1⟩
                    clear hmv hle hgt HE HC
                    go_wp2_with fail
                    go_roundw
                    case rel => exact ⟨mid, t, lim1, wb, wp, g2, rfl, rfl, rfl, rfl, rfl, by omega, hm2, htb, hlim1, HQ6.out⟩
                    case measure => simp [intOf]; omega
                  | false =>
                    have HC := part_any w5 blk off cap g s t p HQ5.out.ro.hold HQ5.out.lt ⟨hp1, hp2⟩ (by rw [HQ5.out.sz]; exact htn) (by rw [HQ5.out.sz]; exact hsz)
                    rw [HQ5.out.sz] at HC
                    have HC := Lib.hid HC
                    clear HBQ
                    go_wp2_with fail
                    refine (HC.out).mono ?_
                    rintro e0 w6 ⟨mid, ap, g2, rfl, hm1, hm2, hmv, hlo, hhi⟩
                    have HL6 := Lib.hid (HQ5.out.lft.left (by rw [HQ5.out.sz]; exact htn) ⟨hm1, hm2⟩ hmv.2 hlo hhi)
                    have HR6 := Lib.hid (HQ5.out.lft.right (by rw [HQ5.out.sz]; exact htn) ⟨hm1, hm2⟩ hmv.2 hlo hhi)
                    have HS6 : Hid (g2.size = n) := by show _ = _; rw [hmv.2.1]; exact HQ5.out.sz
                    have HO6 := Lib.hid (HQ5.out.ro.trans hmv.1 hmv.2.1)
                    have hl6 : blk < w6.heap.size := Nat.lt_of_lt_of_le HO6.out.lt HO6.out.size
                    have HL6' := Lib.hid hl6
                    have HD : Hid (Holds encU w6 blk off g2) := HO6.out.hold
                    clear hmv hlo hhi HC hl6
                    obtain ⟨c1, hc1⟩ : ∃ c, c = mid - s := ⟨_, rfl⟩
                    obtain ⟨c2, hc2⟩ : ∃ c, c = t - mid := ⟨_, rfl⟩
                    obtain ⟨q8, hq8⟩ : ∃ c, c = l / 8 := ⟨_, rfl⟩
                    have e8 : (mid : Int) - (s : Int) = (c1 : Int) := by omega
                    have e9 : (t : Int) - (mid : Int) = (c2 : Int) := by omega
                    have e10 : (l : Int).tdiv 8 = (q8 : Int) := by rw [Int.tdiv_eq_ediv_of_nonneg (by omega)]; omega
                    have hcb : c1 ≤ n ∧ c2 ≤ n ∧ q8 ≤ n ∧ mid < n := by omega
                    obtain ⟨hcb1, hcb2, hcb3, hcb4⟩ := hcb
                    have hm8 : mid - s < m ∧ t - (mid + 1) < m := by have := HM.out; omega
                    have HM8 := Lib.hid hm8
                    clear hc1 hc2 hq8 hm8
                    by_cases hcc : c1 < c2
                    · have e11 : (c1 : Int) < (c2 : Int) := by omega
                      have HC := HIH.out w6 g2 s mid lim1 HM8.out.1 HD.out HL6'.out hm1 (by rw [HS6.out]; omega) (by rw [HS6.out]; exact hsz) HL6.out.1 hlim1
                      rw [HS6.out] at HC
                      have HC := Lib.hid HC
                      go_wp2_with fail
                      refine (HC.out).mono ?_
                      rintro e0 w7 ⟨rfl, g3, hmv, hs⟩
                      have HQ7 : Hid (Pq w w7 blk off n a b d (mid + 1) t g3) := ⟨by rw [hmv.2.1]; exact HS6.out, HL6.out.2 g3 hmv.2 hs, HO6.out.trans hmv.1 hmv.2.1⟩
                      clear hmv hs HC
                      go_wp2_with fail
                      go_roundw
                      case rel => exact ⟨mid + 1, t, lim1, _, ap, g3, by go_num, rfl, rfl, rfl, rfl, by omega, by omega, htb, hlim1, HQ7.out⟩
                      case measure => simp [intOf]; omega
                    · have e11 : ¬ (c1 : Int) < (c2 : Int) := by omega
                      have HC := HIH.out w6 g2 (mid + 1) t lim1 HM8.out.2 HD.out HL6'.out (by omega) (by rw [HS6.out]; omega) (by rw [HS6.out]; exact hsz) HR6.out.1 hlim1
                      rw [HS6.out, show ((mid + 1 : Nat) : Int) = (mid : Int) + 1 from by omega] at HC
                      have HC := Lib.hid HC
                      go_wp2_with fail
                      refine (HC.out).mono ?_
                      rintro e0 w7 ⟨rfl, g3, hmv, hs⟩
                      have HQ7 : Hid (Pq w w7 blk off n a b d s mid g3) := ⟨by rw [hmv.2.1]; exact HS6.out, HR6.out.2 g3 hmv.2 hs, HO6.out.trans hmv.1 hmv.2.1⟩
                      clear hmv hs HC
                      go_wp2_with fail
                      go_roundw
                      case rel => exact ⟨s, mid, lim1, _, ap, g3, rfl, rfl, rfl, rfl, rfl, has, hm1, by omega, hlim1, HQ7.out⟩
                      case measure => simp [intOf]; omega
end

end Go.Proofs.Ytdfmgfclcbeeiaa
