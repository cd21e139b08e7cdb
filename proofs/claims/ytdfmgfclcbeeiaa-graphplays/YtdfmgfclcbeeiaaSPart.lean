/-
  The contracts of the sort's partitions.
-/
import Derived.Test.YtdfmgfclcbeeiaaSHeap
import Derived.Deep.CutRange
namespace Go.Proofs.Ytdfmgfclcbeeiaa
open Go.RowKit Go.Sort
set_option linter.unusedSimpArgs false
set_option linter.unusedVariables false
/-- between a and b: the pivot v at a; what is left, up to i; what isn't, behind j -/
structure Pt (p : Int → Bool) (v : Int) (a b i j : Nat) (d dk : Array Int) : Prop where
  ai : a < i
  ij : i ≤ j + 1
  jb : j < b
  piv : dk[a]! = v
  perm : PermIn a b d dk
  L : ∀ t, a < t → t < i → p dk[t]! = true
  R : ∀ t, j < t → t < b → p dk[t]! = false
section
variable {p : Int → Bool} {v : Int} {a b i j : Nat} {d dk : Array Int}
theorem Pt.up (h : Pt p v a b i j d dk) (hij : i ≤ j) (hp : p dk[i]! = true) : Pt p v a b (i + 1) j d dk :=
  ⟨by have := h.ai; omega, by omega, h.jb, h.piv, h.perm, fun t h1 h2 => by
    by_cases e : t = i
    · rw [e]; exact hp
    · exact h.L t h1 (by omega), h.R⟩
theorem Pt.down (h : Pt p v a b i j d dk) (hij : i ≤ j) (hp : p dk[j]! = false) : Pt p v a b i (j - 1) d dk :=
  ⟨h.ai, by have := h.ai; omega, by have := h.jb; omega, h.piv, h.perm, h.L, fun t h1 h2 => by
    by_cases e : t = j
    · rw [e]; exact hp
    · exact h.R t (by omega) h2⟩
theorem Pt.swap (h : Pt p v a b i j d dk) (hij : i < j) (hb : b ≤ d.size) (hi : p dk[i]! = false) (hj : p dk[j]! = true) : Pt p v a b (i + 1) (j - 1) d (swp dk i j) := by
  have hs := permIn_size h.perm
  have h1 := h.ai
  have h2 := h.jb
  have g := swp_get dk (i := i) (j := j) (by omega) (by omega)
  refine ⟨by omega, by omega, by omega, ?_, permIn_trans _ _ _ _ _ h.perm (swp_permIn dk a b i j (by omega) (by omega) (by omega) (by omega) (by omega)), fun t k1 k2 => ?_, fun t k1 k2 => ?_⟩
  · rw [g, if_neg (by omega), if_neg (by omega)]
    exact h.piv
  · rw [g]
    by_cases e1 : t = j
    · omega
    · rw [if_neg e1]
      by_cases e2 : t = i
      · rw [if_pos e2]; exact hj
      · rw [if_neg e2]; exact h.L t k1 (by omega)
  · rw [g]
    by_cases e1 : t = j
    · rw [if_pos e1]; exact hi
    · rw [if_neg e1]
      by_cases e2 : t = i
      · omega
      · rw [if_neg e2]; exact h.R t (by omega) k2
theorem Pt.le (h : Pt p v a b i j d dk) : a ≤ j := by have := h.ai; have := h.ij; omega
/-- the pivot goes to its place -/
theorem Pt.close (h : Pt (fun x => ltInt x v) v a b i j d dk) (hij : ¬ i ≤ j) (hb : b ≤ d.size) : PermIn a b d (swp dk j a) ∧ (∀ t, a ≤ t → t < j → ltInt (swp dk j a)[t]! (swp dk j a)[j]! = true) ∧ ∀ t, j < t → t < b → ltInt (swp dk j a)[t]! (swp dk j a)[j]! = false := by
  have hs := permIn_size h.perm
  have h1 := h.ai
  have h2 := h.jb
  have h3 := h.ij
  have h4 := h.le
  have g := swp_get dk (i := j) (j := a) (by omega) (by omega)
  have hj : (swp dk j a)[j]! = v := by
    rw [g]
    by_cases e : j = a
    · rw [if_pos e, e]; exact h.piv
    · rw [if_neg e, if_pos rfl]; exact h.piv
  refine ⟨permIn_trans _ _ _ _ _ h.perm (swp_permIn dk a b j a (by omega) (by omega) (by omega) (by omega) (by omega)), fun t k1 k2 => ?_, fun t k1 k2 => ?_⟩
  · rw [hj, g]
    by_cases e1 : t = a
    · rw [if_pos e1]; exact h.L j (by omega) (by omega)
    · rw [if_neg e1, if_neg (by omega)]; exact h.L t (by omega) (by omega)
  · rw [hj, g, if_neg (by omega), if_neg (by omega)]
    exact h.R t k1 k2
theorem Pt.start (p : Int → Bool) {pv : Nat} (hp : a ≤ pv ∧ pv < b) (hb : b ≤ d.size) : Pt p d[pv]! a b (a + 1) (b - 1) d (swp d a pv) := by
  have g := swp_get d (i := a) (j := pv) (by omega) (by omega)
  refine ⟨by omega, by omega, by omega, ?_, swp_permIn d a b a pv (by omega) (by omega) hp.1 hp.2 hb, fun t h1 h2 => by omega, fun t h1 h2 => by omega⟩
  rw [g]
  by_cases e : a = pv
  · rw [if_pos e, e]
  · rw [if_neg e, if_pos rfl]
end
section
variable (w : World) (blk off cap : Nat) (d : Array Int) (a b pv : Nat)
set_option maxRecDepth 100000 in
set_option maxHeartbeats 4000000 in
theorem part_any (h : Holds encU w blk off d) (hblk : blk < w.heap.size) (hp : a ≤ pv ∧ pv < b) (hb : b ≤ d.size) (hsz : d.size < 4611686018427387904) :
    Calls Try.prog 56 #[.slice (some ⟨blk, off, none⟩) d.size cap, .int .i64 a, .int .i64 b, .int .i64 pv] w fun e w' => ∃ (mid : Nat) (ap : Bool) (d' : Array Int), e = .returned (.tuple #[.int .i64 mid, .bool ap]) ∧ a ≤ mid ∧ mid < b ∧ Moved w blk off a b d d' w' ∧ (∀ t, a ≤ t → t < mid → ltInt d'[t]! d'[mid]! = true) ∧ ∀ t, mid < t → t < b → ltInt d'[t]! d'[mid]! = false := by
  have hs0 : d.size = d.size := rfl
  obtain ⟨n, hn⟩ : ∃ n, n = d.size := ⟨_, rfl⟩
  obtain ⟨v, hv⟩ : ∃ v, v = d[pv]! := ⟨_, rfl⟩
  obtain ⟨jj, hjb0⟩ : ∃ jj, jj = b - 1 := ⟨_, rfl⟩
  have e0 : (b : Int) - 1 = (jj : Int) := by omega
  have hR := Ro.start h hblk
  obtain ⟨G, hG, hcw, hfw⟩ := hR.fam
  rw [← hn] at hcw hfw hsz hb ⊢
  have hpn : pv < n ∧ a < n := by omega
  obtain ⟨hpn1, hpn2⟩ := hpn
  obtain ⟨z, ⟨q1, q2⟩, q3, q4⟩ := hR.cell2 (i := a) (j := pv) (x := G pv) (by omega) (by omega)
  obtain ⟨wq, hwq⟩ : ∃ y, y = ((w.setCell ⟨blk, off + a, none⟩ (.int .u64 (G pv))).setCell ⟨blk, off + pv, none⟩ (.int .u64 (G a))).drewN 1 := ⟨_, rfl⟩
  have hRq : Ro w wq blk off (swp d a pv) := by
    rw [hwq]
    exact Ro.swp 1 hR (by omega) (by omega) (by rw [hG]; rfl) (by rw [hG]; rfl)
  have hPt := Pt.start (d := d) (fun x => ltInt x v) hp (by omega)
  rw [← hv, ← hjb0] at hPt
  obtain ⟨d1, hd1⟩ : ∃ y, y = swp d a pv := ⟨_, rfl⟩
  rw [← hd1] at hRq hPt
  have HSZ : Hid (d1.size = n) := by show _ = _; rw [hd1, swp_sz, hn]
  have HN : Hid (d.size = n) := hn.symm
  have HPT0 := Lib.hid hPt
  have HR0 := Lib.hid hRq
  have HWQ := Lib.hid hwq
  have HV := Lib.hid hv
  have hp1 := hp.1
  have hp2 := hp.2
  clear hs0 hn hv hjb0 hR hG hRq hPt hd1 hwq hp h
  go_enter Try.func56, Try.ntmps56
  go_wp2_with fail
  go_region
  all_goals go_wp2_with fail
  rw [show ((w.setCell ⟨blk, off + a, none⟩ (.int .u64 (G pv))).setCell ⟨blk, off + pv, none⟩ (.int .u64 (G a))).drew = wq from HWQ.out.symm]
  clear hcw hfw q1 q2 q3 q4 HWQ
  go_loopw [10] (fun s wr => ∃ i : Nat, s = .int .i64 (i : Int) ∧ a + 1 ≤ i ∧ Pt (fun x => ltInt x v) v a b i jj d d1 ∧ Ro w wr blk off d1) (fun s _ => b + 1 - (intOf s).toNat)
  case atStart => exact ⟨a + 1, by go_num, Nat.le_refl _, HPT0.out, HR0.out⟩
  case round =>
    obtain ⟨i, rfl, hlow, hPt, hR⟩ := hrel
    obtain ⟨G, hG, hcw, hfw⟩ := hR.fam
    rw [HSZ.out] at hcw hfw
    have HPT := Lib.hid hPt
    have HR := Lib.hid hR
    have HG := Lib.hid hG
    have hai := hPt.ai
    have hjb := hPt.jb
    have hiJ := hPt.ij
    clear hPt hR hG
    obtain ⟨BB, hBB⟩ : ∃ B : Bool, B = (decide (i ≤ jj) && ltInt (G i) (G a)) := ⟨_, rfl⟩
    have HBB := Lib.hid hBB
    clear hBB
    go_upto_region 3 with fail
    go_cut [43] from 30 to 45 (fun t wx => t = .bool BB ∧ ∃ nq, wx = wr.drewN nq)
    case first =>
      by_cases hij : i ≤ jj
      · go_quiet (first | (go_at_call 54; refine Calls.quiet_of_same (less_any _ _ _)) | fail)
        go_wp2_with fail
        go_meet
        exact ⟨by rw [HBB.out]; simp [hij], nq, rfl⟩
      · go_quiet (first | (go_at_call 54; refine Calls.quiet_of_same (less_any _ _ _)) | fail)
        go_wp2_with fail
        go_meet
        exact ⟨by rw [HBB.out]; simp [hij], nq, rfl⟩
    case rest =>
      obtain ⟨rfl, nq, rfl⟩ := hcut
      cases hb9 : BB with
      | true =>
        have hE : i ≤ jj ∧ ltInt (G i) (G a) = true := by have := HBB.out; rw [hb9] at this; simpa using this.symm
        obtain ⟨hij, hL⟩ := hE
        have HNX := Lib.hid (HPT.out.up hij (by have h := hL; rw [HG.out, HG.out, HPT.out.piv] at h; simpa using h))
        clear hL
        go_wp2_with fail
        go_roundw
        case rel => exact ⟨i + 1, by go_num, by omega, HNX.out, HR.out.drewN nq⟩
        case measure => simp [intOf]; omega
      | false =>
        have HXF : Hid (i ≤ jj → (fun x => ltInt x v) d1[i]! = false) := fun hij => by
          have hL : ltInt (G i) (G a) = false := by have := HBB.out; rw [hb9] at this; simpa [hij] using this.symm
          have h := hL; rw [HG.out, HG.out, HPT.out.piv] at h; simpa using h
        have HR2 := Lib.hid (HR.out.drewN nq)
        generalize wr.drewN nq = wr2 at *
        clear hcw hfw
        have HPT2 := Lib.hid HPT.out
        clear HPT HG HBB
        go_wp2_with fail
        go_loopw [11] (fun s wr => ∃ j : Nat, s = .int .i64 (j : Int) ∧ j ≤ jj ∧ Pt (fun x => ltInt x v) v a b i j d d1 ∧ Ro w wr blk off d1) (fun s _ => (intOf s).toNat)
        case atStart => exact ⟨jj, rfl, Nat.le_refl _, HPT2.out, HR2.out⟩
        case round =>
          obtain ⟨j, rfl, hjj, hPt, hR⟩ := hrel
          obtain ⟨G, hG, hcw, hfw⟩ := hR.fam
          rw [HSZ.out] at hcw hfw
          have HPT := Lib.hid hPt
          have HR := Lib.hid hR
          have HG := Lib.hid hG
          have hjb2 := hPt.jb
          have hiJ2 := hPt.ij
          have hajL := hPt.le
          clear hPt hR hG
          obtain ⟨BC, hBC⟩ : ∃ B : Bool, B = (decide (i ≤ j) && (!ltInt (G j) (G a))) := ⟨_, rfl⟩
          have HBC := Lib.hid hBC
          clear hBC
          go_upto_region 5 with fail
          go_cut [60] from 46 to 62 (fun t wx => t = .bool BC ∧ ∃ nq, wx = wr.drewN nq)
          case first =>
            by_cases hij : i ≤ j
            · go_quiet (first | (go_at_call 54; refine Calls.quiet_of_same (less_any _ _ _)) | fail)
              go_wp2_with fail
              go_meet
              exact ⟨by rw [HBC.out]; simp [hij], nq, rfl⟩
            · go_quiet (first | (go_at_call 54; refine Calls.quiet_of_same (less_any _ _ _)) | fail)
              go_wp2_with fail
              go_meet
              exact ⟨by rw [HBC.out]; simp [hij], nq, rfl⟩
          case rest =>
            obtain ⟨rfl, nq, rfl⟩ := hcut
            cases hb8 : BC with
            | true =>
              have hE : i ≤ j ∧ ltInt (G j) (G a) = false := by have := HBC.out; rw [hb8] at this; simpa using this.symm
              obtain ⟨hij, hL⟩ := hE
              have HNX := Lib.hid (HPT.out.down hij (by have h := hL; rw [HG.out, HG.out, HPT.out.piv] at h; simpa using h))
              have e1 : (j : Int) - 1 = ((j - 1 : Nat) : Int) := by omega
              clear hL
              go_wp2_with fail
              go_roundw
              case rel => exact ⟨j - 1, by congr 1 <;> omega, by omega, HNX.out, HR.out.drewN nq⟩
              case measure => simp [intOf]; omega
            | false =>
              have HR3 := Lib.hid (HR.out.drewN nq)
              have hcw3 : ∀ t, t < n → (wr.drewN nq).cell? ⟨blk, off + t, none⟩ = some (.int .u64 (G t)) := hcw
              have hfw3 : ∀ t, t < n → (wr.drewN nq).frozen? ⟨blk, off + t, none⟩ = false := hfw
              generalize wr.drewN nq = wr3 at *
              clear hcw hfw nq
              by_cases hij : i ≤ j
              · have HJT := Lib.hid (show (fun x => ltInt x v) d1[j]! = true from by
                  have hL : ltInt (G j) (G a) = true := by have := HBC.out; rw [hb8] at this; simpa [hij] using this.symm
                  have h := hL; rw [HG.out, HG.out, HPT.out.piv] at h; simpa using h)
                have HIF : Hid ((fun x => ltInt x v) d1[i]! = false) := HXF.out (by omega)
                have hlt : i < j := by
                  rcases Nat.lt_or_ge i j with h | h
                  · exact h
                  · have e : i = j := by omega
                    have h1 := HJT.out
                    have h2 := HIF.out
                    rw [e] at h2
                    rw [h1] at h2
                    cases h2
                have HSW : Hid (Ro w (((wr3.setCell ⟨blk, off + i, none⟩ (.int .u64 (G j))).setCell ⟨blk, off + j, none⟩ (.int .u64 (G i))).drewN 1) blk off (swp d1 i j)) := Ro.swp 1 HR3.out (by rw [HSZ.out]; omega) (by rw [HSZ.out]; omega) (by rw [HG.out]; rfl) (by rw [HG.out]; rfl)
                have HPS := Lib.hid (HPT.out.swap hlt (by rw [HN.out]; omega) HIF.out HJT.out)
                have hne : i ≠ j := by omega
                go_wp2_with fail
                go_region
                all_goals go_wp2_with fail
                have HSZ2 : Hid ((swp d1 i j).size = n) := by show _ = _; rw [swp_sz]; exact HSZ.out
                clear HSZ HPT0 HR0
                go_loopw [10, 11] (fun si sj wr => ∃ (i j : Nat) (dk : Array Int), si = .int .i64 (i : Int) ∧ sj = .int .i64 (j : Int) ∧ dk.size = n ∧ Pt (fun x => ltInt x v) v a b i j d dk ∧ Ro w wr blk off dk) (fun si sj _ => (intOf sj + 1 - intOf si).toNat)
                case atStart => exact ⟨i + 1, j - 1, _, by go_num, by congr 1 <;> omega, HSZ2.out, HPS.out, HSW.out⟩
                case round =>
                  obtain ⟨i0, jj, dk, rfl, rfl, hsz9, hPt9, hR9⟩ := hrel
                  have HSZ := Lib.hid hsz9
                  have HPT0 := Lib.hid hPt9
                  have HR0 := Lib.hid hR9
                  have hai0 := hPt9.ai
                  have hjb0 := hPt9.jb
                  have hiJ0 := hPt9.ij
                  clear hsz9 hPt9 hR9
                  go_wp2_with fail
                  go_loopw [10] (fun s wr => ∃ i : Nat, s = .int .i64 (i : Int) ∧ i0 ≤ i ∧ Pt (fun x => ltInt x v) v a b i jj d dk ∧ Ro w wr blk off dk) (fun s _ => b + 1 - (intOf s).toNat)
                  case atStart => exact ⟨i0, by go_num, Nat.le_refl _, HPT0.out, HR0.out⟩
                  case round =>
                    obtain ⟨i, rfl, hlow, hPt, hR⟩ := hrel
                    obtain ⟨G, hG, hcw, hfw⟩ := hR.fam
                    rw [HSZ.out] at hcw hfw
                    have HPT := Lib.hid hPt
                    have HR := Lib.hid hR
                    have HG := Lib.hid hG
                    have hai := hPt.ai
                    have hjb := hPt.jb
                    have hiJ := hPt.ij
                    clear hPt hR hG
                    obtain ⟨BB, hBB⟩ : ∃ B : Bool, B = (decide (i ≤ jj) && ltInt (G i) (G a)) := ⟨_, rfl⟩
                    have HBB := Lib.hid hBB
                    clear hBB
                    go_upto_region 13 with fail
                    go_cut [112] from 99 to 114 (fun t wx => t = .bool BB ∧ ∃ nq, wx = wr.drewN nq)
                    case first =>
                      by_cases hij : i ≤ jj
                      · go_quiet (first | (go_at_call 54; refine Calls.quiet_of_same (less_any _ _ _)) | fail)
                        go_wp2_with fail
                        go_meet
                        exact ⟨by rw [HBB.out]; simp [hij], nq, rfl⟩
                      · go_quiet (first | (go_at_call 54; refine Calls.quiet_of_same (less_any _ _ _)) | fail)
                        go_wp2_with fail
                        go_meet
                        exact ⟨by rw [HBB.out]; simp [hij], nq, rfl⟩
                    case rest =>
                      obtain ⟨rfl, nq, rfl⟩ := hcut
                      cases hb9 : BB with
                      | true =>
                        have hE : i ≤ jj ∧ ltInt (G i) (G a) = true := by have := HBB.out; rw [hb9] at this; simpa using this.symm
                        obtain ⟨hij, hL⟩ := hE
                        have HNX := Lib.hid (HPT.out.up hij (by have h := hL; rw [HG.out, HG.out, HPT.out.piv] at h; simpa using h))
                        clear hL
                        go_wp2_with fail
                        go_roundw
                        case rel => exact ⟨i + 1, by go_num, by omega, HNX.out, HR.out.drewN nq⟩
                        case measure => simp [intOf]; omega
                      | false =>
                        have HXF : Hid (i ≤ jj → (fun x => ltInt x v) dk[i]! = false) := fun hij => by
                          have hL : ltInt (G i) (G a) = false := by have := HBB.out; rw [hb9] at this; simpa [hij] using this.symm
                          have h := hL; rw [HG.out, HG.out, HPT.out.piv] at h; simpa using h
                        have HR2 := Lib.hid (HR.out.drewN nq)
                        generalize wr.drewN nq = wr2 at *
                        clear hcw hfw
                        have HPT2 := Lib.hid HPT.out
                        clear HPT HG HBB
                        go_wp2_with fail
                        go_loopw [11] (fun s wr => ∃ j : Nat, s = .int .i64 (j : Int) ∧ j ≤ jj ∧ Pt (fun x => ltInt x v) v a b i j d dk ∧ Ro w wr blk off dk) (fun s _ => (intOf s).toNat)
                        case atStart => exact ⟨jj, rfl, Nat.le_refl _, HPT2.out, HR2.out⟩
                        case round =>
                          obtain ⟨j, rfl, hjj, hPt, hR⟩ := hrel
                          obtain ⟨G, hG, hcw, hfw⟩ := hR.fam
                          rw [HSZ.out] at hcw hfw
                          have HPT := Lib.hid hPt
                          have HR := Lib.hid hR
                          have HG := Lib.hid hG
                          have hjb2 := hPt.jb
                          have hiJ2 := hPt.ij
                          have hajL := hPt.le
                          clear hPt hR hG
                          obtain ⟨BC, hBC⟩ : ∃ B : Bool, B = (decide (i ≤ j) && (!ltInt (G j) (G a))) := ⟨_, rfl⟩
                          have HBC := Lib.hid hBC
                          clear hBC
                          go_upto_region 15 with fail
                          go_cut [129] from 115 to 131 (fun t wx => t = .bool BC ∧ ∃ nq, wx = wr.drewN nq)
                          case first =>
                            by_cases hij : i ≤ j
                            · go_quiet (first | (go_at_call 54; refine Calls.quiet_of_same (less_any _ _ _)) | fail)
                              go_wp2_with fail
                              go_meet
                              exact ⟨by rw [HBC.out]; simp [hij], nq, rfl⟩
                            · go_quiet (first | (go_at_call 54; refine Calls.quiet_of_same (less_any _ _ _)) | fail)
                              go_wp2_with fail
                              go_meet
                              exact ⟨by rw [HBC.out]; simp [hij], nq, rfl⟩
                          case rest =>
                            obtain ⟨rfl, nq, rfl⟩ := hcut
                            cases hb8 : BC with
                            | true =>
                              have hE : i ≤ j ∧ ltInt (G j) (G a) = false := by have := HBC.out; rw [hb8] at this; simpa using this.symm
                              obtain ⟨hij, hL⟩ := hE
                              have HNX := Lib.hid (HPT.out.down hij (by have h := hL; rw [HG.out, HG.out, HPT.out.piv] at h; simpa using h))
                              have e1 : (j : Int) - 1 = ((j - 1 : Nat) : Int) := by omega
                              clear hL
                              go_wp2_with fail
                              go_roundw
                              case rel => exact ⟨j - 1, by congr 1 <;> omega, by omega, HNX.out, HR.out.drewN nq⟩
                              case measure => simp [intOf]; omega
                            | false =>
                              have HR3 := Lib.hid (HR.out.drewN nq)
                              have hcw3 : ∀ t, t < n → (wr.drewN nq).cell? ⟨blk, off + t, none⟩ = some (.int .u64 (G t)) := hcw
                              have hfw3 : ∀ t, t < n → (wr.drewN nq).frozen? ⟨blk, off + t, none⟩ = false := hfw
                              generalize wr.drewN nq = wr3 at *
                              clear hcw hfw nq
                              by_cases hij : i ≤ j
                              · have HJT := Lib.hid (show (fun x => ltInt x v) dk[j]! = true from by
                                  have hL : ltInt (G j) (G a) = true := by have := HBC.out; rw [hb8] at this; simpa [hij] using this.symm
                                  have h := hL; rw [HG.out, HG.out, HPT.out.piv] at h; simpa using h)
                                have HIF : Hid ((fun x => ltInt x v) dk[i]! = false) := HXF.out (by omega)
                                have hlt : i < j := by
                                  rcases Nat.lt_or_ge i j with h | h
                                  · exact h
                                  · have e : i = j := by omega
                                    have h1 := HJT.out
                                    have h2 := HIF.out
                                    rw [e] at h2
                                    rw [h1] at h2
                                    cases h2
                                have HSW : Hid (Ro w (((wr3.setCell ⟨blk, off + i, none⟩ (.int .u64 (G j))).setCell ⟨blk, off + j, none⟩ (.int .u64 (G i))).drewN 1) blk off (swp dk i j)) := Ro.swp 1 HR3.out (by rw [HSZ.out]; omega) (by rw [HSZ.out]; omega) (by rw [HG.out]; rfl) (by rw [HG.out]; rfl)
                                have HPS := Lib.hid (HPT.out.swap hlt (by rw [HN.out]; omega) HIF.out HJT.out)
                                have hne : i ≠ j := by omega
                                go_wp2_with fail
                                go_region
                                all_goals go_wp2_with fail
                                go_roundw
                                case rel => exact ⟨i + 1, j - 1, _, by go_num, by congr 1 <;> omega, by rw [swp_sz]; exact HSZ.out, HPS.out, HSW.out⟩
                                case measure => simp [intOf]; omega
                              · obtain ⟨z, ⟨q1, q2⟩, q3, q4⟩ := HR3.out.cell2 (i := j) (j := a) (x := G a) (by rw [HSZ.out]; omega) (by rw [HSZ.out]; omega)
                                have HSW : Hid (Ro w (((wr3.setCell ⟨blk, off + j, none⟩ (.int .u64 (G a))).setCell ⟨blk, off + a, none⟩ (.int .u64 (G j))).drewN 1) blk off (swp dk j a)) := Ro.swp 1 HR3.out (by rw [HSZ.out]; omega) (by rw [HSZ.out]; omega) (by rw [HG.out]; rfl) (by rw [HG.out]; rfl)
                                have HCL := Lib.hid (HPT.out.close hij (by rw [HN.out]; omega))
                                go_wp2_with fail
                                go_region
                                all_goals go_wp2_with fail
                                go_ret2
                                exact ⟨j, false, _, rfl, hajL, hjb2, ⟨HSW.out, HCL.out.1⟩, HCL.out.2.1, HCL.out.2.2⟩
              · obtain ⟨z, ⟨q1, q2⟩, q3, q4⟩ := HR3.out.cell2 (i := j) (j := a) (x := G a) (by rw [HSZ.out]; omega) (by rw [HSZ.out]; omega)
                have HSW : Hid (Ro w (((wr3.setCell ⟨blk, off + j, none⟩ (.int .u64 (G a))).setCell ⟨blk, off + a, none⟩ (.int .u64 (G j))).drewN 1) blk off (swp d1 j a)) := Ro.swp 1 HR3.out (by rw [HSZ.out]; omega) (by rw [HSZ.out]; omega) (by rw [HG.out]; rfl) (by rw [HG.out]; rfl)
                have HCL := Lib.hid (HPT.out.close hij (by rw [HN.out]; omega))
                go_wp2_with fail
                go_region
                all_goals go_wp2_with fail
                go_ret2
                exact ⟨j, true, _, rfl, hajL, hjb2, ⟨HSW.out, HCL.out.1⟩, HCL.out.2.1, HCL.out.2.2⟩
set_option maxRecDepth 100000 in
set_option maxHeartbeats 4000000 in
theorem partEq_any (h : Holds encU w blk off d) (hblk : blk < w.heap.size) (hp : a ≤ pv ∧ pv < b) (hb : b ≤ d.size) (hsz : d.size < 4611686018427387904) :
    Calls Try.prog 55 #[.slice (some ⟨blk, off, none⟩) d.size cap, .int .i64 a, .int .i64 b, .int .i64 pv] w fun e w' => ∃ (mid : Nat) (d' : Array Int), e = .returned (.int .i64 mid) ∧ a < mid ∧ mid ≤ b ∧ Moved w blk off a b d d' w' ∧ (∀ t, a ≤ t → t < mid → ltInt d[pv]! d'[t]! = false) ∧ ∀ t, mid ≤ t → t < b → ltInt d[pv]! d'[t]! = true := by
  have hs0 : d.size = d.size := rfl
  obtain ⟨n, hn⟩ : ∃ n, n = d.size := ⟨_, rfl⟩
  obtain ⟨v, hv⟩ : ∃ v, v = d[pv]! := ⟨_, rfl⟩
  obtain ⟨jj, hjb0⟩ : ∃ jj, jj = b - 1 := ⟨_, rfl⟩
  have e0 : (b : Int) - 1 = (jj : Int) := by omega
  have hR := Ro.start h hblk
  obtain ⟨G, hG, hcw, hfw⟩ := hR.fam
  rw [← hn] at hcw hfw hsz hb ⊢
  have hpn : pv < n ∧ a < n := by omega
  obtain ⟨hpn1, hpn2⟩ := hpn
  obtain ⟨z, ⟨q1, q2⟩, q3, q4⟩ := hR.cell2 (i := a) (j := pv) (x := G pv) (by omega) (by omega)
  obtain ⟨wq, hwq⟩ : ∃ y, y = ((w.setCell ⟨blk, off + a, none⟩ (.int .u64 (G pv))).setCell ⟨blk, off + pv, none⟩ (.int .u64 (G a))).drewN 1 := ⟨_, rfl⟩
  have hRq : Ro w wq blk off (swp d a pv) := by
    rw [hwq]
    exact Ro.swp 1 hR (by omega) (by omega) (by rw [hG]; rfl) (by rw [hG]; rfl)
  have hPt := Pt.start (d := d) (fun x => !ltInt v x) hp (by omega)
  rw [← hv, ← hjb0] at hPt
  obtain ⟨d1, hd1⟩ : ∃ y, y = swp d a pv := ⟨_, rfl⟩
  rw [← hd1] at hRq hPt
  have HSZ : Hid (d1.size = n) := by show _ = _; rw [hd1, swp_sz, hn]
  have HN : Hid (d.size = n) := hn.symm
  have HPT0 := Lib.hid hPt
  have HR0 := Lib.hid hRq
  have HWQ := Lib.hid hwq
  have HV := Lib.hid hv
  have hp1 := hp.1
  have hp2 := hp.2
  clear hs0 hn hv hjb0 hR hG hRq hPt hd1 hwq hp h
  go_enter Try.func55, Try.ntmps55
  go_wp2_with fail
  go_region
  all_goals go_wp2_with fail
  rw [show ((w.setCell ⟨blk, off + a, none⟩ (.int .u64 (G pv))).setCell ⟨blk, off + pv, none⟩ (.int .u64 (G a))).drew = wq from HWQ.out.symm]
  clear hcw hfw q1 q2 q3 q4 HWQ
  go_loopw [9, 10] (fun si sj wr => ∃ (i j : Nat) (dk : Array Int), si = .int .i64 (i : Int) ∧ sj = .int .i64 (j : Int) ∧ dk.size = n ∧ Pt (fun x => !ltInt v x) v a b i j d dk ∧ Ro w wr blk off dk) (fun si sj _ => (intOf sj + 1 - intOf si).toNat)
  case atStart => exact ⟨a + 1, jj, d1, by go_num, rfl, HSZ.out, HPT0.out, HR0.out⟩
  case round =>
    obtain ⟨i0, jj, dk, rfl, rfl, hsz9, hPt9, hR9⟩ := hrel
    have HSZ := Lib.hid hsz9
    have HPT0 := Lib.hid hPt9
    have HR0 := Lib.hid hR9
    have hai0 := hPt9.ai
    have hjb0 := hPt9.jb
    have hiJ0 := hPt9.ij
    clear hsz9 hPt9 hR9
    go_wp2_with fail
    go_loopw [9] (fun s wr => ∃ i : Nat, s = .int .i64 (i : Int) ∧ i0 ≤ i ∧ Pt (fun x => !ltInt v x) v a b i jj d dk ∧ Ro w wr blk off dk) (fun s _ => b + 1 - (intOf s).toNat)
    case atStart => exact ⟨i0, by go_num, Nat.le_refl _, HPT0.out, HR0.out⟩
    case round =>
      obtain ⟨i, rfl, hlow, hPt, hR⟩ := hrel
      obtain ⟨G, hG, hcw, hfw⟩ := hR.fam
      rw [HSZ.out] at hcw hfw
      have HPT := Lib.hid hPt
      have HR := Lib.hid hR
      have HG := Lib.hid hG
      have hai := hPt.ai
      have hjb := hPt.jb
      have hiJ := hPt.ij
      clear hPt hR hG
      obtain ⟨BB, hBB⟩ : ∃ B : Bool, B = (decide (i ≤ jj) && (!ltInt (G a) (G i))) := ⟨_, rfl⟩
      have HBB := Lib.hid hBB
      clear hBB
      go_upto_region 3 with fail
      go_cut [43] from 29 to 45 (fun t wx => t = .bool BB ∧ ∃ nq, wx = wr.drewN nq)
      case first =>
        by_cases hij : i ≤ jj
        · go_quiet (first | (go_at_call 54; refine Calls.quiet_of_same (less_any _ _ _)) | fail)
          go_wp2_with fail
          go_meet
          exact ⟨by rw [HBB.out]; simp [hij], nq, rfl⟩
        · go_quiet (first | (go_at_call 54; refine Calls.quiet_of_same (less_any _ _ _)) | fail)
          go_wp2_with fail
          go_meet
          exact ⟨by rw [HBB.out]; simp [hij], nq, rfl⟩
      case rest =>
        obtain ⟨rfl, nq, rfl⟩ := hcut
        cases hb9 : BB with
        | true =>
          have hE : i ≤ jj ∧ ltInt (G a) (G i) = false := by have := HBB.out; rw [hb9] at this; simpa using this.symm
          obtain ⟨hij, hL⟩ := hE
          have HNX := Lib.hid (HPT.out.up hij (by have h := hL; rw [HG.out, HG.out, HPT.out.piv] at h; simpa using h))
          clear hL
          go_wp2_with fail
          go_roundw
          case rel => exact ⟨i + 1, by go_num, by omega, HNX.out, HR.out.drewN nq⟩
          case measure => simp [intOf]; omega
        | false =>
          have HXF : Hid (i ≤ jj → (fun x => !ltInt v x) dk[i]! = false) := fun hij => by
            have hL : ltInt (G a) (G i) = true := by have := HBB.out; rw [hb9] at this; simpa [hij] using this.symm
            have h := hL; rw [HG.out, HG.out, HPT.out.piv] at h; simpa using h
          have HR2 := Lib.hid (HR.out.drewN nq)
          generalize wr.drewN nq = wr2 at *
          clear hcw hfw
          have HPT2 := Lib.hid HPT.out
          clear HPT HG HBB
          go_wp2_with fail
          go_loopw [10] (fun s wr => ∃ j : Nat, s = .int .i64 (j : Int) ∧ j ≤ jj ∧ Pt (fun x => !ltInt v x) v a b i j d dk ∧ Ro w wr blk off dk) (fun s _ => (intOf s).toNat)
          case atStart => exact ⟨jj, rfl, Nat.le_refl _, HPT2.out, HR2.out⟩
          case round =>
            obtain ⟨j, rfl, hjj, hPt, hR⟩ := hrel
            obtain ⟨G, hG, hcw, hfw⟩ := hR.fam
            rw [HSZ.out] at hcw hfw
            have HPT := Lib.hid hPt
            have HR := Lib.hid hR
            have HG := Lib.hid hG
            have hjb2 := hPt.jb
            have hiJ2 := hPt.ij
            have hajL := hPt.le
            clear hPt hR hG
            obtain ⟨BC, hBC⟩ : ∃ B : Bool, B = (decide (i ≤ j) && ltInt (G a) (G j)) := ⟨_, rfl⟩
            have HBC := Lib.hid hBC
            clear hBC
            go_upto_region 5 with fail
            go_cut [59] from 46 to 61 (fun t wx => t = .bool BC ∧ ∃ nq, wx = wr.drewN nq)
            case first =>
              by_cases hij : i ≤ j
              · go_quiet (first | (go_at_call 54; refine Calls.quiet_of_same (less_any _ _ _)) | fail)
                go_wp2_with fail
                go_meet
                exact ⟨by rw [HBC.out]; simp [hij], nq, rfl⟩
              · go_quiet (first | (go_at_call 54; refine Calls.quiet_of_same (less_any _ _ _)) | fail)
                go_wp2_with fail
                go_meet
                exact ⟨by rw [HBC.out]; simp [hij], nq, rfl⟩
            case rest =>
              obtain ⟨rfl, nq, rfl⟩ := hcut
              cases hb8 : BC with
              | true =>
                have hE : i ≤ j ∧ ltInt (G a) (G j) = true := by have := HBC.out; rw [hb8] at this; simpa using this.symm
                obtain ⟨hij, hL⟩ := hE
                have HNX := Lib.hid (HPT.out.down hij (by have h := hL; rw [HG.out, HG.out, HPT.out.piv] at h; simpa using h))
                have e1 : (j : Int) - 1 = ((j - 1 : Nat) : Int) := by omega
                clear hL
                go_wp2_with fail
                go_roundw
                case rel => exact ⟨j - 1, by congr 1 <;> omega, by omega, HNX.out, HR.out.drewN nq⟩
                case measure => simp [intOf]; omega
              | false =>
                have HR3 := Lib.hid (HR.out.drewN nq)
                have hcw3 : ∀ t, t < n → (wr.drewN nq).cell? ⟨blk, off + t, none⟩ = some (.int .u64 (G t)) := hcw
                have hfw3 : ∀ t, t < n → (wr.drewN nq).frozen? ⟨blk, off + t, none⟩ = false := hfw
                generalize wr.drewN nq = wr3 at *
                clear hcw hfw nq
                by_cases hij : i ≤ j
                · have HJT := Lib.hid (show (fun x => !ltInt v x) dk[j]! = true from by
                    have hL : ltInt (G a) (G j) = false := by have := HBC.out; rw [hb8] at this; simpa [hij] using this.symm
                    have h := hL; rw [HG.out, HG.out, HPT.out.piv] at h; simpa using h)
                  have HIF : Hid ((fun x => !ltInt v x) dk[i]! = false) := HXF.out (by omega)
                  have hlt : i < j := by
                    rcases Nat.lt_or_ge i j with h | h
                    · exact h
                    · have e : i = j := by omega
                      have h1 := HJT.out
                      have h2 := HIF.out
                      rw [e] at h2
                      rw [h1] at h2
                      cases h2
                  have HSW : Hid (Ro w (((wr3.setCell ⟨blk, off + i, none⟩ (.int .u64 (G j))).setCell ⟨blk, off + j, none⟩ (.int .u64 (G i))).drewN 1) blk off (swp dk i j)) := Ro.swp 1 HR3.out (by rw [HSZ.out]; omega) (by rw [HSZ.out]; omega) (by rw [HG.out]; rfl) (by rw [HG.out]; rfl)
                  have HPS := Lib.hid (HPT.out.swap hlt (by rw [HN.out]; omega) HIF.out HJT.out)
                  have hne : i ≠ j := by omega
                  go_wp2_with fail
                  go_region
                  all_goals go_wp2_with fail
                  go_roundw
                  case rel => exact ⟨i + 1, j - 1, _, by go_num, by congr 1 <;> omega, by rw [swp_sz]; exact HSZ.out, HPS.out, HSW.out⟩
                  case measure => simp [intOf]; omega
                · go_wp2_with fail
                  go_ret
                  refine ⟨i, _, rfl, HPT.out.ai, by omega, ⟨HR3.out, HPT.out.perm⟩, fun t h1 h2 => ?_, fun t h1 h2 => ?_⟩
                  · rw [← HV.out]
                    by_cases e : t = a
                    · rw [e, HPT.out.piv]
                      exact swo_ltInt.irrefl v
                    · have := HPT.out.L t (by omega) h2
                      simpa using this
                  · rw [← HV.out]
                    have := HPT.out.R t (by omega) h2
                    simpa using this
end
end Go.Proofs.Ytdfmgfclcbeeiaa
