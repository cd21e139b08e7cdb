/-
  The contract of the heap sort.
-/
import Derived.Test.YtdfmgfclcbeeiaaSIns
namespace Go.Proofs.Ytdfmgfclcbeeiaa
open Go.RowKit Go.Sort
set_option linter.unusedSimpArgs false
set_option linter.unusedVariables false

theorem Ro.swp {w0 w : World} {blk off i j : Nat} {d : Array Int} {x y : Value} (q : Nat) (h : Ro w0 w blk off d) (hi : i < d.size) (hj : j < d.size) (hx : x = encU d[j]!) (hy : y = encU d[i]!) :
    Ro w0 (((w.setCell ⟨blk, off + i, none⟩ x).setCell ⟨blk, off + j, none⟩ y).drewN q) blk off (swp d i j) := by
  subst hx hy
  exact (h.swap hi hj).drewN q
/-- behind one store of a swap: the cell of the other one -/
theorem Ro.cell2 {w0 w : World} {blk off i j : Nat} {d : Array Int} {x : Int} (h : Ro w0 w blk off d) (hi : i < d.size) (hj : j < d.size) :
    ∃ z, ((w.setCell ⟨blk, off + i, none⟩ (.int .u64 x)).cell? ⟨blk, off + j, none⟩ = some (.int .u64 z) ∧ (w.setCell ⟨blk, off + i, none⟩ (.int .u64 x)).frozen? ⟨blk, off + j, none⟩ = false) ∧ (w.setCell ⟨blk, off + i, none⟩ (.int .u64 x)).drew.cell? ⟨blk, off + j, none⟩ = some (.int .u64 z) ∧ (w.setCell ⟨blk, off + i, none⟩ (.int .u64 x)).drew.frozen? ⟨blk, off + j, none⟩ = false := by
  have e : w.setCell ⟨blk, off + i, none⟩ (.int .u64 x) = putRow encU w blk off (d.setIfInBounds i x) := by
    have := putRow_set encU w blk off d i x hi
    rwa [putRow_self encU w blk off d h.hold] at this
  have hh := holds_putRow encU w blk off d (d.setIfInBounds i x) h.hold (by simp)
  rw [← e] at hh
  obtain ⟨h1, h2⟩ := hh j (by simpa using hj)
  exact ⟨_, ⟨h1, h2⟩, h1, h2⟩
theorem swp_sz (d : Array Int) (i j : Nat) : (swp d i j).size = d.size := by simp [Go.Sort.swp]

section
variable (w : World) (blk off cap : Nat) (d : Array Int)

set_option maxRecDepth 100000 in
set_option maxHeartbeats 2000000 in
theorem sift_any (n lo hi F : Nat) (h : Holds encU w blk off d) (hblk : blk < w.heap.size) (hn : d.size = n) (hlo : lo ≤ hi) (hF : F + hi ≤ n) (hsz : n < 4611686018427387904) :
    Calls Try.prog 59 #[.slice (some ⟨blk, off, none⟩) n cap, .int .i64 lo, .int .i64 hi, .int .i64 F] w fun e w' => e = .returned (.tuple #[]) ∧ ∃ d', d' = siftDown ltInt hi F lo d ∧ d'.size = d.size ∧ Ro w w' blk off d' := by
  have H0 := Lib.hid (Ro.start h hblk)
  have HN := Lib.hid hn
  clear h hn
  go_enter Try.func59, Try.ntmps59
  go_wp2_with fail
  go_loopw [8, 9] (fun s8 _ wr => ∃ (r : Nat) (dk : Array Int), s8 = .int .i64 (r : Int) ∧ r ≤ hi ∧ dk.size = n ∧ siftDown ltInt hi F r dk = siftDown ltInt hi F lo d ∧ Ro w wr blk off dk) (fun s8 _ _ => hi - (intOf s8).toNat)
  case atStart => exact ⟨lo, d, rfl, hlo, HN.out, rfl, H0.out⟩
  case round =>
    obtain ⟨r, dk, rfl, hr, hs, hE, hR⟩ := hrel
    obtain ⟨G, hG, hcw, hfw⟩ := hR.fam
    rw [hs] at hcw hfw
    have HE := Lib.hid hE
    have HR := Lib.hid hR
    have HG := Lib.hid hG
    have HS := Lib.hid hs
    obtain ⟨m, hm⟩ : ∃ m, m = 2 * r + 1 := ⟨_, rfl⟩
    obtain ⟨m1, hm1⟩ : ∃ m1, m1 = m + 1 := ⟨_, rfl⟩
    obtain ⟨x0, hx0⟩ : ∃ x0, x0 = F + r := ⟨_, rfl⟩
    obtain ⟨x1, hx1⟩ : ∃ x1, x1 = F + m := ⟨_, rfl⟩
    obtain ⟨x2, hx2⟩ : ∃ x2, x2 = F + m1 := ⟨_, rfl⟩
    have e1 : 2 * (r : Int) + 1 = (m : Int) := by omega
    have e2 : (m : Int) + 1 = (m1 : Int) := by omega
    have e3 : (F : Int) + (r : Int) = (x0 : Int) := by omega
    have e4 : (F : Int) + (m : Int) = (x1 : Int) := by omega
    have e5 : (F : Int) + (m1 : Int) = (x2 : Int) := by omega
    have e6 : (x1 : Int) + 1 = (x2 : Int) := by omega
    have HX : Hid (m = 2 * r + 1 ∧ m1 = 2 * r + 2 ∧ x0 = F + r ∧ x1 = F + (2 * r + 1) ∧ x2 = F + (2 * r + 2)) := by show _ ∧ _; omega
    have hb1 : r ≤ 4611686018427387904 ∧ m ≤ 9223372036854775807 := by omega
    obtain ⟨b1, b2⟩ := hb1
    clear hE hR hG hs hm hm1 hx0 hx1 hx2
    by_cases h0 : hi ≤ m
    · go_wp2_with fail
      go_end0
      refine ⟨rfl, dk, ?_, by rw [HS.out, HN.out], HR.out⟩
      have hx := HX.out
      rw [← HE.out, siftDown, dif_pos (by omega)]
    · have hx := HX.out
      have b3 : m1 ≤ 9223372036854775807 := by omega
      have b4 : x0 < n := by omega
      have b5 : x1 < n := by omega
      have hq : m1 < hi → x2 < n := by omega
      clear hx
      have SW : Hid (∀ (W : World) (c xc : Nat), Ro w W blk off dk → xc < n → siftDown ltInt hi F r dk = siftDown ltInt hi F c (swp dk x0 xc) → (swp dk x0 xc).size = n ∧ siftDown ltInt hi F c (swp dk x0 xc) = siftDown ltInt hi F lo d ∧
          Ro w (((W.setCell ⟨blk, off + x0, none⟩ (.int .u64 (G xc))).setCell ⟨blk, off + xc, none⟩ (.int .u64 (G x0))).drewN 1) blk off (swp dk x0 xc)) := fun W c xc hW hxc he => by
        have hs := HS.out
        refine ⟨by rw [swp_sz, hs], by rw [← he]; exact HE.out, ?_⟩
        exact Ro.swp 1 hW (by omega) (by omega) (by rw [HG.out]; rfl) (by rw [HG.out]; rfl)
      have ST : Hid (∀ (W : World), Ro w W blk off dk → siftDown ltInt hi F r dk = dk → ∃ d', d' = siftDown ltInt hi F lo d ∧ d'.size = d.size ∧ Ro w W blk off d') := fun W hW he => ⟨dk, by rw [← HE.out, he], by rw [HS.out, HN.out], hW⟩
      by_cases h1 : m1 < hi
      · have b6 := hq h1
        clear hq
        go_wp2_with fail
        go_quiet (first | (go_at_call 54; refine Calls.quiet_of_same (less_any _ _ _)) | fail)
        have HR2 := Lib.hid (HR.out.drewN nq)
        have hcw2 : ∀ t, t < n → (wr.drewN nq).cell? ⟨blk, off + t, none⟩ = some (.int .u64 (G t)) := hcw
        have hfw2 : ∀ t, t < n → (wr.drewN nq).frozen? ⟨blk, off + t, none⟩ = false := hfw
        generalize wr.drewN nq = wr2 at *
        clear hcw hfw nq
        cases hL1 : ltInt (G x1) (G x2) with
        | true =>
          go_wp2_with fail
          go_quiet (first | (go_at_call 54; refine Calls.quiet_of_same (less_any _ _ _)) | fail)
          have HR3 := Lib.hid (HR2.out.drewN nq)
          have hcw3 : ∀ t, t < n → (wr2.drewN nq).cell? ⟨blk, off + t, none⟩ = some (.int .u64 (G t)) := hcw2
          have hfw3 : ∀ t, t < n → (wr2.drewN nq).frozen? ⟨blk, off + t, none⟩ = false := hfw2
          generalize wr2.drewN nq = wr3 at *
          clear hcw2 hfw2 nq
          have SD : Hid (siftDown ltInt hi F r dk = if !ltInt (G x0) (G x2) then dk else siftDown ltInt hi F m1 (swp dk x0 x2)) := by
            obtain ⟨y1, y2, y3, y4, y5⟩ := HX.out
            show _ = _
            rw [HG.out, HG.out] at hL1 ⊢
            rw [y4, y5, show F + (2 * r + 2) = F + (2 * r + 1) + 1 by omega] at hL1
            rw [siftDown, dif_neg (by omega), if_pos (by simp only [hL1, Bool.and_true, decide_eq_true_eq]; omega), dif_pos (by omega), y2, y3, y5]
          cases hL2 : ltInt (G x0) (G x2) with
          | true =>
            have HGO := Lib.hid (SW.out wr3 m1 x2 HR3.out b6 (by rw [SD.out, hL2]; rfl))
            go_wp2_with fail
            go_region
            all_goals go_wp2_with fail
            go_roundw
            case rel => exact ⟨m1, swp dk x0 x2, rfl, by omega, HGO.out.1, HGO.out.2.1, HGO.out.2.2⟩
            case measure => have hx := HX.out; simp [intOf]; omega
          | false =>
            have HST := Lib.hid (ST.out wr3 HR3.out (by rw [SD.out, hL2]; rfl))
            go_wp2_with fail
            (try simp only [Exit.inBlock, Exit.then])
            refine bodyPost_ret (results_none rfl _ _ _) rfl ?_
            exact ⟨rfl, HST.out⟩
        | false =>
          go_wp2_with fail
          go_quiet (first | (go_at_call 54; refine Calls.quiet_of_same (less_any _ _ _)) | fail)
          have HR3 := Lib.hid (HR2.out.drewN nq)
          have hcw3 : ∀ t, t < n → (wr2.drewN nq).cell? ⟨blk, off + t, none⟩ = some (.int .u64 (G t)) := hcw2
          have hfw3 : ∀ t, t < n → (wr2.drewN nq).frozen? ⟨blk, off + t, none⟩ = false := hfw2
          generalize wr2.drewN nq = wr3 at *
          clear hcw2 hfw2 nq
          have SD : Hid (siftDown ltInt hi F r dk = if !ltInt (G x0) (G x1) then dk else siftDown ltInt hi F m (swp dk x0 x1)) := by
            obtain ⟨y1, y2, y3, y4, y5⟩ := HX.out
            show _ = _
            rw [HG.out, HG.out] at hL1 ⊢
            rw [y4, y5, show F + (2 * r + 2) = F + (2 * r + 1) + 1 by omega] at hL1
            rw [siftDown, dif_neg (by omega), if_neg (by simp [hL1]), y1, y3, y4]
          cases hL2 : ltInt (G x0) (G x1) with
          | true =>
            have HGO := Lib.hid (SW.out wr3 m x1 HR3.out b5 (by rw [SD.out, hL2]; rfl))
            go_wp2_with fail
            go_region
            all_goals go_wp2_with fail
            go_roundw
            case rel => exact ⟨m, swp dk x0 x1, rfl, by omega, HGO.out.1, HGO.out.2.1, HGO.out.2.2⟩
            case measure => have hx := HX.out; simp [intOf]; omega
          | false =>
            have HST := Lib.hid (ST.out wr3 HR3.out (by rw [SD.out, hL2]; rfl))
            go_wp2_with fail
            (try simp only [Exit.inBlock, Exit.then])
            refine bodyPost_ret (results_none rfl _ _ _) rfl ?_
            exact ⟨rfl, HST.out⟩
      · clear hq
        go_wp2_with fail
        go_quiet (first | (go_at_call 54; refine Calls.quiet_of_same (less_any _ _ _)) | fail)
        have HR2 := Lib.hid (HR.out.drewN nq)
        have hcw2 : ∀ t, t < n → (wr.drewN nq).cell? ⟨blk, off + t, none⟩ = some (.int .u64 (G t)) := hcw
        have hfw2 : ∀ t, t < n → (wr.drewN nq).frozen? ⟨blk, off + t, none⟩ = false := hfw
        generalize wr.drewN nq = wr2 at *
        clear hcw hfw nq
        go_wp2_with fail
        go_quiet (first | (go_at_call 54; refine Calls.quiet_of_same (less_any _ _ _)) | fail)
        have HR3 := Lib.hid (HR2.out.drewN nq)
        have hcw3 : ∀ t, t < n → (wr2.drewN nq).cell? ⟨blk, off + t, none⟩ = some (.int .u64 (G t)) := hcw2
        have hfw3 : ∀ t, t < n → (wr2.drewN nq).frozen? ⟨blk, off + t, none⟩ = false := hfw2
        generalize wr2.drewN nq = wr3 at *
        clear hcw2 hfw2 nq
        have SD : Hid (siftDown ltInt hi F r dk = if !ltInt (G x0) (G x1) then dk else siftDown ltInt hi F m (swp dk x0 x1)) := by
          obtain ⟨y1, y2, y3, y4, y5⟩ := HX.out
          show _ = _
          rw [HG.out, HG.out]
          rw [siftDown, dif_neg (by omega), if_neg (by simp; omega), y1, y3, y4]
        cases hL2 : ltInt (G x0) (G x1) with
        | true =>
          have HGO := Lib.hid (SW.out wr3 m x1 HR3.out b5 (by rw [SD.out, hL2]; rfl))
          go_wp2_with fail
          go_region
          all_goals go_wp2_with fail
          go_roundw
          case rel => exact ⟨m, swp dk x0 x1, rfl, by omega, HGO.out.1, HGO.out.2.1, HGO.out.2.2⟩
          case measure => have hx := HX.out; simp [intOf]; omega
        | false =>
          have HST := Lib.hid (ST.out wr3 HR3.out (by rw [SD.out, hL2]; rfl))
          go_wp2_with fail
          (try simp only [Exit.inBlock, Exit.then])
          refine bodyPost_ret (results_none rfl _ _ _) rfl ?_
          exact ⟨rfl, HST.out⟩

set_option maxRecDepth 100000 in
set_option maxHeartbeats 1000000 in
theorem heap_any (a b : Nat) (h : Holds encU w blk off d) (hblk : blk < w.heap.size) (hab : a ≤ b) (hb : b ≤ d.size) (hsz : d.size < 4611686018427387904) :
    Calls Try.prog 49 #[.slice (some ⟨blk, off, none⟩) d.size cap, .int .i64 a, .int .i64 b] w fun e w' => e = .returned (.tuple #[]) ∧ ∃ d', Moved w blk off a b d d' w' ∧ SortedIn ltInt a b d' := by
  have FIN : Hid (∀ (W : World) (d' : Array Int), d' = heapSort ltInt d a b → Ro w W blk off d' → ∃ d', Moved w blk off a b d d' W ∧ SortedIn ltInt a b d') := fun W d' e hR => by
    obtain ⟨h1, h2⟩ := heapSort_holds (lt := ltInt) swo_ltInt d a b hab hb
    subst e
    exact ⟨_, ⟨hR, h1⟩, h2⟩
  obtain ⟨hi, hhi⟩ : ∃ hi, hi = b - a := ⟨_, rfl⟩
  obtain ⟨k0, hk0⟩ : ∃ k0, k0 = (hi - 1) / 2 := ⟨_, rfl⟩
  have e1 : (b : Int) - (a : Int) = (hi : Int) := by omega
  have e2 : ((hi : Int) - 1).tdiv 2 = (k0 : Int) := by
    rcases Nat.eq_zero_or_pos hi with h0 | h0
    · subst h0
      rw [hk0]
      rfl
    · rw [Int.tdiv_eq_ediv_of_nonneg (by omega)]
      omega
  obtain ⟨n, hn⟩ : ∃ n, n = d.size := ⟨_, rfl⟩
  have hF : a + hi ≤ n := by omega
  have hk1 : k0 ≤ hi := by omega
  have H0 := Lib.hid (Ro.start h hblk)
  have HH := Lib.hid hhi
  have HK := Lib.hid hk0
  have HN := Lib.hid hn
  rw [← hn] at hsz ⊢
  clear h hhi hk0 hn
  go_enter Try.func49, Try.ntmps49
  go_wp2_with fail
  go_loopw [9] (fun s9 wr => ∃ (k : Nat) (dk : Array Int), s9 = .int .i64 ((k : Int) - 1) ∧ k ≤ k0 + 1 ∧ dk.size = n ∧ heapBuild ltInt hi a k dk = heapBuild ltInt hi a (k0 + 1) d ∧ Ro w wr blk off dk) (fun s9 _ => (intOf s9 + 1).toNat)
  case atStart => exact ⟨k0 + 1, d, by congr 1; omega, Nat.le_refl _, HN.out.symm, rfl, H0.out⟩
  case round =>
    obtain ⟨k, dk, rfl, hk, hs, hE, hR⟩ := hrel
    by_cases h0 : 0 < k
    · obtain ⟨k', rfl⟩ : ∃ k', k = k' + 1 := ⟨k - 1, by omega⟩
      have e3 : ((k' + 1 : Nat) : Int) - 1 = (k' : Int) := by omega
      rw [e3]
      have hsz' := hR.size
      have HSI := Lib.hid (sift_any wr blk off cap dk n k' hi a hR.hold (by have := hR.lt; omega) hs (by omega) hF hsz)
      have HE := Lib.hid hE
      have HR := Lib.hid hR
      have HS := Lib.hid hs
      clear hE hR hs e3 hsz'
      go_wp2_with fail
      refine (HSI.out).mono ?_
      rintro e w2 ⟨rfl, d2, hd2, hs2, hR2⟩
      have HR2 := Lib.hid (HR.out.trans hR2 hs2)
      have HE2 : Hid (heapBuild ltInt hi a k' d2 = heapBuild ltInt hi a (k0 + 1) d) := by
        show _ = _
        rw [← HE.out, hd2]
        rfl
      have HS2 : Hid (d2.size = n) := hs2.trans HS.out
      clear hd2 hs2 hR2
      go_wp2_with fail
      go_roundw
      case rel => exact ⟨k', d2, rfl, by omega, HS2.out, HE2.out, HR2.out⟩
      case measure => simp [intOf]
    · obtain rfl : k = 0 := by omega
      have hE' : dk = heapBuild ltInt hi a (k0 + 1) d := hE
      have HE := Lib.hid hE'
      have HR := Lib.hid hR
      have HS := Lib.hid hs
      have e4 : ((0 : Nat) : Int) - 1 = -1 := by omega
      rw [e4]
      clear hE hE' hR hs e4
      go_wp2_with fail
      go_loopw [10] (fun s10 wr => ∃ (k : Nat) (dj : Array Int), s10 = .int .i64 ((k : Int) - 1) ∧ k ≤ hi ∧ dj.size = n ∧ heapPop ltInt a k dj = heapPop ltInt a hi dk ∧ Ro w wr blk off dj) (fun s10 _ => (intOf s10 + 1).toNat)
      case atStart => exact ⟨hi, dk, rfl, Nat.le_refl _, HS.out, rfl, HR.out⟩
      case round =>
        obtain ⟨k, dj, rfl, hk, hs, hEj, hRj⟩ := hrel
        by_cases h0 : 0 < k
        · obtain ⟨k', rfl⟩ : ∃ k', k = k' + 1 := ⟨k - 1, by omega⟩
          have e3 : ((k' + 1 : Nat) : Int) - 1 = (k' : Int) := by omega
          rw [e3]
          obtain ⟨G, hG, hcw, hfw⟩ := hRj.fam
          rw [hs] at hcw hfw
          obtain ⟨x1, hx1⟩ : ∃ x1, x1 = a + k' := ⟨_, rfl⟩
          have e5 : (a : Int) + (k' : Int) = (x1 : Int) := by omega
          have b1 : x1 < n := by omega
          have b2 : a < n := by omega
          have HEJ := Lib.hid hEj
          have HRJ := Lib.hid hRj
          have HSJ := Lib.hid hs
          have HG := Lib.hid hG
          have HX := Lib.hid hx1
          obtain ⟨z, ⟨q1, q2⟩, q3, q4⟩ := hRj.cell2 (i := a) (j := x1) (x := G x1) (by omega) (by omega)
          have hwsz := hRj.size
          have hbl := hRj.lt
          obtain ⟨wq, hwq⟩ : ∃ y, y = ((wr.setCell ⟨blk, off + a, none⟩ (.int .u64 (G x1))).setCell ⟨blk, off + x1, none⟩ (.int .u64 (G a))).drewN 1 := ⟨_, rfl⟩
          have hRq : Ro w wq blk off (swp dj a x1) := by
            rw [hwq]
            exact Ro.swp 1 hRj (by omega) (by omega) (by rw [hG]; rfl) (by rw [hG]; rfl)
          have hsq : (swp dj a x1).size = n := by rw [swp_sz, hs]
          have HSI0 := sift_any wq blk off cap (swp dj a x1) n 0 k' a hRq.hold (by have := hRq.size; omega) hsq (by omega) (by omega) hsz
          have HSI := Lib.hid HSI0
          have HRQ := Lib.hid hRq
          have HSQ := Lib.hid hsq
          have HWQ := Lib.hid hwq
          clear hEj hRj hs e3 hwsz hbl hG hx1 hRq hsq hwq HSI0
          go_wp2_with fail
          go_region
          all_goals go_wp2_with fail
          rw [show ((wr.setCell ⟨blk, off + a, none⟩ (.int .u64 (G x1))).setCell ⟨blk, off + x1, none⟩ (.int .u64 (G a))).drew = wq from HWQ.out.symm]
          refine (HSI.out).mono ?_
          rintro e w2 ⟨rfl, d2, hd2, hs2, hR2⟩
          have HR2 := Lib.hid (HRQ.out.trans hR2 hs2)
          have HE2 : Hid (heapPop ltInt a k' d2 = heapPop ltInt a hi dk) := by
            show _ = _
            rw [← HEJ.out, hd2, HX.out]
            rfl
          have HS2 : Hid (d2.size = n) := hs2.trans HSQ.out
          clear hd2 hs2 hR2
          go_wp2_with fail
          go_roundw
          case rel => exact ⟨k', d2, rfl, by omega, HS2.out, HE2.out, HR2.out⟩
          case measure => simp [intOf]
        · obtain rfl : k = 0 := by omega
          have hE' : dj = heapPop ltInt a hi dk := hEj
          have HEJ := Lib.hid hE'
          have HRJ := Lib.hid hRj
          have e4 : ((0 : Nat) : Int) - 1 = -1 := by omega
          rw [e4]
          clear hEj hE' hRj hs e4
          go_wp2_with fail
          go_end0
          refine ⟨rfl, FIN.out wr dj ?_ HRJ.out⟩
          rw [HEJ.out, HE.out, HK.out, HH.out]
          rfl
end

end Go.Proofs.Ytdfmgfclcbeeiaa
