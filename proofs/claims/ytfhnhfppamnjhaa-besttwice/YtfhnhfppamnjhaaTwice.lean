/-
  What BestTwice does: it returns true, and turns nothing that was there.
-/
import Derived.Test.YtfhnhfppamnjhaaMany
namespace Go.Proofs.Ytfhnhfppamnjhaa
open Go.RowKit Go.Maps

theorem u64_in {n : Int} (h : (Lit.int .u64 n).wf = true) : 0 ≤ n ∧ n ≤ 18446744073709551615 := by
  simpa [Lit.wf, IntKind.min, IntKind.max, IntKind.signed, IntKind.bits] using h
theorem u64_mk {n : Int} (h : 0 ≤ n ∧ n ≤ 18446744073709551615) : (Lit.int .u64 n).wf = true := by
  simpa [Lit.wf, IntKind.min, IntKind.max, IntKind.signed, IntKind.bits] using h

/-- what is there and comes again, or comes farther away, isn't put -/
theorem base_again {most : Nat} {hs : List Hit} (hg : Good most hs) {p : Nat} (hp : p < hs.length) {h : Hit} (h1 : hs[p].1 = h.1) (h2 : hs[p].2.1 ≤ h.2.1) : base most hs h = none := by
  unfold base
  rw [hg.find hp h1]
  simp [h2]
theorem putAll_none {most : Nat} {hs : List Hit} : ∀ {xs : List Hit}, (∀ x ∈ xs, base most hs x = none) → putAll most hs xs = (hs, 0)
  | [], _ => rfl
  | x :: xs, h => by
    simp only [putAll, h x List.mem_cons_self]
    exact putAll_none fun y hy => h y (List.mem_cons_of_mem _ hy)
theorem putAll_again {most : Nat} {hs : List Hit} (hg : Good most hs) : putAll most hs hs = (hs, 0) := putAll_none fun x hx => by
  obtain ⟨p, hp, rfl⟩ := List.getElem_of_mem hx
  exact base_again hg hp rfl (Int.le_refl _)

set_option maxRecDepth 100000 in
set_option maxHeartbeats 2000000 in
theorem law_twice (S : Nat → Prop) (m : Nat) (far : Int) (A : Option Addr) (c : Nat) (hs : List Hit) (w : World) (hm : m < 256) (hfar : 0 ≤ far ∧ far ≤ 18446744073709551615) (h : HitsAt S w A hs) (hl : hs.length ≤ 9223372036854775807) (hv : ∀ o ∈ hs, o.2.2.length ≤ 9223372036854775807) (hw : ∀ x ∈ hs, (Lit.int .u64 x.1).wf = true ∧ (Lit.int .u64 x.2.1).wf = true) :
    Calls Try.prog 7 #[.int .u8 (m : Int), .slice A hs.length c, .int .u64 far] w fun e w' => e = .returned (.bool true) ∧ Below w.heap.size w w' := by
  obtain ⟨r, hr⟩ : ∃ r, r = m % 20 := ⟨_, rfl⟩
  have e1 : (m : Int) % 20 = (r : Int) := by omega
  have e2 : Int.tmod (m : Int) 20 = (r : Int) := by rw [Int.tmod_eq_emod_of_nonneg (by omega)]; exact e1
  have hr20 : r < 20 := by omega
  clear hr
  obtain ⟨f, hf⟩ : ∃ f, f = far % 4611686018427387904 := ⟨_, rfl⟩
  have f1 : far % 4611686018427387904 = f := hf.symm
  have f2 : Int.tmod far 4611686018427387904 = f := by rw [Int.tmod_eq_emod_of_nonneg hfar.1]; exact f1
  have hf0 : 0 ≤ f ∧ f < 4611686018427387904 := by omega
  clear hf
  have HW := Lib.hid (cut_wf hw 40)
  have HLL := Lib.hid (cut_len hs 40)
  have HAW := Lib.hid (awake_any w)
  have HNEW : Hid (∀ W, Calls Try.prog 10 #[.int .i64 (1 + (r : Int))] W fun e w' => e = .returned (.tuple #[.pointer (some ⟨W.heap.size + 1, 0, none⟩), .int .i64 0]) ∧ Lst w' W.heap.size (W.heap.size + 1) W.heap.size 0 (.slice none 0 0) (1 + r) [] ∧ Below W.heap.size W w') := fun W => by
    have := new_any (1 + r) W (by omega) (by omega)
    rw [show ((1 + r : Nat) : Int) = 1 + (r : Int) by omega] at this
    exact this
  have HCUT : Hid (∀ W, Below w.heap.size w W → Calls Try.prog 11 #[.slice A hs.length c, .int .i64 40] W fun e w' => GaveHits W ((hs.take 40).map cutHit) e w') := fun W hW => cutHits_any S A c 40 hs W (h.below hW) hl hv (by decide)
  clear h hl hv hw
  generalize (hs.take 40).map cutHit = ls at *
  have HG : Hid (Good (1 + r) (putAll (1 + r) [] ls).1) := (Good.start (1 + r)).all (by omega) HW.out
  go_enter Try.func7, Try.ntmps7
  go_wp2_with fail
  refine (HAW.out).mono ?_
  rintro e w1 ⟨rfl, hb1⟩
  go_wp2_with fail
  refine (HNEW.out w1).mono ?_
  rintro e w2 ⟨rfl, L2, hb2⟩
  have hz1 := hb1.size
  have hz2 := L2.lt
  have hb02 : Below w.heap.size w w2 := hb1.trans (hb2.mono hz1)
  have HL2 := Lib.hid L2
  have HB02 := Lib.hid hb02
  clear L2 hb2 hb1
  go_wp2_with fail
  refine (HCUT.out w2 hb02).mono ?_
  rintro e w3 ⟨vl, rfl, Ol, hb3⟩
  have hz3 := hb3.size
  obtain ⟨Al, cl, rfl, hcl, hat3⟩ := Ol.hits
  have hll := HLL.out
  have HB03 : Hid (Below w.heap.size w w3) := hb02.trans (hb3.mono hb02.size)
  have HA3 := Lib.hid (add_any _ w1.heap.size (w1.heap.size + 1) w1.heap.size 0 (1 + r) (.slice none 0 0) [] ls Al cl w3 (HL2.out.below hb3) (Good.start _) (by omega) (by omega) (by omega) hat3 (fun g hg s => ⟨by omega, by omega, by simp [Value.ownBlock]⟩) HW.out)
  clear Ol hat3 hb3 hb02 HNEW HCUT HAW
  go_wp2_with fail
  refine (HA3.out).mono ?_
  rintro e w4 ⟨rfl, v4, L4, C4⟩
  have hz4 := C4.size
  have HB04 : Hid (Below w.heap.size w w4) := HB03.out.trans (C4.below (by omega) (by omega) (by simp [Value.ownBlock]) (by have := HB03.out.size; omega))
  clear C4 HA3
  generalize (putAll (1 + r) [] ls).2 = cnt at *
  generalize (putAll (1 + r) [] ls).1 = P at *
  have hPl : P.length ≤ 20 := by have := HG.out.len; omega
  have HPW : Hid (∀ x ∈ P, Wf x) := fun x hx => HG.out.wf x hx
  have HH4 := Lib.hid (hits_any w1.heap.size (w1.heap.size + 1) w1.heap.size _ (1 + r) v4 P w4 L4 (by omega) HPW.out)
  have HL4 := Lib.hid L4
  have HV4 : Hid (∀ g, v4.ownBlock = some g → w1.heap.size ≤ g) := fun g e => (L4.rowlt e).1
  clear L4
  go_wp2_with fail
  refine (HH4.out).mono ?_
  rintro e w5 ⟨v5, rfl, O5, hb5⟩
  have hz5 := hb5.size
  obtain ⟨A5, c5, rfl, hc5, hat5⟩ := O5.hits
  have hat5' : HitsAt (fun g => w4.heap.size ≤ g ∧ g < w5.heap.size) w5 A5 P := hat5.mono fun g hg s => ⟨s, hg⟩
  have L5 := HL4.out.below hb5
  have hS5 : ∀ g, g < w5.heap.size → (w4.heap.size ≤ g ∧ g < w5.heap.size) → g ≠ w1.heap.size + 1 ∧ g ≠ w1.heap.size ∧ some g ≠ v4.ownBlock := fun g _ s => ⟨by omega, by omega, fun e => by have := (HL4.out.rowlt e.symm).2; omega⟩
  have hadd5 := add_any _ w1.heap.size (w1.heap.size + 1) w1.heap.size (0 + ls.length) (1 + r) v4 P P A5 c5 w5 L5 HG.out (by omega) (by omega) (by omega) hat5' hS5 HPW.out
  rw [putAll_again HG.out] at hadd5
  have HA5 := Lib.hid hadd5
  have HAT5 := Lib.hid hat5'
  have HS5 := Lib.hid hS5
  have HB05 : Hid (Below w.heap.size w w5) := HB04.out.trans (hb5.mono HB04.out.size)
  clear O5 hat5 hat5' hb5 L5 hS5 hadd5 HH4 HL4
  go_wp2_with fail
  refine (HA5.out).mono ?_
  rintro e w6 ⟨rfl, v6, L6, C6⟩
  have hz6 := C6.size
  have HH6 := Lib.hid (hits_any w1.heap.size (w1.heap.size + 1) w1.heap.size _ (1 + r) v6 P w6 L6 (by omega) HPW.out)
  have HAT6 := Lib.hid (C6.hits HAT5.out HS5.out)
  have HL6 := Lib.hid L6
  have HC6 := Lib.hid C6
  clear L6 C6 HA5
  go_wp2_with fail
  refine (HH6.out).mono ?_
  rintro e w7 ⟨v7, rfl, O7, hb7⟩
  have hz7 := hb7.size
  obtain ⟨A7, c7, rfl, hc7, hat7⟩ := O7.hits
  have HSM7 := Lib.hid (sameHits_any _ _ A7 A5 c7 c5 P w7 hat7 (HAT6.out.below hb7) (by omega) (fun x hx => (HPW.out x hx).2.2))
  have HL7 : Hid (Lst w7 w1.heap.size (w1.heap.size + 1) w1.heap.size (0 + ls.length + P.length) v6 (1 + r) P) := HL6.out.below hb7
  have HAT7 : Hid (HitsAt (fun g => g < w5.heap.size ∧ (w4.heap.size ≤ g ∧ g < w5.heap.size)) w7 A5 P) := HAT6.out.below hb7
  have HB67 := Lib.hid hb7
  clear O7 hat7 hb7 HH6 HL6
  go_wp2_with fail
  refine (HSM7.out).mono ?_
  rintro e w8 ⟨rfl, hb8⟩
  have hz8 := hb8.size
  have HL8 : Hid (Lst w8 w1.heap.size (w1.heap.size + 1) w1.heap.size (0 + ls.length + P.length) v6 (1 + r) P) := HL7.out.below hb8
  have HAT8 : Hid (HitsAt (fun g => g < w5.heap.size ∧ (w4.heap.size ≤ g ∧ g < w5.heap.size)) w8 A5 P) := HAT7.out.below hb8
  have HV6 : Hid (∀ g, v6.ownBlock = some g → w5.heap.size ≤ g ∨ g < w4.heap.size) := fun g e => by
    rcases HC6.out.new with e' | ⟨g', e', hg'⟩
    · have h1 := HS5.out g
      rcases Nat.lt_or_ge g w4.heap.size with h2 | h2
      · exact .inr h2
      · rcases Nat.lt_or_ge g w5.heap.size with h3 | h3
        · exact absurd ((e'.symm.trans e).symm) (h1 h3 ⟨h2, h3⟩).2.2
        · exact .inl h3
    · rw [e] at e'; injection e' with e'; exact .inl (by omega)
  have HB08 : Hid (Below w.heap.size w w8) := by
    have h6 : Below w.heap.size w w6 := HB05.out.trans (HC6.out.below (by omega) (by omega) (fun g e => by have := HV4.out g e; omega) (by have := HB05.out.size; omega))
    exact (h6.trans (HB67.out.mono h6.size)).trans (hb8.mono (by have := h6.size; omega))
  clear hb8 HSM7 HL7 HAT7 HAT6 HB67 HC6 HAT5 HS5 HL2 HB02 HB03 HB04 HB05
  obtain ⟨N0, hN0⟩ : ∃ x, x = 0 + ls.length + P.length := ⟨_, rfl⟩
  rw [← hN0] at HL8
  have hN1 : N0 ≤ 60 := by omega
  clear hN0
  go_wp2_with fail
  go_loopw [11, 43] (fun _ i wr => ∃ (k : Nat) (v' : Value), k ≤ P.length ∧ i = .int .i64 k ∧ Lst wr w1.heap.size (w1.heap.size + 1) w1.heap.size (N0 + k) v' (1 + r) P ∧ Chg w8 wr (w1.heap.size + 1) w1.heap.size v6 v') (fun _ i _ => P.length - (intOf i).toNat)
  case atStart => exact ⟨0, v6, Nat.zero_le _, rfl, HL8.out, Chg.refl _ _ _ _⟩
  case round =>
    obtain ⟨k, v', hk, rfl, hLk, hCk⟩ := hrel
    have hatk := hCk.hits HAT8.out (fun g hg s => ⟨by omega, by omega, fun e => by have := HV6.out g e.symm; omega⟩)
    have HLK := Lib.hid hLk
    have HCK := Lib.hid hCk
    by_cases hlt : k < P.length
    · have i1 : (k : Int) < (P.length : Int) := by omega
      obtain ⟨ad, rfl, hj1, hadl, g0, g1, Y, cy, g2, hj2, hrow⟩ := hatk k hlt
      have hwf := HPW.out _ (List.getElem_mem hlt)
      have hd64 := u64_in hwf.2.1
      by_cases hd : P[k].2.1 ≤ 9223372036854775808
      · have hwr : IntKind.u64.wrap (P[k].2.1 + f) = P[k].2.1 + f := by rw [IntKind.wrap_u64]; omega
        obtain ⟨y, hy⟩ : ∃ y : Hit, y = (P[k].1, P[k].2.1 + f, P[k].2.2) := ⟨_, rfl⟩
        have hy1 : y.1 = P[k].1 := by rw [hy]
        have hy2 : y.2.1 = P[k].2.1 + f := by rw [hy]
        have hy3 : y.2.2 = P[k].2.2 := by rw [hy]
        have hnone : base (1 + r) P y = none := base_again HG.out hlt hy1.symm (by rw [hy2]; omega)
        obtain ⟨wa, hwa⟩ : ∃ x, x = wr.alloc (.cells #[.int .u64 P[k].1, .int .u64 (P[k].2.1 + f), .slice Y P[k].2.2.length cy] 36) := ⟨_, rfl⟩
        have hba : Below wr.heap.size wr wa := by rw [hwa]; exact (Below.refl _ _).alloc (Nat.le_refl _) _
        have hsa : wa.heap.size = wr.heap.size + 1 := by rw [hwa]; simp
        obtain ⟨wc, hwc⟩ : ∃ x, x = wa.alloc (.cells #[.int .u64 P[k].1, .int .u64 (P[k].2.1 + f), .slice Y P[k].2.2.length cy] 36) := ⟨_, rfl⟩
        have hbc : Below wr.heap.size wr wc := by rw [hwc]; exact hba.alloc hba.size _
        have hblk : wc.heap[wr.heap.size + 1]? = some (.cells [Value.int .u64 y.1, .int .u64 y.2.1, .slice Y y.2.2.length cy].toArray 36 (0, 0)) := by rw [hwc, ← hsa, hy1, hy2, hy3]; exact heap_alloc_new wa _
        have hone := hitsAt_block (n := 1) hblk (hs := [y]) rfl (by unfold maxLen; omega) (Cells3.one y Y cy (by rw [hy3]; exact hj2) (by rw [hy3]; exact hrow.below hbc))
        have hLt := hLk.lt
        have hadd := add_any _ w1.heap.size (w1.heap.size + 1) w1.heap.size (N0 + k) (1 + r) v' P [y] _ 1 wc (hLk.below hbc) HG.out (by omega) (by omega) (by simp; omega) hone (fun g hg s => by
          have hz9 := hCk.size
          rcases s with rfl | ⟨s1, s2, s3, s4⟩
          · refine ⟨by omega, by omega, fun e => ?_⟩
            have := (hLk.rowlt e.symm).2
            omega
          · refine ⟨by omega, by omega, fun e => ?_⟩
            rcases hCk.new with e' | ⟨g', e', hg'⟩
            · have := HV6.out g (e'.symm.trans e.symm); omega
            · rw [e'] at e; injection e with e; omega) (fun x hx => by rw [List.mem_singleton] at hx; subst hx; exact ⟨by rw [hy1]; exact hwf.1, by rw [hy2]; exact u64_mk (by omega), by rw [hy3]; exact hwf.2.2⟩)
        rw [putAll_none (fun x hx => by rw [List.mem_singleton] at hx; subst hx; exact hnone)] at hadd
        have HA : Hid (Calls Try.prog 13 #[.pointer (some ⟨w1.heap.size + 1, 0, none⟩), .slice (some ⟨wr.heap.size + 1, 0, none⟩) 1 1] wc fun e w' => e = .returned (.int .i64 0) ∧ ∃ v'', Lst w' w1.heap.size (w1.heap.size + 1) w1.heap.size (N0 + (k + 1)) v'' (1 + r) P ∧ Chg w8 w' (w1.heap.size + 1) w1.heap.size v6 v'') := hadd.mono fun e w' ⟨q1, v'', q2, q3⟩ => ⟨q1, v'', q2, hCk.trans ((Chg.of_below hbc _ _ _).trans q3)⟩
        clear hadd hone hblk hbc hba hrow hatk hLk hCk hj1 hj2 hnone hy hy1 hy2 hy3 hwf hd64
        generalize P[k].1 = xi at *
        generalize P[k].2.1 = xd at *
        generalize P[k].2.2.length = xl at *
        rw [hwa] at hwc
        have HWC := Lib.hid hwc
        clear hwc hwa hsa
        go_wp2_with fail
        rw [← HWC.out]
        refine (HA.out).mono ?_
        rintro e w9 ⟨rfl, v9, hL9, hC9⟩
        go_wp2_with fail
        go_roundw
        case rel => exact ⟨k + 1, v9, by omega, by go_num, hL9, hC9⟩
        case measure => simp [intOf]; omega
      · have HSTEP : Hid (Lst (wr.alloc (.cells #[.int .u64 P[k].1, .int .u64 P[k].2.1, .slice Y P[k].2.2.length cy] 36)) w1.heap.size (w1.heap.size + 1) w1.heap.size (N0 + (k + 1)) v' (1 + r) P ∧ Chg w8 (wr.alloc (.cells #[.int .u64 P[k].1, .int .u64 P[k].2.1, .slice Y P[k].2.2.length cy] 36)) (w1.heap.size + 1) w1.heap.size v6 v') :=
          ⟨(hLk.below ((Below.refl _ _).alloc (Nat.le_refl _) _)).wider (by omega), hCk.trans (Chg.of_below ((Below.refl _ _).alloc (Nat.le_refl _) _) _ _ _)⟩
        clear hLk hCk hatk hrow hj1 hj2 hwf
        generalize P[k].1 = xi at *
        generalize P[k].2.1 = xd at *
        generalize P[k].2.2.length = xl at *
        go_wp2_with fail
        go_roundw
        case rel => exact ⟨k + 1, v', by omega, by go_num, HSTEP.out.1, HSTEP.out.2⟩
        case measure => simp [intOf]; omega
    · obtain rfl : k = P.length := by omega
      have i1 : ¬ ((P.length : Int) < (P.length : Int)) := by omega
      have HH9 := Lib.hid (hits_any w1.heap.size (w1.heap.size + 1) w1.heap.size _ (1 + r) v' P wr hLk (by omega) HPW.out)
      have HAT9 := Lib.hid hatk
      have HB09 : Hid (Below w.heap.size w wr) := HB08.out.trans (hCk.below (by omega) (by omega) (fun g e => by have := (HL8.out.rowlt e).1; omega) (by have := HB08.out.size; omega))
      clear hLk hCk hatk
      go_wp2_with fail
      refine (HH9.out).mono ?_
      rintro e w9 ⟨v9, rfl, O9, hb9⟩
      obtain ⟨A9, c9, rfl, hc9, hat9⟩ := O9.hits
      have HSM9 := Lib.hid (sameHits_any _ _ A9 A5 c9 c5 P w9 hat9 (HAT9.out.below hb9) (by omega) (fun x hx => (HPW.out x hx).2.2))
      have HB10 : Hid (Below w.heap.size w w9) := HB09.out.trans (hb9.mono HB09.out.size)
      clear O9 hat9 hb9 HH9
      go_wp2_with fail
      refine (HSM9.out).mono ?_
      rintro e w10 ⟨rfl, hb10⟩
      have HB11 : Hid (Below w.heap.size w w10) := HB10.out.trans (hb10.mono HB10.out.size)
      clear hb10
      go_wp2_with fail
      go_ret
      exact ⟨rfl, HB11.out⟩

end Go.Proofs.Ytfhnhfppamnjhaa
