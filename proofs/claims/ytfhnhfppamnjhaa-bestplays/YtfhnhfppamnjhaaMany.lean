/-
  What BestMany does: it returns true, and turns nothing that was there.
-/
import Derived.Test.YtfhnhfppamnjhaaSame
namespace Go.Proofs.Ytfhnhfppamnjhaa
open Go.RowKit Go.Maps

theorem putAll_one (most : Nat) (hs : List Hit) (x : Hit) : putAll most hs [x] = (putOne most hs x, (base most hs x).isSome.toNat) := by
  unfold putOne
  cases hb : base most hs x <;> simp [putAll, hb]
theorem cut_wf {hs : List Hit} (hw : ∀ x ∈ hs, (Lit.int .u64 x.1).wf = true ∧ (Lit.int .u64 x.2.1).wf = true) (n : Nat) : ∀ x ∈ (hs.take n).map cutHit, Wf x := fun x hx => by
  obtain ⟨y, hy, rfl⟩ := List.mem_map.1 hx
  have := hw y (List.mem_of_mem_take hy)
  exact ⟨this.1, this.2, by show (y.2.2.take 8).length ≤ 1000; rw [List.length_take]; omega⟩
theorem cut_len (hs : List Hit) (n : Nat) : ((hs.take n).map cutHit).length ≤ n := by rw [List.length_map, List.length_take]; omega
theorem Chg.below {w w' : World} {b mb B : Nat} {v v' : Value} (h : Chg w w' b mb v v') (h1 : B ≤ b) (h2 : B ≤ mb) (h3 : ∀ g, v.ownBlock = some g → B ≤ g) (h4 : B ≤ w.heap.size) : Below B w w' :=
  ⟨h.os, h.tape, h.output, h.size, fun k hk => h.block k (by omega) (by omega) (by omega) (fun e => by have := h3 k e.symm; omega)⟩

set_option maxRecDepth 100000 in
set_option maxHeartbeats 2000000 in
theorem law_many (S : Nat → Prop) (m : Nat) (A : Option Addr) (c : Nat) (hs : List Hit) (w : World) (hm : m < 256) (h : HitsAt S w A hs) (hl : hs.length ≤ 9223372036854775807) (hv : ∀ o ∈ hs, o.2.2.length ≤ 9223372036854775807) (hw : ∀ x ∈ hs, (Lit.int .u64 x.1).wf = true ∧ (Lit.int .u64 x.2.1).wf = true) :
    Calls Try.prog 8 #[.int .u8 (m : Int), .slice A hs.length c] w fun e w' => e = .returned (.bool true) ∧ Below w.heap.size w w' := by
  obtain ⟨r, hr⟩ : ∃ r, r = m % 20 := ⟨_, rfl⟩
  have e1 : (m : Int) % 20 = (r : Int) := by omega
  have e2 : Int.tmod (m : Int) 20 = (r : Int) := by rw [Int.tmod_eq_emod_of_nonneg (by omega)]; exact e1
  have hr20 : r < 20 := by omega
  clear hr
  have HW := Lib.hid (cut_wf hw 40)
  have HLL := Lib.hid (cut_len hs 40)
  have HAW := Lib.hid (awake_any w)
  have HNEW : Hid (∀ W, Calls Try.prog 10 #[.int .i64 (1 + (r : Int))] W fun e w' => e = .returned (.tuple #[.pointer (some ⟨W.heap.size + 1, 0, none⟩), .int .i64 0]) ∧ Lst w' W.heap.size (W.heap.size + 1) W.heap.size 0 (.slice none 0 0) (1 + r) [] ∧ Below W.heap.size W w') := fun W => by
    have := new_any (1 + r) W (by omega) (by omega)
    rw [show ((1 + r : Nat) : Int) = 1 + (r : Int) by omega] at this
    exact this
  have HCUT : Hid (∀ W, Below w.heap.size w W → Calls Try.prog 11 #[.slice A hs.length c, .int .i64 40] W fun e w' => GaveHits W ((hs.take 40).map cutHit) e w') := fun W hW => cutHits_any S A c 40 hs W (h.below hW) hl hv (by decide)
  clear h hl hv hw
  generalize (hs.take 40).map cutHit = ls at *
  go_enter Try.func8, Try.ntmps8
  go_wp2_with fail
  refine (HAW.out).mono ?_
  rintro e w1 ⟨rfl, hb1⟩
  go_wp2_with fail
  refine (HNEW.out w1).mono ?_
  rintro e w2 ⟨rfl, La, hb2⟩
  go_wp2_with fail
  refine (HNEW.out w2).mono ?_
  rintro e w3 ⟨rfl, Lb, hb3⟩
  have hz1 := hb1.size
  have hz2 := La.lt
  have hz3 := Lb.lt
  have hs12 := hb2.size
  have hs23 := hb3.size
  have hb03 : Below w.heap.size w w3 := (hb1.trans (hb2.mono hz1)).trans (hb3.mono (by omega))
  have HL := Lib.hid La
  have HB := Lib.hid Lb
  have HB2 := Lib.hid hb2
  have HB3 := Lib.hid hb3
  clear La Lb hb2 hb3 hb1
  go_wp2_with fail
  refine (HCUT.out w3 hb03).mono ?_
  rintro e w4 ⟨vl, rfl, Ol, hb4⟩
  have hs34 := hb4.size
  obtain ⟨Al, cl, rfl, hcl, hat4⟩ := Ol.hits
  have HAT := Lib.hid hat4
  have HB4 := Lib.hid hb4
  have hll := HLL.out
  have HB04 : Hid (Below w.heap.size w w4) := hb03.trans (hb4.mono hb03.size)
  clear Ol hat4 hb4 HAW HCUT hb03 HNEW
  have hLb4 : Lst w4 w2.heap.size (w2.heap.size + 1) w2.heap.size 0 (.slice none 0 0) (1 + r) [] := HB.out.below HB4.out
  have HLB4 := Lib.hid hLb4
  have hcnt : ∀ (ys zs : List Hit), (putAll (1 + r) zs ys).2 ≤ ys.length := fun ys => by
    induction ys with
    | nil => intro zs; exact Nat.le_refl _
    | cons y ys ih =>
      intro zs
      cases hb : base (1 + r) zs y with
      | none => simp only [putAll, hb]; have := ih zs; simp; omega
      | some l => simp only [putAll, hb]; have := ih (ins l y); simp; omega
  have HCNT : Hid (∀ k, (putAll (1 + r) [] (ls.take k)).2 ≤ 40) := fun k => by
    have := hcnt (ls.take k) []
    rw [List.length_take] at this
    omega
  have hgood : ∀ k, Good (1 + r) (putAll (1 + r) [] (ls.take k)).1 := fun k => (Good.start (1 + r)).all (by omega) fun x hx => HW.out x (List.mem_of_mem_take hx)
  have HGD := Lib.hid hgood
  clear hLb4 hcnt hgood HB
  go_wp2_with fail
  go_loopw [11, 13, 34] (fun cnt _ i wr => ∃ (k : Nat) (vb : Value), k ≤ ls.length ∧ i = .int .i64 k ∧ cnt = .int .i64 ((putAll (1 + r) [] (ls.take k)).2 : Nat) ∧ Lst wr w2.heap.size (w2.heap.size + 1) w2.heap.size k vb (1 + r) (putAll (1 + r) [] (ls.take k)).1 ∧ Chg w4 wr (w2.heap.size + 1) w2.heap.size (.slice none 0 0) vb) (fun _ _ i _ => ls.length - (intOf i).toNat)
  case atStart => exact ⟨0, .slice none 0 0, Nat.zero_le _, rfl, by simp [putAll], by simpa [putAll] using HLB4.out, Chg.refl _ _ _ _⟩
  case round =>
    obtain ⟨k, vb, hk, rfl, rfl, hLk, hCk⟩ := hrel
    have hck := HCNT.out k
    have HCK := Lib.hid hCk
    have HLK := Lib.hid hLk
    have hatk := hCk.hits HAT.out (fun g hg s => ⟨by omega, by omega, by simp [Value.ownBlock]⟩)
    by_cases hlt : k < ls.length
    · have i1 : (k : Int) < (ls.length : Int) := by omega
      obtain ⟨ad, rfl, hj1, hadl, g0, g1, Y, cy, g2, hj2, hrow⟩ := hatk k hlt
      have HT := Lib.hid (show putAll (1 + r) [] (ls.take (k + 1)) = (putOne (1 + r) (putAll (1 + r) [] (ls.take k)).1 ls[k], (putAll (1 + r) [] (ls.take k)).2 + (base (1 + r) (putAll (1 + r) [] (ls.take k)).1 ls[k]).isSome.toNat) by rw [List.take_succ_eq_append_getElem hlt, putAll_snoc])
      obtain ⟨wa, hwa⟩ : ∃ x, x = wr.alloc (.cells #[.int .u64 ls[k].1, .int .u64 ls[k].2.1, .slice Y ls[k].2.2.length cy] 36) := ⟨_, rfl⟩
      have hba : Below wr.heap.size wr wa := by rw [hwa]; exact (Below.refl _ _).alloc (Nat.le_refl _) _
      have hsa : wa.heap.size = wr.heap.size + 1 := by rw [hwa]; simp
      obtain ⟨wc, hwc⟩ : ∃ x, x = wa.alloc (.cells #[.int .u64 ls[k].1, .int .u64 ls[k].2.1, .slice Y ls[k].2.2.length cy] 36) := ⟨_, rfl⟩
      have hbc : Below wr.heap.size wr wc := by rw [hwc]; exact hba.alloc hba.size _
      have hblk : wc.heap[wr.heap.size + 1]? = some (.cells [Value.int .u64 ls[k].1, .int .u64 ls[k].2.1, .slice Y ls[k].2.2.length cy].toArray 36 (0, 0)) := by rw [hwc, ← hsa]; exact heap_alloc_new wa _
      have hone := hitsAt_block (n := 1) hblk (hs := [ls[k]]) rfl (by unfold maxLen; omega) (Cells3.one ls[k] Y cy hj2 (hrow.below hbc))
      have hLt := hLk.lt
      have hadd := add_any _ w2.heap.size (w2.heap.size + 1) w2.heap.size k (1 + r) vb (putAll (1 + r) [] (ls.take k)).1 [ls[k]] _ 1 wc (hLk.below hbc) (HGD.out k) (by omega) (by omega) (by simp; omega) hone (fun g hg s => by
        rcases s with rfl | ⟨s1, s2⟩
        · refine ⟨by omega, by omega, fun e => ?_⟩
          have := (hLk.rowlt e.symm).2
          omega
        · refine ⟨by omega, by omega, fun e => ?_⟩
          rcases hCk.new with e' | ⟨g', e', hg'⟩
          · rw [e'] at e; simp [Value.ownBlock] at e
          · rw [e'] at e; injection e with e; omega) (fun x hx => by rw [List.mem_singleton] at hx; subst hx; exact HW.out _ (List.getElem_mem hlt))
      rw [putAll_one] at hadd
      have HA : Hid (Calls Try.prog 13 #[.pointer (some ⟨w2.heap.size + 1, 0, none⟩), .slice (some ⟨wr.heap.size + 1, 0, none⟩) 1 1] wc fun e w' => e = .returned (.int .i64 ((base (1 + r) (putAll (1 + r) [] (ls.take k)).1 ls[k]).isSome.toNat : Nat)) ∧ ∃ v', Lst w' w2.heap.size (w2.heap.size + 1) w2.heap.size (k + 1) v' (1 + r) (putAll (1 + r) [] (ls.take (k + 1))).1 ∧ Chg w4 w' (w2.heap.size + 1) w2.heap.size (.slice none 0 0) v') := hadd.mono fun e w' ⟨q1, v', q2, q3⟩ => ⟨q1, v', by rw [HT.out]; exact q2, hCk.trans ((Chg.of_below hbc _ _ _).trans q3)⟩
      have HT2 := Lib.hid (show (putAll (1 + r) [] (ls.take (k + 1))).2 = (putAll (1 + r) [] (ls.take k)).2 + (base (1 + r) (putAll (1 + r) [] (ls.take k)).1 ls[k]).isSome.toNat by rw [HT.out])
      have hbs : (base (1 + r) (putAll (1 + r) [] (ls.take k)).1 ls[k]).isSome.toNat ≤ 1 := Bool.toNat_le _
      clear hadd hone hblk hbc hba hrow hatk hLk hCk HT hj1 hj2 HCNT
      generalize (putAll (1 + r) [] (ls.take k)).2 = cnt at *
      generalize (base (1 + r) (putAll (1 + r) [] (ls.take k)).1 ls[k]).isSome.toNat = bs at *
      generalize ls[k].1 = xi at *
      generalize ls[k].2.1 = xd at *
      generalize ls[k].2.2.length = xl at *
      rw [hwa] at hwc
      have HWC := Lib.hid hwc
      clear hwc hwa hsa
      go_wp2_with fail
      rw [← HWC.out]
      refine (HA.out).mono ?_
      rintro e w5 ⟨rfl, v5, hL5, hC5⟩
      go_wp2_with fail
      go_roundw
      case rel => exact ⟨k + 1, v5, by omega, by go_num, by rw [HT2.out]; go_num, hL5, hC5⟩
      case measure => simp [intOf]; omega
    · obtain rfl : k = ls.length := by omega
      have i1 : ¬ ((ls.length : Int) < (ls.length : Int)) := by omega
      have hLbk := HLK.out
      rw [List.take_of_length_le (Nat.le_refl _)] at hLbk
      have HG := Lib.hid (HGD.out ls.length)
      rw [List.take_of_length_le (Nat.le_refl _)] at HG
      have hsk := HCK.out.size
      have hLa : Lst wr w1.heap.size (w1.heap.size + 1) w1.heap.size 0 (.slice none 0 0) (1 + r) [] := HL.out.kept (by omega) (fun g _ hg => (HCK.out.block g (by omega) (by omega) (by omega) (by simp [Value.ownBlock])).trans ((HB4.out.block g (by omega)).trans (HB3.out.block g hg)))
      have HAa := Lib.hid (add_any _ w1.heap.size (w1.heap.size + 1) w1.heap.size 0 (1 + r) (.slice none 0 0) [] ls Al cl wr hLa (Good.start _) (by omega) (by omega) (by omega) hatk (fun g hg s => ⟨by omega, by omega, by simp [Value.ownBlock]⟩) HW.out)
      have HLBK := Lib.hid hLbk
      have HTL := Lib.hid (show ls.take ls.length = ls from List.take_of_length_le (Nat.le_refl _))
      have hck' : (putAll (1 + r) [] ls).2 ≤ 40 := by have := HCNT.out ls.length; rw [HTL.out] at this; exact this
      have HBK : Hid (Below w.heap.size w wr) := HB04.out.trans (HCK.out.below (by omega) (by omega) (by simp [Value.ownBlock]) (by have := HB04.out.size; omega))
      have hbk0 := HBK.out.size
      clear hLa hLbk hatk hLk hCk HLK HCNT HGD hck
      rw [HTL.out]
      generalize putAll (1 + r) [] ls = P at *
      obtain ⟨P1, P2⟩ := P
      dsimp only at *
      have hP1 : P1.length ≤ 1000 := by have := HG.out.len; omega
      have HPW : Hid (∀ x ∈ P1, Wf x) := fun x hx => HG.out.wf x hx
      go_wp2_with fail
      refine (HAa.out).mono ?_
      rintro e w6 ⟨rfl, va, La6, Ca⟩
      have hs6 := Ca.size
      have HH6 := Lib.hid (hits_any w1.heap.size (w1.heap.size + 1) w1.heap.size _ (1 + r) va P1 w6 La6 hP1 HPW.out)
      have HLB6 : Hid (Lst w6 w2.heap.size (w2.heap.size + 1) w2.heap.size ls.length vb (1 + r) P1) := HLBK.out.kept hs6 (fun g h1 h2 => Ca.block g h2 (by omega) (by omega) (by simp [Value.ownBlock]))
      have HB6 : Hid (Below w.heap.size w w6) := HBK.out.trans (Ca.below (by omega) (by omega) (by simp [Value.ownBlock]) (by omega))
      have HLA6 := Lib.hid La6
      clear La6 Ca HAa HLBK HBK HL HB2 HB3 HB4 HAT HCK HB04 HLB4
      have hp2 : ((P2 : Int) == (P2 : Int)) = true := by simp
      go_wp2_with fail
      refine (HH6.out).mono ?_
      rintro e w7 ⟨va7, rfl, O7, hb7⟩
      have HH7 := Lib.hid (hits_any w2.heap.size (w2.heap.size + 1) w2.heap.size _ (1 + r) vb P1 w7 (HLB6.out.below hb7) hP1 HPW.out)
      have HB7 : Hid (Below w.heap.size w w7) := HB6.out.trans (hb7.mono HB6.out.size)
      have HLA7 : Hid (Lst w7 w1.heap.size (w1.heap.size + 1) w1.heap.size (0 + ls.length) va (1 + r) P1) := HLA6.out.below hb7
      obtain ⟨A7, c7, rfl, hc7, hat7⟩ := O7.hits
      have HAT7 := Lib.hid hat7
      clear O7 hat7 hb7 HH6 HLB6
      go_wp2_with fail
      refine (HH7.out).mono ?_
      rintro e w8 ⟨vb8, rfl, O8, hb8⟩
      obtain ⟨A8, c8, rfl, hc8, hat8⟩ := O8.hits
      have HSM := Lib.hid (sameHits_any _ _ A7 A8 c7 c8 P1 w8 (HAT7.out.below hb8) hat8 hP1 (fun x hx => (HPW.out x hx).2.2))
      have HB8 : Hid (Below w.heap.size w w8) := HB7.out.trans (hb8.mono HB7.out.size)
      have HLA8 : Hid (Lst w8 w1.heap.size (w1.heap.size + 1) w1.heap.size (0 + ls.length) va (1 + r) P1) := HLA7.out.below hb8
      clear O8 hat8 hb8 HH7 HAT7
      go_wp2_with fail
      refine (HSM.out).mono ?_
      rintro e w9 ⟨rfl, hb9⟩
      have HB9 : Hid (Below w.heap.size w w9) := HB8.out.trans (hb9.mono HB8.out.size)
      have HA9 := Lib.hid (add_any (fun _ => False) w1.heap.size (w1.heap.size + 1) w1.heap.size (0 + ls.length) (1 + r) va P1 [] none 0 w9 (HLA8.out.below hb9) HG.out (by omega) (by omega) (by simp; omega) (fun j hj => by simp at hj) (fun g hg s => s.elim) (fun x hx => by cases hx))
      have HLA9 : Hid (Lst w9 w1.heap.size (w1.heap.size + 1) w1.heap.size (0 + ls.length) va (1 + r) P1) := HLA8.out.below hb9
      clear hb9 HSM
      go_wp2_with fail
      refine (HA9.out).mono ?_
      rintro e w10 ⟨rfl, v10, _, C10⟩
      have HB10 : Hid (Below w.heap.size w w10) := HB9.out.trans (C10.below (by omega) (by omega) (fun g e => by have := (HLA9.out.rowlt e).1; omega) (by have := HB9.out.size; omega))
      clear C10 HA9
      simp only [putAll]
      go_wp2_with fail
      go_ret
      exact ⟨rfl, HB10.out⟩

end Go.Proofs.Ytfhnhfppamnjhaa
