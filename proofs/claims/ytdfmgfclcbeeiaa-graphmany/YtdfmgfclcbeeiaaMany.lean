/-
  The law Many, walked.
-/
import Derived.Test.YtdfmgfclcbeeiaaManyM
namespace Go.Proofs.Ytdfmgfclcbeeiaa
open Go.RowKit Go.Maps Go.Sort
set_option linter.unusedSimpArgs false
set_option linter.unusedVariables false

set_option maxRecDepth 100000 in
set_option maxHeartbeats 8000000 in
theorem law_many (A : Option Addr) (l : List Int) (c : Nat) (w : World) (hr : Row w A (us l)) (hc : l.length ≤ c) (hl : l.length ≤ 9223372036854775807) (hu : ∀ x ∈ l, U64 x) :
    Calls Try.prog 8 #[.slice A l.length c] w fun e w' => e = .returned (.bool true) ∧ Below w.heap.size w w' := by
  have HR := Lib.hid hr
  have HU := Lib.hid hu
  have HAW := Lib.hid (awake_any w)
  obtain ⟨n, hn⟩ : ∃ n, n = l.length := ⟨_, rfl⟩
  rw [← hn] at hl hc ⊢
  have HN : Hid (l.length = n) := hn.symm
  obtain ⟨m, hm⟩ : ∃ m, m = min n 30 := ⟨_, rfl⟩
  have e1 : min (n : Int) 30 = (m : Int) := by omega
  have hmn : m ≤ n := by omega
  have hm30 : m ≤ 30 := by omega
  obtain ⟨ks, hks⟩ : ∃ ks, ks = l.take m := ⟨_, rfl⟩
  have HKL : Hid (ks.length = m) := by show _ = _; rw [hks, List.length_take]; have := HN.out; omega
  have HKU : Hid (∀ x ∈ ks, U64 x) := fun x hx => HU.out x (by rw [hks] at hx; exact List.mem_of_mem_take hx)
  have HKR : Hid (∀ W, Below w.heap.size w W → ∀ j u, (us ks)[j]? = some u → ∃ ad, A = some ad ∧ W.cell? (ad.add j) = some u) := fun W hW j u hj => by
    rw [hks] at hj
    unfold us at hj
    rw [List.map_take, List.getElem?_take] at hj
    split at hj
    · obtain ⟨ad, e, _, hcc⟩ := (HR.out.below hW) j (List.getElem?_eq_some_iff.1 hj).1
      exact ⟨ad, e, hcc.trans hj⟩
    · cases hj
  have HUL : Hid ((us ks).length = m * 1) := by show _ = _; rw [us_len, HKL.out]; omega
  have i1 : (0 : Int) ≤ (m : Int) := by omega
  have i2 : (m : Int) ≤ (c : Int) := by omega
  have i3 : (m : Int) ≤ (n : Int) := by omega
  have i4 : (n : Int) ≤ (c : Int) := by omega
  clear hr hu hn hm hks
  go_enter Try.func8, Try.ntmps8
  go_wp2_with fail
  refine (HAW.out).mono ?_
  rintro e w1 ⟨rfl, hb1⟩
  have HB1 := Lib.hid hb1
  have hb1a : Below w.heap.size w (w1.alloc (.cells #[] 31)) := hb1.alloc hb1.size _
  have HO1 : Hid ((w1.alloc (.cells #[] 31)).ownsRow w1.heap.size 31 1 (.slice (some ⟨w1.heap.size, 0, none⟩) 0 0) 0 []) := World.ownsRow_lit w1 #[] 0 (Nat.le_refl _) (by decide) rfl
  have HS1 : Hid (w1.heap.size ≤ (w1.alloc (.cells #[] 31)).heap.size) := by show _ ≤ _; simp
  have HKR1 := Lib.hid (HKR.out _ hb1a)
  have HB1A := Lib.hid hb1a
  clear hb1 hb1a HKR
  go_wp2_with (first
    | (at_builtin; refine wpList_append_el elem22 rfl (.tmp 11) (.tmp 16) rfl w1.heap.size (.slice (some ⟨w1.heap.size, 0, none⟩) 0 0) 0 [] rfl HO1.out A m c (us ks) rfl HUL.out HKR1.out (us_one ks) (by unfold maxLen; omega) (by omega) HS1.out ?_; intro A2 c2 w2 ho2 hg2 ha2; have HB2 : Hid (Below w.heap.size w w2) := HB1A.out.grown hg2 HB1A.out.size (fun g e => by have := (own_lt HO1.out e).1; have := HB1.out.size; omega); rw [Nat.zero_add, List.nil_append] at ho2; have HO2 := Lib.hid ho2; clear ho2 hg2 ha2)
    | fail)
  have HNA : Hid (Calls Try.prog 10 #[.slice A2 m c2] w2 fun e w' => e = .returned (.pointer (some ⟨w2.heap.size + 1, 0, none⟩)) ∧ GS w' w2.heap.size (w2.heap.size + 1) w2.heap.size ks (fE []) ks.length ∧ Below w2.heap.size w2 w') := new_own w2 w1.heap.size _ ks (by rw [HKL.out]; exact HO2.out) HKU.out (by rw [HKL.out]; omega)
  refine (HNA.out).mono ?_
  rintro e w3 ⟨rfl, hg3, hb3⟩
  obtain ⟨ba, hba⟩ : ∃ b, b = w2.heap.size + 1 := ⟨_, rfl⟩
  obtain ⟨Ba, hBa⟩ : ∃ b, b = w2.heap.size := ⟨_, rfl⟩
  rw [← hba, ← hBa] at hg3
  rw [← hba]
  have HGA := Lib.hid hg3
  have HB3 : Hid (Below w.heap.size w w3) := HB2.out.trans (hb3.mono HB2.out.size)
  have HO3 : Hid (w3.ownsRow w1.heap.size 31 1 (.slice A2 m c2) m (us ks)) := own_below HO2.out hb3
  have HNB : Hid (Calls Try.prog 10 #[.slice none 0 0] w3 fun e w' => e = .returned (.pointer (some ⟨w3.heap.size + 1, 0, none⟩)) ∧ GS w' w3.heap.size (w3.heap.size + 1) w3.heap.size [] (fE []) 0 ∧ Below w3.heap.size w3 w') := new_nil w3
  clear hg3 hb3 hba hBa HNA
  go_wp2_with fail
  refine (HNB.out).mono ?_
  rintro e w4 ⟨rfl, hg4, hb4⟩
  obtain ⟨bb, hbb⟩ : ∃ b, b = w3.heap.size + 1 := ⟨_, rfl⟩
  obtain ⟨mb, hmb⟩ : ∃ b, b = w3.heap.size := ⟨_, rfl⟩
  replace hg4 : GS w4 w3.heap.size bb mb [] (fE []) 0 := by rw [hbb, hmb]; exact hg4
  rw [← hbb]
  have HMB := Lib.hid hmb
  have HG4 := Lib.hid hg4
  have HB4 := Lib.hid hb4
  have HLT4 : Hid (mb < w4.heap.size) := by
    obtain ⟨n0, D0, nb0, k1, _, _⟩ := hg4
    exact k1.map.lt
  have HS0 := Lib.hid (SeenB.new w4)
  have hmm : (Instr.makeMap 53 none).run Try.prog w4 = .ok (.map (some w4.heap.size)) (w4.alloc (.map #[] 0)) := rfl
  obtain ⟨sb, hsb⟩ : ∃ sb, sb = w4.heap.size := ⟨_, rfl⟩
  rw [← hsb] at hmm HS0
  have HSB := Lib.hid hsb
  have HSTART : Hid (ManyS w w3 sb bb mb [] (w4.alloc (.map #[] 0))) := by
    obtain ⟨n0, D0, nb0, k1, k2, k3⟩ := hg4
    refine ⟨⟨n0, D0, nb0, k1.alloc _, k2, k3, fun z => ?_⟩, HS0.out, ?_, by show mb ≠ sb; have := HLT4.out; omega, by have := hb4.size; show w3.heap.size ≤ sb; omega⟩
    · intro e
      have := (k3 z).1 (by rw [e]; rfl)
      simp at this
    · exact hb4.alloc hb4.size _
  obtain ⟨A3, c3, hae, hc3, hrow3⟩ := Row.of_own HO3.out
  injection hae with q1 q2 q3
  subst q1 q3
  have HR3 := Lib.hid hrow3
  clear hg4 hb4 hbb hmb hsb HNB hrow3 q2
  go_wp2_with fail
  go_loopw [7, 8, 24] (fun _ _ i wx => ∃ j : Nat, j ≤ m ∧ i = .int .i64 j ∧ ManyS w w3 sb bb mb (ks.take j) wx) (fun _ _ i _ => m - (intOf i).toNat)
  case atStart => exact ⟨0, Nat.zero_le _, rfl, HSTART.out⟩
  case round =>
    obtain ⟨j, hj, rfl, hM⟩ := hrel
    by_cases hjl : j < m
    · have hj' : j < ks.length := by rw [HKL.out]; exact hjl
      obtain ⟨ad3, rfl, _, hcj⟩ := (HR3.out.below hM.below) j (by rw [us_len]; exact hj')
      rw [us_at hj'] at hcj
      have t1 : (j : Int) < (m : Int) := by omega
      have HTK := Lib.hid (take_snoc ks j hj')
      obtain ⟨p, hp⟩ : ∃ p, p = ks.getD j 0 := ⟨_, rfl⟩
      have HPU : Hid (U64 p) := HKU.out p (by rw [hp]; exact getD_mem hj')
      rw [← hp] at hcj HTK
      have HAD := Lib.hid (hM.add (p := p) HPU.out (by rw [List.length_take]; omega))
      have HTL : Hid ((ks.take j).length ≤ 30) := by show _ ≤ _; rw [List.length_take]; omega
      clear hM hp hj'
      go_wp2_with fail
      refine (HAD.out).mono ?_
      rintro e w5 ⟨rfl, hM5⟩
      have hlk := hM5.seen.look HPU.out
      obtain ⟨w6, hrun6, hM6⟩ := hM5.put HPU.out (by unfold maxLen; have := HTL.out; omega)
      rw [← HTK.out] at hM6
      have HM6 := Lib.hid hM6
      obtain ⟨hv, hhv⟩ : ∃ hv, hv = hasN (ks.take j) p := ⟨_, rfl⟩
      rw [← hhv] at hlk ⊢
      clear hM5 hM6 hhv HAD
      cases hv
      all_goals
        go_wp2_with fail
        go_roundw
        case rel => exact ⟨j + 1, by omega, by go_num, HM6.out⟩
        case measure => simp [intOf]; omega
    · have t1 : ¬ (j : Int) < (m : Int) := by omega
      rw [List.take_of_length_le (by rw [HKL.out]; omega)] at hM
      obtain ⟨W1, rfl⟩ : ∃ y, y = wr := ⟨wr, rfl⟩
      have HM := Lib.hid hM
      have HGA1 : Hid (GS W1 Ba ba Ba ks (fE []) ks.length) := HGA.out.below hM.below
      have HKA := Lib.hid (HGA1.out.krow (by rw [HKL.out]; omega) (by rw [HKL.out]; omega))
      clear hM
      go_wp2_with fail
      refine (HKA.out).mono ?_
      rintro e w7 ⟨A7, c7, m7, z7, rfl, hm7, hc7, hl7, hr7, hri7, _, hb7⟩
      have HR7 := Lib.hid hr7
      have HI7 := Lib.hid hri7
      have HM7 := Lib.hid hm7
      have HB7 := Lib.hid hb7
      have HKB := Lib.hid ((HM.out.gs.below hb7).krow (by rw [HKL.out]; omega) (by rw [HKL.out]; omega))
      clear hm7 hr7 hri7 hb7 HKA
      go_wp2_with fail
      refine (HKB.out).mono ?_
      rintro e w8 ⟨A8, c8, m8, z8, rfl, hm8, hc8, hl8, hr8, hri8, _, hb8⟩
      have hz8 : z8 = z7 := rise_one hri8 HI7.out
      subst hz8
      have hmm8 : m8 = m7 := by rw [← hm8, HM7.out]
      subst hmm8
      have HB8 : Hid (Below W1.heap.size W1 w8) := HB7.out.trans (hb8.mono HB7.out.size)
      have HSN := Lib.hid (sameNums_yes A7 A8 c7 c8 m8 z8 w8 hm8 (HR7.out.below hb8) hr8 (by omega))
      clear hm8 hr8 hri8 hb8 HKB
      go_wp2_with fail
      refine (HSN.out).mono ?_
      rintro e w9 ⟨rfl, hb9⟩
      have HB9 : Hid (Below W1.heap.size W1 w9) := HB8.out.trans (hb9.mono HB8.out.size)
      have hnd : z8.Nodup := HI7.out.1.imp fun h => by omega
      have HLE := Lib.hid (((HGA1.out.below HB9.out).congr (N' := z8) fun z => (HI7.out.2 z).symm).len hnd)
      have hse := (HM.out.seen.kept (HB9.out.block _ HM.out.seen.lt)).len hnd (fun z => HI7.out.2 z)
      have HFN : Hid (Below w.heap.size w w9) := by
        have h1 := HB3.out.trans (HM.out.below.mono HB3.out.size)
        exact h1.trans (HB9.out.mono h1.size)
      clear hb9 HSN hnd
      go_wp2_with fail
      refine (HLE.out).mono ?_
      rintro e wq ⟨rfl, hwq⟩
      have hwq := hwq.symm
      subst hwq
      go_wp2_with fail
      go_ret
      exact ⟨rfl, HFN.out⟩

end Go.Proofs.Ytdfmgfclcbeeiaa
