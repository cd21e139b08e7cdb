/-
  The law NetOnce, walked.
-/
import Derived.Test.YtalifbajihkenaaOnceM
import Derived.Test.YtalifbajihkenaaOrders
import Derived.BigRegion
namespace Go.Proofs.Ytalifbajihkenaa
open Go.RowKit Go.Maps
set_option linter.unusedSimpArgs false
set_option linter.unusedVariables false

/-- the bytes of the letters and of what was seen: all unlike -/
def Uniq (P : List PL) (ks : List Int) : Prop := (P.map (·.2.2) ++ ks).Nodup ∧ ∀ x ∈ P.map (·.2.2) ++ ks, 0 ≤ x ∧ x < 256
/-- while they are posted -/
def Fill (P : List PL) (k : Nat) : Prop := (P.map (·.2.2)).Nodup ∧ ∀ x ∈ P.map (·.2.2), 0 ≤ x ∧ x < (k : Int)
theorem Fill.more {P : List PL} {k k' : Nat} (h : Fill P k) (hk : k ≤ k') : Fill P k' := ⟨h.1, fun x hx => ⟨(h.2 x hx).1, by have := (h.2 x hx).2; omega⟩⟩
theorem Fill.put {P : List PL} {k : Nat} (h : Fill P k) (f t : Int) : Fill (P ++ [(f, t, (k : Int))]) (k + 1) := by
  unfold Fill
  rw [List.map_append]
  refine ⟨?_, fun x hx => ?_⟩
  · rw [List.nodup_append]
    refine ⟨h.1, by simp, fun a ha b hb => ?_⟩
    have := (h.2 a ha).2
    simp at hb
    omega
  · rcases List.mem_append.1 hx with hx | hx
    · have := h.2 x hx; omega
    · simp at hx; omega
theorem Fill.uniq {P : List PL} {k : Nat} (h : Fill P k) (hk : k ≤ 256) : Uniq P [] := by
  unfold Uniq
  rw [List.append_nil]
  exact ⟨h.1, fun x hx => by have := h.2 x hx; omega⟩
theorem perm_erase {α : Type} (l : List α) (k : Nat) (hk : k < l.length) : l.Perm ((l[k]'hk) :: l.eraseIdx k) := by
  induction l generalizing k with
  | nil => simp at hk
  | cons x l ih =>
    cases k with
    | zero => simp
    | succ k =>
      have := ih k (by simpa using hk)
      simpa using (this.cons x).trans (List.Perm.swap _ _ _)
theorem Uniq.see {P : List PL} {ks : List Int} (h : Uniq P ks) {k : Nat} (hk : k < P.length) : (P[k]'hk).2.2 ∉ ks ∧ (0 ≤ (P[k]'hk).2.2 ∧ (P[k]'hk).2.2 < 256) ∧ Uniq (P.eraseIdx k) (ks ++ [(P[k]'hk).2.2]) := by
  have hm : (P[k]'hk).2.2 ∈ P.map (·.2.2) := List.mem_map.2 ⟨_, List.getElem_mem hk, rfl⟩
  have hp : (P.map (·.2.2) ++ ks).Perm ((P.eraseIdx k).map (·.2.2) ++ (ks ++ [(P[k]'hk).2.2])) := by
    have h1 : P.Perm ((P[k]'hk) :: P.eraseIdx k) := perm_erase P k hk
    have h2 := (h1.map (·.2.2)).append_right ks
    refine h2.trans ?_
    rw [List.map_cons, List.cons_append]
    refine List.perm_middle.symm.trans ?_
    exact List.Perm.append_left _ (List.perm_append_comm (l₁ := [(P[k]'hk).2.2]) (l₂ := ks))
  refine ⟨fun hks => ?_, h.2 _ (List.mem_append.2 (.inl hm)), (hp.nodup_iff).1 h.1, fun x hx => h.2 x ((hp.mem_iff).2 hx)⟩
  exact (List.nodup_append.1 h.1).2.2 _ hm _ hks rfl

set_option maxRecDepth 100000 in
set_option maxHeartbeats 4000000 in
theorem once_walk (A A2 : Option Addr) (ls : List L3) (ds : List Int) (c c2 : Nat) (a' b' : Int) (w : World) (hat : LetIn w A ls) (hl : ls.length ≤ 9223372036854775807) (hrow : Row w A2 (bs ds)) (hl2 : ds.length ≤ 9223372036854775807) (h8 : Bytes8 ds) :
    Calls Try.prog 4 #[.slice A ls.length c, .slice A2 ds.length c2, .int .i64 a', .int .i64 b'] w fun e w' => e = .returned (.bool true) ∧ Below w.heap.size w w' := by
  have HAT := Lib.hid hat
  have HRD := Lib.hid hrow
  have H8 := Lib.hid h8
  have HA := Lib.hid (awake_any w)
  obtain ⟨n, hn⟩ : ∃ n, n = ls.length := ⟨_, rfl⟩
  obtain ⟨m, hm⟩ : ∃ n, n = ds.length := ⟨_, rfl⟩
  rw [← hn] at hl ⊢
  rw [← hm] at hl2 ⊢
  have HN : Hid (ls.length = n) := hn.symm
  have HM : Hid (ds.length = m) := hm.symm
  clear hat hrow h8 hn hm
  go_enter Try.func4, Try.ntmps4
  go_wp2_with fail
  refine (HA.out).mono ?_
  rintro e w1 ⟨rfl, hb1⟩
  have HB1 := Lib.hid hb1
  have HNW := Lib.hid (new_any w1 4 (by decide) (by decide))
  clear hb1 HA
  go_wp2_with fail
  refine (HNW.out).mono ?_
  rintro e w2 ⟨rfl, hN2, hb2⟩
  have HSP := Lib.hid (split_any hN2 (by decide) hb2.size a' b' true)
  have HB2 := Lib.hid hb2
  clear hN2 hb2 HNW
  go_wp2_with fail
  refine (HSP.out).mono ?_
  rintro e w3 ⟨rfl, hN3, hD3⟩
  obtain ⟨sp, hsp⟩ : ∃ sp, sp = spOf a' b' := ⟨_, rfl⟩
  have HT0 : Hid (T1 w w1.heap.size (w1.heap.size + 1) w1.heap.size sp [] w3) :=
    ⟨⟨_, [], by rw [hsp]; exact hN3, World.ownsRow_nil w3 _ 37 3, (fun a n c hm => by cases hm)⟩, HB1.out.trans ((HB2.out.trans hD3.below).mono HB1.out.size), HB1.out.size, Nat.le_trans HB2.out.size hD3.below.size⟩
  have HSPE := Lib.hid hsp
  obtain ⟨b, hbq⟩ : ∃ b, b = w1.heap.size + 1 := ⟨_, rfl⟩
  obtain ⟨mb, hmq⟩ : ∃ mb, mb = w1.heap.size := ⟨_, rfl⟩
  obtain ⟨B, hBq⟩ : ∃ B, B = w1.heap.size := ⟨_, rfl⟩
  have HT1 : Hid (T1 w B b mb sp [] w3) := by show T1 _ _ _ _ _ _ _; rw [hmq, hBq, hbq]; exact HT0.out
  rw [← hbq]
  clear hbq hmq hBq hN3 hD3 HT0 HSP hsp HB2
  go_wp2_with fail
  go_loopw [11, 12, 31] (fun u _ i wr => ∃ (k : Nat) (P : List PL), k ≤ n ∧ i = .int .i64 k ∧ P.length ≤ min k 20 ∧ u = .int .i64 P.length ∧ Fill P (min k 20) ∧ T1 w B b mb sp P wr) (fun _ _ i _ => n - (intOf i).toNat)
  case atStart => exact ⟨0, [], Nat.zero_le _, rfl, by simp, rfl, ⟨by simp, fun x hx => by cases hx⟩, HT1.out⟩
  case round =>
    obtain ⟨k, P, hk, rfl, hP, rfl, hF, hT⟩ := hrel
    by_cases hlt : k < n
    · have hlt' : k < ls.length := by rw [HN.out]; exact hlt
      obtain ⟨ad, rfl, _, q0, q1, Y, cy, q2, _⟩ := (HAT.out.below hT.below) k hlt'
      have i1 : (k : Int) < (n : Int) := by omega
      have i0 : (0 : Int) ≤ (k : Int) := by omega
      have HTT := Lib.hid hT
      have HF := Lib.hid hF
      clear hT hF
      generalize (ls[k]'hlt').1 = z0 at *
      generalize (ls[k]'hlt').2.1 = z1 at *
      generalize (ls[k]'hlt').2.2.length = z2 at *
      by_cases h20 : k < 20
      · have i2 : (k : Int) < 20 := by omega
        have hwb := wrap_byte (i := k) (by omega)
        have hP2 : P.length ≤ k := by omega
        have hm1 : min k 20 = k := by omega
        have hm2 : min (k + 1) 20 = k + 1 := by omega
        have HM1 := Lib.hid hm1
        have HM2 := Lib.hid hm2
        obtain ⟨pl, hpl⟩ : ∃ x, x = P.length := ⟨_, rfl⟩
        have HPL : Hid (P.length = pl) := hpl.symm
        have hpl2 : pl ≤ k := by omega
        rw [← hpl]
        clear hm1 hm2 hP hP2 hpl
        obtain ⟨w3, hw3⟩ : ∃ x, x = ((wr.alloc (.cells #[.int .i64 z0, .int .i64 z1, .slice Y z2 cy] 40)).alloc (.cells #[.int .u8 (k : Int)] 5)).alloc (.cells #[.int .i64 z0, .int .i64 z1, .slice (some ⟨wr.heap.size + 1, 0, none⟩) 1 1] 37) := ⟨_, rfl⟩
        have hb3 : Below wr.heap.size wr w3 := by rw [hw3]; exact (((Below.refl _ _).alloc (Nat.le_refl _) _).alloc (by simp) _).alloc (by simp; omega) _
        have hB3 : w3.heap[wr.heap.size + 1]? = some (.cells #[.int .u8 (k : Int)] 5 (0, 0)) := by
          rw [hw3, Below.heap_alloc _ _ _ (by simp)]; exact new_at (by simp)
        have hL3 : w3.heap[wr.heap.size + 1 + 1]? = some (.cells #[.int .i64 z0, .int .i64 z1, .slice (some ⟨wr.heap.size + 1, 0, none⟩) 1 1] 37 (0, 0)) := by
          rw [hw3]; exact new_at (by simp)
        have HPO := Lib.hid (HTT.out.post hb3 hB3 hL3 (by omega) (by omega) (by rw [HPL.out]; omega))
        clear hb3 hB3 hL3
        go_wp2_with fail
        rw [← hw3]
        refine (HPO.out).mono ?_
        rintro e w5 ⟨rfl, hS5⟩
        clear HPO hw3 q0 q1 q2 HTT
        cases hap : apartB 4 z0 z1 with
        | false =>
          rw [hap] at hS5
          simp only [Bool.false_eq_true, if_false] at hS5 ⊢
          have HS5 := Lib.hid hS5
          clear hS5 hap
          go_wp2_with fail
          go_roundw
          case rel => exact ⟨k + 1, P, by omega, by go_num, by rw [HM2.out, HPL.out]; omega, by rw [HPL.out], (HF.out).more (by rw [HM1.out, HM2.out]; omega), HS5.out⟩
          case measure => simp [intOf]; omega
        | true =>
          rw [hap] at hS5
          simp only [if_true] at hS5 ⊢
          have HS5 := Lib.hid hS5
          clear hS5 hap
          go_wp2_with fail
          go_roundw
          case rel => exact ⟨k + 1, P ++ [(z0, z1, (k : Int))], by omega, by go_num, by rw [HM2.out, List.length_append, HPL.out]; simp; omega, by rw [List.length_append, HPL.out]; go_num, by rw [HM2.out]; have := HF.out; rw [HM1.out] at this; exact this.put z0 z1, HS5.out⟩
          case measure => simp [intOf]; omega
      · have i2 : ¬ (k : Int) < 20 := by omega
        have HT' := Lib.hid (HTT.out.go (W := wr.alloc (.cells #[.int .i64 z0, .int .i64 z1, .slice Y z2 cy] 40)) ((Below.refl _ _).alloc (Nat.le_refl _) _))
        go_wp2_with fail
        go_roundw
        case rel => exact ⟨k + 1, P, by omega, by go_num, by omega, rfl, (HF.out).more (by omega), HT'.out⟩
        case measure => simp [intOf]; omega
    · have i1 : ¬ (k : Int) < (n : Int) := by omega
      have HS0 := Lib.hid hT.two
      have HU0 := Lib.hid (hF.uniq (by omega))
      have hPL : P.length ≤ 20 := by omega
      obtain ⟨sb, hsb⟩ : ∃ x, x = wr.heap.size := ⟨_, rfl⟩
      rw [← hsb] at HS0
      obtain ⟨po, hpo⟩ : ∃ x, x = P.length := ⟨_, rfl⟩
      have HPO : Hid (P.length + ([] : List Int).length = po) := by show _ = _; rw [hpo]; rfl
      rw [← hpo] at hPL ⊢
      have hmm : (Instr.makeMap 60 none).run Try.prog wr = .ok (.map (some sb)) (wr.alloc (.map #[] 0)) := by rw [hsb]; rfl
      clear hT HT1 hF hP hpo hsb
      go_wp2_with fail
      go_loopw [55] (fun i wx => ∃ (j nn : Nat) (P : List PL) (ks : List Int), j ≤ m ∧ i = .int .i64 j ∧ nn ≤ j ∧ nn ≤ 60 ∧ P.length + ks.length = po ∧ Uniq P ks ∧ T2 w B b mb sb nn sp P ks wx) (fun i _ => m - (intOf i).toNat)
      case atStart => exact ⟨0, 0, P, [], Nat.zero_le _, rfl, Nat.le_refl _, Nat.zero_le _, HPO.out, HU0.out, HS0.out⟩
      case round =>
        clear HS0 HU0 HPO hmm hlt i1 hk
        obtain ⟨j, nn, P, ks, hj, rfl, hnn, hn60, hpo, hU, hT⟩ := hrel
        have HX : Hid ((j < m ∧ j < 60 ∧ P.length ≠ 0) ∨ (¬ j < m) ∨ (j < m ∧ ¬ j < 60) ∨ (j < m ∧ j < 60 ∧ P.length = 0)) := by show _ ∨ _; omega
        have hex := HX.out
        obtain ⟨hqn, hqq⟩ : ∃ x, x = P.length := ⟨_, rfl⟩
        have HLEN := Lib.hid hT.len
        have HQ : Hid (P.length = hqn) := hqq.symm
        rw [← hqq] at HLEN hex hpo
        have HU := Lib.hid hU
        clear hqq hU HX
        rcases hex with ⟨h1, h2, h3⟩ | h1 | ⟨h1, h2⟩ | ⟨h1, h2, h3⟩
        · have h1' : j < ds.length := by rw [HM.out]; exact h1
          obtain ⟨ad, rfl, _, q0⟩ := (HRD.out.below hT.below) j (by rw [bs_len]; exact h1')
          rw [bs_at h1'] at q0
          have hd8 := H8.out _ (List.getElem_mem h1')
          generalize ds[j]'h1' = d at *
          obtain ⟨dn, rfl⟩ : ∃ dn : Nat, d = dn := ⟨d.toNat, by omega⟩
          have j1 : (j : Int) < (m : Int) := by omega
          have j2 : ¬ (j : Int) ≥ 60 := by omega
          have j3 : ¬ (60 : Int) ≤ (j : Int) := by omega
          have j4 : (0 : Int) ≤ (j : Int) := by omega
          have j5 : ¬ (hqn : Int) = 0 := by omega
          have hwd : IntKind.i64.wrap (dn : Int) = (dn : Int) := by rw [IntKind.wrap_i64]; omega
          have hem : (dn : Int) % (hqn : Int) = ((dn % hqn : Nat) : Int) := by omega
          have hrl : dn % hqn < hqn := Nat.mod_lt _ (by omega)
          generalize dn % hqn = r at *
          have hrP : r < P.length := by rw [HQ.out]; exact hrl
          have HTT := Lib.hid hT
          clear hT
          cases hsb : splitB sp (one (P[r]'hrP)) with
          | true =>
            have HTK := Lib.hid (HTT.out.take0 hrP hsb)
            clear hsb HTT
            unfold letV at HTK
            go_wp2_with fail
            refine (HLEN.out).mono ?_
            rintro e w3 ⟨rfl, hw⟩
            have hw := hw.symm
            subst hw
            go_wp2_with fail
            refine (HLEN.out).mono ?_
            rintro e w3 ⟨rfl, hw⟩
            have hw := hw.symm
            subst hw
            go_wp2_with fail
            refine (HTK.out).mono ?_
            rintro e w3 ⟨rfl, hS⟩
            have HS6 := Lib.hid (hS.go (W := w3.alloc (.cells #[.int .i64 0, .int .i64 0, .slice none 0 0] 37)) ((Below.refl _ _).alloc (Nat.le_refl _) _))
            clear hS HTK HLEN q0
            go_wp2_with fail
            go_roundw
            case rel => exact ⟨j + 1, nn, P, ks, by omega, by go_num, by omega, hn60, by rw [HQ.out]; exact hpo, HU.out, HS6.out⟩
            case measure => simp [intOf]; omega
          | false =>
            have HTK := Lib.hid (HTT.out.take1 hrP hsb)
            have HAP := Lib.hid (HTT.out.apart (List.getElem_mem hrP))
            have HSB : Hid (splitB (spOf a' b') (one (P[r]'hrP)) = false) := by show _ = _; rw [← HSPE.out]; exact hsb
            have HSEE := Lib.hid (HU.out.see hrP)
            have HLE : Hid ((P.eraseIdx r).length + 1 = hqn) := by show _ = _; rw [List.length_eraseIdx_of_lt hrP, HQ.out]; omega
            clear hsb HTT
            generalize (P[r]'hrP) = z at *
            obtain ⟨z0, z1, z2⟩ := z
            unfold letV at HTK
            simp only at HTK HAP HSB HSEE
            go_wp2_with fail
            refine (HLEN.out).mono ?_
            rintro e w3 ⟨rfl, hw⟩
            have hw := hw.symm
            subst hw
            go_wp2_with fail
            refine (HLEN.out).mono ?_
            rintro e w3 ⟨rfl, hw⟩
            have hw := hw.symm
            subst hw
            go_wp2_with fail
            refine (HTK.out).mono ?_
            rintro e w5 ⟨ad5, cy5, rfl, l5, hlt5, hne5, d5, hS5⟩
            have hz : z0 ≠ z1 := (apart_iff.1 HAP.out).2.2
            have hfr : min z0 z1 = min a' b' → max z0 z1 = max a' b' → a' = b' := free_pair HAP.out HSB.out
            have HS5 := Lib.hid hS5
            have HD5 := Lib.hid d5
            clear HTK HLEN q0 hS5 d5 HAP HSB HSPE HQ HU
            have o : z0 < z1 ∨ z1 < z0 := by omega
            have q : a' < b' ∨ b' < a' ∨ a' = b' := by omega
            rcases o with o | o <;> rcases q with q | q | q
            case' inl.inl =>
              have f : ¬ (z0 = a' ∧ z1 = b') := fun f => by obtain ⟨f1, f2⟩ := f; have := hfr (by omega) (by omega); omega
              have g : z0 = a' ∨ ¬ z0 = a' := by omega
            case' inl.inr.inl =>
              have f : ¬ (z0 = b' ∧ z1 = a') := fun f => by obtain ⟨f1, f2⟩ := f; have := hfr (by omega) (by omega); omega
              have g : z0 = b' ∨ ¬ z0 = b' := by omega
            case' inl.inr.inr =>
              subst q
              have f : ¬ (z0 = a' ∧ z1 = a') := fun f => by obtain ⟨f1, f2⟩ := f; have := hfr (by omega) (by omega); omega
              have g : z0 = a' ∨ ¬ z0 = a' := by omega
            case' inr.inl =>
              have f : ¬ (z1 = a' ∧ z0 = b') := fun f => by obtain ⟨f1, f2⟩ := f; have := hfr (by omega) (by omega); omega
              have g : z1 = a' ∨ ¬ z1 = a' := by omega
            case' inr.inr.inl =>
              have f : ¬ (z1 = b' ∧ z0 = a') := fun f => by obtain ⟨f1, f2⟩ := f; have := hfr (by omega) (by omega); omega
              have g : z1 = b' ∨ ¬ z1 = b' := by omega
            case' inr.inr.inr =>
              subst q
              have f : ¬ (z1 = a' ∧ z0 = a') := fun f => by obtain ⟨f1, f2⟩ := f; have := hfr (by omega) (by omega); omega
              have g : z1 = a' ∨ ¬ z1 = a' := by omega
            all_goals
              clear hfr
              rcases g with g | g
            all_goals
              try (subst g)
              try (simp only [true_and] at f)
              try (simp only [g, false_and, not_false_eq_true] at f)
              have o2 := Int.lt_asymm o
              try (have q2 := Int.lt_asymm q)
            all_goals
              obtain ⟨w6, hw6⟩ : ∃ x, x = w5.alloc (.cells #[.int .i64 z0, .int .i64 z1, .slice (some ad5) 1 cy5] 37) := ⟨_, rfl⟩
              have hb6 : Below w5.heap.size w5 w6 := by rw [hw6]; exact (Below.refl _ _).alloc (Nat.le_refl _) _
              have hX6 : w6.heap[w5.heap.size]? = some (.cells #[.int .i64 z0, .int .i64 z1, .slice (some ad5) 1 cy5] 37 (0, 0)) := by rw [hw6]; exact heap_alloc_new _ _
              have hS6 := HS5.out.go hb6
              have hd6 : w6.cell? ad5 = some (.int .u8 z2) := (hb6.cell (p := ad5) hlt5).trans HD5.out
              obtain ⟨hy0, hy1, hy2⟩ := HSEE.out
              have HY2 := Lib.hid hy2
              have hlk0 := hS6.seen.look0 hy1 hy0
              obtain ⟨w7, hup7, hS7, hg7⟩ := hS6.see hy1 hy0 (by unfold maxLen; omega)
              have hlk1 := hS7.seen.look1 hy1 (by simp)
              have hnsb : w5.heap.size ≠ sb := by have := HS5.out.seen.lt; omega
              have hX7 : w7.heap[w5.heap.size]? = some (.cells #[.int .i64 z0, .int .i64 z1, .slice (some ad5) 1 cy5] 37 (0, 0)) := (hg7.block _ (lt_of_block hX6) (fun e => by injection e with e; omega)).trans hX6
              have hd7 : w7.cell? ad5 = some (.int .u8 z2) := (World.cell?_of_block (hg7.block _ (lt_of_cell hd6) (fun e => by injection e with e; omega))).trans hd6
              have hp6 : w6.cell? (ad5.add 0) = some (.int .u8 z2) := by rw [show ad5.add 0 = ad5 from by simp [Addr.add]]; exact hd6
              have hp7 : w7.cell? (ad5.add 0) = some (.int .u8 z2) := by rw [show ad5.add 0 = ad5 from by simp [Addr.add]]; exact hd7
              have x0 := three_cell0 hX6
              have x1 := three_cell1 hX6
              have x2 := three_cell2 hX6
              have y2 := three_cell2 hX7
              have HS7 := Lib.hid hS7
              clear hS6 hS7 hy0 hy1 hy2 HSEE HS5 HD5 hb6 hX6 hX7 hg7
              have l6 : (1 : Int) ≤ (cy5 : Int) := by omega
              subst hw6
              go_wp2_with fail
              go_roundw
              case rel => exact ⟨j + 1, nn + 1, P.eraseIdx r, ks ++ [z2], by omega, by go_num, by omega, by omega, by rw [List.length_append]; have := HLE.out; simp; omega, HY2.out, HS7.out⟩
              case measure => simp [intOf]; omega
        all_goals
          have HSL := Lib.hid hT.seen.len
          have HB := Lib.hid hT.below
          have hsum : (ks.length : Int) + (hqn : Int) = (po : Int) := by omega
          have hws : IntKind.i64.wrap ((ks.length : Int) + (hqn : Int)) = (po : Int) := by rw [hsum, IntKind.wrap_i64]; omega
          have HWS := Lib.hid hws
          clear hws hsum HSPE HU
          first
            | (have h1' : j < ds.length := by rw [HM.out]; exact h1
               obtain ⟨ad, rfl, _, q0⟩ := (HRD.out.below hT.below) j (by rw [bs_len]; exact h1')
               rw [bs_at h1'] at q0
               generalize ds[j]'h1' = d at *
               have j1 : (j : Int) < (m : Int) := by omega
               have j2 : ¬ (j : Int) ≥ 60 := by omega
               have j3 : ¬ (60 : Int) ≤ (j : Int) := by omega
               have j4 : (0 : Int) ≤ (j : Int) := by omega
               clear hT
               go_wp2_with fail
               refine (HLEN.out).mono ?_
               rintro e w3 ⟨rfl, hw⟩
               have hw := hw.symm
               subst hw
               subst h3
               have j5 : ((0 : Nat) : Int) = 0 := rfl
               have hsl := HSL.out
               go_wp2_with fail)
            | (have j1 : (j : Int) < (m : Int) := by omega
               have h1' : j < ds.length := by rw [HM.out]; exact h1
               obtain ⟨ad, rfl, _, q0⟩ := (HRD.out.below hT.below) j (by rw [bs_len]; exact h1')
               rw [bs_at h1'] at q0
               generalize ds[j]'h1' = d at *
               have j3 : (60 : Int) ≤ (j : Int) := by omega
               have j4 : (0 : Int) ≤ (j : Int) := by omega
               have hsl := HSL.out
               clear hT
               go_wp2_with fail)
            | (have j1 : ¬ (j : Int) < (m : Int) := by omega
               have hsl := HSL.out
               clear hT
               go_wp2_with fail)
        all_goals
          refine (HLEN.out).mono ?_
          rintro e w3 ⟨rfl, hw⟩
          have hw := hw.symm
          subst hw
          have hws := HWS.out
          try (have hkp : (ks.length : Int) = (po : Int) := by omega)
          go_wp2_with fail
          go_ret
          exact ⟨rfl, HB.out⟩

end Go.Proofs.Ytalifbajihkenaa
