/-
  The law NetOrders, walked.
-/
import Derived.Test.YtalifbajihkenaaOrdM
import Derived.BigRegion
namespace Go.Proofs.Ytalifbajihkenaa
open Go.RowKit Go.Maps
set_option linter.unusedSimpArgs false
set_option linter.unusedVariables false

theorem wrap_byte {i : Nat} (h : i < 30) : IntKind.u8.wrap (i : Int) = (i : Int) := by
  have : ∀ j : Fin 30, IntKind.u8.wrap ((j : Nat) : Int) = ((j : Nat) : Int) := by decide
  exact this ⟨i, h⟩

set_option maxRecDepth 100000 in
set_option maxHeartbeats 4000000 in
theorem orders_walk (A A2 : Option Addr) (ls : List L3) (ds : List Int) (c c2 : Nat) (w : World) (hat : LetIn w A ls) (hl : ls.length ≤ 9223372036854775807) (hrow : Row w A2 (bs ds)) (hl2 : ds.length ≤ 9223372036854775807) (h8 : Bytes8 ds) :
    Calls Try.prog 5 #[.slice A ls.length c, .slice A2 ds.length c2] w fun e w' => e = .returned (.bool true) ∧ Below w.heap.size w w' := by
  have HAT := Lib.hid hat
  have HRD := Lib.hid hrow
  have H8 := Lib.hid h8
  have HA := Lib.hid (awake_any w)
  obtain ⟨n, hn⟩ : ∃ n, n = ls.length := ⟨_, rfl⟩
  obtain ⟨m, hm⟩ : ∃ n, n = ds.length := ⟨_, rfl⟩
  rw [← hn] at hl ⊢
  rw [← hm] at hl2 ⊢
  have HN : Hid (ls.length = n) := hn.symm
  have HM : Hid (ds.length = m) := hm.symm
  clear hat hrow h8 hn hm
  go_enter Try.func5, Try.ntmps5
  go_wp2_with fail
  refine (HA.out).mono ?_
  rintro e w1 ⟨rfl, hb1⟩
  have HB1 := Lib.hid hb1
  have HNW := Lib.hid (new_any w1 4 (by decide) (by decide))
  clear hb1 HA
  go_wp2_with fail
  refine (HNW.out).mono ?_
  rintro e w2 ⟨rfl, hN2, hb2⟩
  have HT0 : Hid (S1 w w1.heap.size (w1.heap.size + 1) w1.heap.size [] [] (.slice none 0 0) w2) :=
    ⟨⟨_, [], hN2, World.ownsRow_nil w2 _ 37 3, (fun a n c hm => by cases hm), (fun a n c hm => by cases hm)⟩, World.ownsRow_nil w2 _ 5 1, HB1.out.trans (hb2.mono HB1.out.size), HB1.out.size, hb2.size⟩
  obtain ⟨b, hbq⟩ : ∃ b, b = w1.heap.size + 1 := ⟨_, rfl⟩
  obtain ⟨mb, hmq⟩ : ∃ mb, mb = w1.heap.size := ⟨_, rfl⟩
  obtain ⟨B, hBq⟩ : ∃ B, B = w1.heap.size := ⟨_, rfl⟩
  have HT1 : Hid (S1 w B b mb [] [] (.slice none 0 0) w2) := by show S1 _ _ _ _ _ _ _ _; rw [hmq, hBq, hbq]; exact HT0.out
  rw [← hbq]
  clear hbq hmq hBq hN2 hb2 HT0 HNW
  go_wp2_with fail
  go_loopw [7, 8, 25] (fun u _ i wr => ∃ (k : Nat) (P : List PL), k ≤ n ∧ i = .int .i64 k ∧ P.length ≤ min k 30 ∧ S1 w B b mb P (P.map (·.2.2)) u wr) (fun _ _ i _ => n - (intOf i).toNat)
  case atStart => exact ⟨0, [], Nat.zero_le _, rfl, by simp, HT1.out⟩
  case round =>
    obtain ⟨k, P, hk, rfl, hP, hT⟩ := hrel
    by_cases hlt : k < n
    · have hlt' : k < ls.length := by rw [HN.out]; exact hlt
      obtain ⟨ad, rfl, _, q0, q1, Y, cy, q2, _⟩ := (HAT.out.below hT.below) k hlt'
      have i1 : (k : Int) < (n : Int) := by omega
      have i0 : (0 : Int) ≤ (k : Int) := by omega
      have HTT := Lib.hid hT
      clear hT
      generalize (ls[k]'hlt').1 = z0 at *
      generalize (ls[k]'hlt').2.1 = z1 at *
      generalize (ls[k]'hlt').2.2.length = z2 at *
      by_cases h30 : k < 30
      · have i2 : (k : Int) < 30 := by omega
        have hwb := wrap_byte h30
        have hP2 : P.length ≤ k := by omega
        obtain ⟨w3, hw3⟩ : ∃ x, x = ((wr.alloc (.cells #[.int .i64 z0, .int .i64 z1, .slice Y z2 cy] 40)).alloc (.cells #[.int .u8 (k : Int)] 5)).alloc (.cells #[.int .i64 z0, .int .i64 z1, .slice (some ⟨wr.heap.size + 1, 0, none⟩) 1 1] 37) := ⟨_, rfl⟩
        have hb3 : Below wr.heap.size wr w3 := by rw [hw3]; exact (((Below.refl _ _).alloc (Nat.le_refl _) _).alloc (by simp) _).alloc (by simp; omega) _
        have hB3 : w3.heap[wr.heap.size + 1]? = some (.cells #[.int .u8 (k : Int)] 5 (0, 0)) := by
          rw [hw3, Below.heap_alloc _ _ _ (by simp)]; exact new_at (by simp)
        have hL3 : w3.heap[wr.heap.size + 1 + 1]? = some (.cells #[.int .i64 z0, .int .i64 z1, .slice (some ⟨wr.heap.size + 1, 0, none⟩) 1 1] 37 (0, 0)) := by
          rw [hw3]; exact new_at (by simp)
        have HPO := Lib.hid (HTT.out.post hb3 hB3 hL3 (by omega) (by omega) (by omega))
        clear hb3 hB3 hL3
        go_wp2_with fail
        rw [← hw3]
        refine (HPO.out).mono ?_
        rintro e w5 ⟨rfl, hS5⟩
        clear HPO hw3 q0 q1 q2 HTT
        cases hap : apartB 4 z0 z1 with
        | false =>
          rw [hap] at hS5
          simp only [Bool.false_eq_true, if_false] at hS5 ⊢
          have HS5 := Lib.hid hS5
          clear hS5
          go_wp2_with fail
          go_roundw
          case rel => exact ⟨k + 1, P, by omega, by go_num, by omega, HS5.out⟩
          case measure => simp [intOf]; omega
        | true =>
          rw [hap] at hS5
          simp only [if_true] at hS5 ⊢
          have HS6 := Lib.hid (hS5.go (W := w5.alloc (.cells #[.int .u8 (k : Int)] 5)) ((Below.refl _ _).alloc (Nat.le_refl _) _))
          have hlq : (P.map (·.2.2)).length ≤ 1000 := by simp; omega
          clear hS5
          go_wp2_with (at_builtin; refine wpList_append_el elem35 rfl (.tmp 46) (.tmp 49) rfl B u7 (P.map (·.2.2)).length (bs (P.map (·.2.2))) rfl HS6.out.want _ 1 1 [.int .u8 (k : Int)] rfl rfl (news_one (heap_alloc_new w5 _)) (by simp [Value.oneCell']) (by unfold maxLen; omega) (by omega) HS6.out.base.2 ?_; intro A7 c7 w7 ho7 hg7 hv7; have HS7 := Lib.hid (HS6.out.put ho7 hg7 hv7); clear ho7 hg7 hv7)
          go_roundw
          case rel => exact ⟨k + 1, P ++ [(z0, z1, (k : Int))], by omega, by go_num, by simp; omega, by simpa using HS7.out⟩
          case measure => simp [intOf]; omega
      · have i2 : ¬ (k : Int) < 30 := by omega
        have HT' := Lib.hid (HTT.out.go (W := wr.alloc (.cells #[.int .i64 z0, .int .i64 z1, .slice Y z2 cy] 40)) ((Below.refl _ _).alloc (Nat.le_refl _) _))
        go_wp2_with fail
        go_roundw
        case rel => exact ⟨k + 1, P, by omega, by go_num, by omega, HT'.out⟩
        case measure => simp [intOf]; omega
    · have i1 : ¬ (k : Int) < (n : Int) := by omega
      have HS0 := Lib.hid hT.two
      clear hT HT1
      have hPL : P.length ≤ 30 := by omega
      go_wp2_with fail
      go_loopw [7, 54] (fun u i wx => ∃ (j : Nat) (P : List PL), j ≤ m ∧ i = .int .i64 j ∧ P.length ≤ 30 ∧ S2 w B b mb P (P.map (·.2.2)) u wx) (fun _ i _ => m - (intOf i).toNat)
      case atStart => exact ⟨0, P, Nat.zero_le _, rfl, hPL, HS0.out⟩
      case round =>
        clear HS0 hPL hP hlt i1 hk
        obtain ⟨j, P, hj, rfl, hP, hT⟩ := hrel
        have hex : (j < m ∧ j < 20 ∧ P.length ≠ 0) ∨ (¬ j < m) ∨ (j < m ∧ ¬ j < 20) ∨ (j < m ∧ j < 20 ∧ P.length = 0) := by omega
        have HX := Lib.hid hex
        obtain ⟨hqn, hqq⟩ : ∃ x, x = P.length := ⟨_, rfl⟩
        have HLEN := Lib.hid hT.len
        have HQ : Hid (P.length = hqn) := hqq.symm
        rw [← hqq] at HLEN hex hP
        clear hqq
        rcases hex with ⟨h1, h2, h3⟩ | h1 | ⟨h1, h2⟩ | ⟨h1, h2, h3⟩
        · have h1' : j < ds.length := by rw [HM.out]; exact h1
          obtain ⟨ad, rfl, _, q0⟩ := (HRD.out.below hT.below) j (by rw [bs_len]; exact h1')
          rw [bs_at h1'] at q0
          have hd8 := H8.out _ (List.getElem_mem h1')
          generalize ds[j]'h1' = d at *
          obtain ⟨dn, rfl⟩ : ∃ dn : Nat, d = dn := ⟨d.toNat, by omega⟩
          have j1 : (j : Int) < (m : Int) := by omega
          have j2 : ¬ (j : Int) ≥ 20 := by omega
          have j3 : ¬ (20 : Int) ≤ (j : Int) := by omega
          have j4 : (0 : Int) ≤ (j : Int) := by omega
          have j5 : ¬ (hqn : Int) = 0 := by omega
          have hwd : IntKind.i64.wrap (dn : Int) = (dn : Int) := by rw [IntKind.wrap_i64]; omega
          have htm : Int.tmod (dn : Int) (hqn : Int) = ((dn % hqn : Nat) : Int) := by rw [Int.tmod_eq_emod_of_nonneg (by omega)]; omega
          have hem : (dn : Int) % (hqn : Int) = ((dn % hqn : Nat) : Int) := by omega
          have hrl : dn % hqn < hqn := Nat.mod_lt _ (by omega)
          generalize dn % hqn = r at *
          have HDR := Lib.hid (hT.drop (k := r) (by rw [HQ.out]; exact hrl))
          have HTT := Lib.hid hT
          clear hT
          go_wp2_with fail
          refine (HLEN.out).mono ?_
          rintro e w3 ⟨rfl, hw⟩
          have hw := hw.symm
          subst hw
          go_wp2_with fail
          refine (HLEN.out).mono ?_
          rintro e w3 ⟨rfl, hw⟩
          have hw := hw.symm
          subst hw
          go_wp2_with fail
          refine (HDR.out).mono ?_
          rintro e w4 ⟨rfl, hS4⟩
          have hql : (P.map (·.2.2)).length = hqn := by rw [List.length_map]; exact HQ.out
          obtain ⟨g, cap, cur, rfl, hBg, hh, hnc, hcm, hcs, htk⟩ : ∃ g cap cur, u7 = .slice (some ⟨g, 0, none⟩) hqn cap ∧ B ≤ g ∧ w4.heap[g]? = some (.cells cur 5 (0, 0)) ∧ hqn ≤ cap ∧ cap ≤ maxLen ∧ cur.size = cap * 1 ∧ cur.toList.take (hqn * 1) = bs (P.map (·.2.2)) := by
            have := hS4.want
            rw [hql] at this
            rcases this.2 with ⟨_, e⟩ | e
            · omega
            · exact e
          have hcells : ∀ q, q < hqn → w4.cell? ⟨g, q, none⟩ = (bs (P.map (·.2.2)))[q]? := fun q hq => by
            rw [← htk, List.getElem?_take_of_lt (by omega), Array.getElem?_toList]
            simp [World.cell?, hh]
          have HS4 := Lib.hid hS4
          have hmx : maxLen = 9223372036854775807 := rfl
          have k1 : (r : Int) ≤ (cap : Int) := by omega
          have k2 : (r : Int) + 1 ≤ (hqn : Int) := by omega
          have k3 : (0 : Int) ≤ (r : Int) + 1 := by omega
          have k4 : (r : Int) + 1 ≤ (cap : Int) := by omega
          have k5 : (0 : Int) ≤ (r : Int) := by omega
          have k6 : IntKind.i64.wrap ((r : Int) + 1) = (r : Int) + 1 := by rw [IntKind.wrap_i64]; omega
          have k7 : ((r : Int) + 1).toNat = r + 1 := by omega
          have k8 : (hqn : Int) ≤ (cap : Int) := by omega
          clear hS4 HDR HLEN HTT
          have hbl : (bs (P.map (·.2.2))).length = hqn := by rw [bs_len]; exact hql
          have hgl := lt_of_block hh
          have ho0 : (w4.alloc (.cells #[] 5)).drew.ownsRow w4.heap.size 5 1 (.slice (some ⟨w4.heap.size, 0, none⟩) 0 0) 0 [] := World.ownsRow_lit w4 #[] 0 (Nat.le_refl _) (by decide) rfl
          have hn0 : ∀ (q : Nat) (x : Value), ((bs (P.map (·.2.2))).take r)[q]? = some x → ∃ ad, (some ⟨g, 0, none⟩ : Option Addr) = some ad ∧ (w4.alloc (.cells #[] 5)).drew.cell? (ad.add q) = some x := fun q x hq => by
            have hqr : q < r := by have := (List.getElem?_eq_some_iff.1 hq).1; simp at this; omega
            rw [List.getElem?_take_of_lt hqr] at hq
            refine ⟨_, rfl, ?_⟩
            rw [lit_add, Nat.zero_add]
            exact ((World.cell?_of_block (a := ⟨g, q, none⟩) (Below.heap_alloc w4 _ _ hgl)).trans (hcells q (by omega))).trans hq
          have hn1 : ∀ w7 : World, (w4.alloc (.cells #[] 5)).drew.grownBy w7 (some w4.heap.size) → ∀ (q : Nat) (x : Value), ((bs (P.map (·.2.2))).drop (r + 1))[q]? = some x → ∃ ad, (some ⟨g, r + 1, none⟩ : Option Addr) = some ad ∧ w7.cell? (ad.add q) = some x := fun w7 hg7 q x hq => by
            have hqr : r + 1 + q < hqn := by have := (List.getElem?_eq_some_iff.1 hq).1; rw [List.length_drop, hbl] at this; omega
            rw [List.getElem?_drop] at hq
            refine ⟨_, rfl, ?_⟩
            rw [lit_add]
            have h7 : w7.heap[g]? = w4.heap[g]? := (hg7.block g (by simp; omega) (fun e => by injection e with e; omega)).trans (Below.heap_alloc w4 _ _ hgl)
            exact ((World.cell?_of_block (a := ⟨g, r + 1 + q, none⟩) h7).trans (hcells _ hqr)).trans hq
          have h1t : ∀ x ∈ (bs (P.map (·.2.2))).take r, x.oneCell' = true := fun x hx => bs_one _ x (List.mem_of_mem_take hx)
          have h1d : ∀ x ∈ (bs (P.map (·.2.2))).drop (r + 1), x.oneCell' = true := fun x hx => bs_one _ x (List.mem_of_mem_drop hx)
          have hlt' : ((bs (P.map (·.2.2))).take r).length = r * 1 := by rw [List.length_take, hbl]; omega
          have hld : ((bs (P.map (·.2.2))).drop (r + 1)).length = (hqn - (r + 1)) * 1 := by rw [List.length_drop, hbl]; omega
          have hfin : ∀ w7 w9 A7 A9 c7 c9, (w4.alloc (.cells #[] 5)).drew.grownBy w7 (some w4.heap.size) → w7.ownsRow w4.heap.size 5 1 (.slice A7 r c7) r ((bs (P.map (·.2.2))).take r) → w7.grownBy w9 (Value.slice A7 r c7).ownBlock → w9.ownsRow w4.heap.size 5 1 (.slice A9 (r + (hqn - (r + 1))) c9) (r + (hqn - (r + 1))) ((bs (P.map (·.2.2))).take r ++ (bs (P.map (·.2.2))).drop (r + 1)) → S2 w B b mb (P.eraseIdx r) ((P.eraseIdx r).map (·.2.2)) (.slice A9 (r + (hqn - (r + 1))) c9) w9 := fun w7 w9 A7 A9 c7 c9 hg7 ho7 hg9 ho9 => by
            have b0 : Below w4.heap.size w4 (w4.alloc (.cells #[] 5)).drew := ((Below.refl _ _).alloc (Nat.le_refl _) _).drew
            have b7 : Below w4.heap.size w4 w7 := b0.grown hg7 (by simp) (fun q e => by injection e with e; omega)
            have b9 : Below w4.heap.size w4 w9 := b7.grown hg9 b7.size (fun q e => (own_lt ho7 e).1)
            have := HS4.out.cutQ b9 hql hrl ho9
            have hme : (P.map (·.2.2)).eraseIdx r = (P.eraseIdx r).map (·.2.2) := mapErase _ _ _
            rw [hme] at this
            exact this
          have hbs : w4.heap.size ≤ (w4.alloc (.cells #[] 5)).drew.heap.size := by show _ ≤ (World.alloc _ _).heap.size; simp
          by_cases hc1 : cap = r + 1
          · have hq1 : hqn = r + 1 := by omega
            have hnE : ∀ (X : Option Addr) (w7 : World) (q : Nat) (x : Value), ((bs (P.map (·.2.2))).drop (r + 1))[q]? = some x → ∃ ad, X = some ad ∧ w7.cell? (ad.add q) = some x := fun X w7 q x hq => by
              have := (List.getElem?_eq_some_iff.1 hq).1
              omega
            have hc2 : (cap : Int) - ((r : Int) + 1) = 0 := by omega
            have HC1 := Lib.hid hc1
            clear hc1 hq1
            go_wp2_with fail
            go_region_law (first
              | (refine step_append_el0 elem35 (by rfl) (.tmp 74) (.tmp 77) (by rfl) w4.heap.size _ (by rfl) ho0 (some ⟨g, 0, none⟩) r cap ((bs (P.map (·.2.2))).take r) (by rfl) hlt' hn0 h1t (by omega) (by omega) hbs ?_; intro A7 c7 w7 ho7 hg7 hv7; have hs7 := hg7.size)
              | (refine step_append_el elem35 (by rfl) (.tmp 78) (.tmp 82) (by rfl) w4.heap.size _ r ((bs (P.map (·.2.2))).take r) (by rfl) ho7 _ (hqn - (r + 1)) _ ((bs (P.map (·.2.2))).drop (r + 1)) (by rfl) hld (hnE _ w7) h1d (by omega) (by omega) (Nat.le_trans hbs hs7) ?_; intro A9 c9 w9 ho9 hg9 hv9))
            have HF := Lib.hid (hfin w7 w9 A7 A9 c7 c9 hg7 ho7 hg9 ho9)
            have HLE : Hid ((P.eraseIdx r).length ≤ 30) := by show _ ≤ _; have := List.length_eraseIdx_le P r; have := HQ.out; omega
            clear hfin ho9 hg9 hv9 ho7 hg7 hv7 hs7 hn0 hn1 h1t h1d hlt' hld ho0 hbs hcells hh htk
            go_wp2_with fail
            go_roundw
            case rel => exact ⟨j + 1, P.eraseIdx r, by omega, by go_num, HLE.out, HF.out⟩
            case measure => simp [intOf]; omega
          · have hc2 : ¬ (cap : Int) - ((r : Int) + 1) = 0 := by omega
            go_wp2_with fail
            go_region_law (first
              | (refine step_append_el0 elem35 (by rfl) (.tmp 74) (.tmp 77) (by rfl) w4.heap.size _ (by rfl) ho0 (some ⟨g, 0, none⟩) r cap ((bs (P.map (·.2.2))).take r) (by rfl) hlt' hn0 h1t (by omega) (by omega) hbs ?_; intro A7 c7 w7 ho7 hg7 hv7; have hs7 := hg7.size)
              | (refine step_append_el elem35 (by rfl) (.tmp 78) (.tmp 82) (by rfl) w4.heap.size _ r ((bs (P.map (·.2.2))).take r) (by rfl) ho7 (some ⟨g, r + 1, none⟩) (hqn - (r + 1)) (cap - (r + 1)) ((bs (P.map (·.2.2))).drop (r + 1)) (by rfl) hld (hn1 w7 hg7) h1d (by omega) (by omega) (Nat.le_trans hbs hs7) ?_; intro A9 c9 w9 ho9 hg9 hv9))
            have HF := Lib.hid (hfin w7 w9 A7 A9 c7 c9 hg7 ho7 hg9 ho9)
            have HLE : Hid ((P.eraseIdx r).length ≤ 30) := by show _ ≤ _; have := List.length_eraseIdx_le P r; have := HQ.out; omega
            clear hfin ho9 hg9 hv9 ho7 hg7 hv7 hs7 hn0 hn1 h1t h1d hlt' hld ho0 hbs hcells hh htk
            go_wp2_with fail
            go_roundw
            case rel => exact ⟨j + 1, P.eraseIdx r, by omega, by go_num, HLE.out, HF.out⟩
            case measure => simp [intOf]; omega
        all_goals
          have HTT := Lib.hid hT
          have hql : (P.map (·.2.2)).length = hqn := by rw [List.length_map]; exact HQ.out
          obtain ⟨A8, c8, rfl, hc8⟩ := own_form hT.want
          rw [hql] at HTT hc8 ⊢
          have HC8 := Lib.hid hc8
          clear hc8 hql
          first
            | (have j5 : (hqn : Int) = 0 := by omega
               have h1' : j < ds.length := by rw [HM.out]; exact h1
               obtain ⟨ad, rfl, _, q0⟩ := (HRD.out.below hT.below) j (by rw [bs_len]; exact h1')
               rw [bs_at h1'] at q0
               generalize ds[j]'h1' = d at *
               have j1 : (j : Int) < (m : Int) := by omega
               have j2 : ¬ (j : Int) ≥ 20 := by omega
               have j3 : ¬ (20 : Int) ≤ (j : Int) := by omega
               have j4 : (0 : Int) ≤ (j : Int) := by omega
               clear hT
               go_wp2_with fail
               refine (HLEN.out).mono ?_
               rintro e w3 ⟨rfl, hw⟩
               have hw := hw.symm
               subst hw
               go_wp2_with fail)
            | (have j1 : (j : Int) < (m : Int) := by omega
               have h1' : j < ds.length := by rw [HM.out]; exact h1
               obtain ⟨ad, rfl, _, q0⟩ := (HRD.out.below hT.below) j (by rw [bs_len]; exact h1')
               rw [bs_at h1'] at q0
               generalize ds[j]'h1' = d at *
               have j3 : (20 : Int) ≤ (j : Int) := by omega
               have j4 : (0 : Int) ≤ (j : Int) := by omega
               clear hT
               go_wp2_with fail)
            | (have j1 : ¬ (j : Int) < (m : Int) := by omega
               clear hT
               go_wp2_with fail)
        all_goals
          clear HLEN HX
          have HW0 : Hid (∀ q (hq : q < hqn) (W : World), W.ownsRow B 5 1 (.slice A8 hqn c8) hqn (bs (P.map (·.2.2))) → ∃ a8, A8 = some a8 ∧ a8.block < W.heap.size ∧ W.cell? (a8.add q) = some (.int .u8 (P[q]'(by rw [HQ.out]; exact hq)).2.2)) := fun q hq W hW => by
            obtain ⟨A', c', e, _, hr⟩ := Row.of_own hW
            injection e with e1 _ _
            subst e1
            obtain ⟨a8, rfl, k1, k2⟩ := hr q (by rw [bs_len, List.length_map, HQ.out]; exact hq)
            refine ⟨a8, rfl, k1, ?_⟩
            rw [k2, bs_at (by rw [List.length_map, HQ.out]; exact hq)]
            simp
          have HS0 : Hid (S2 w B b mb (P.drop 0) (P.map (·.2.2)) (.slice A8 hqn c8) wr) := HTT.out
          have hql : (P.map (·.2.2)).length = hqn := by rw [List.length_map]; exact HQ.out
          have HQL := Lib.hid hql
          clear hql HTT
          go_loopw [87] (fun i wx => ∃ q : Nat, q ≤ hqn ∧ i = .int .i64 q ∧ S2 w B b mb (P.drop q) (P.map (·.2.2)) (.slice A8 hqn c8) wx) (fun i _ => hqn - (intOf i).toNat)
          case atStart => exact ⟨0, Nat.zero_le _, rfl, HS0.out⟩
          case round =>
            clear HS0
            obtain ⟨q, hq, rfl, hS⟩ := hrel
            by_cases hlt : q < hqn
            · first
              | (exfalso; omega)
              | (have l1 : (q : Int) < (hqn : Int) := by omega
                 have l2 : (0 : Int) ≤ (q : Int) := by omega
                 have hqP : q < P.length := by rw [HQ.out]; exact hlt
                 obtain ⟨a8, rfl, _, d0⟩ := HW0.out q hlt _ (by have := hS.want; rw [HQL.out] at this; exact this)
                 have HTK := Lib.hid (hS.take (List.drop_eq_getElem_cons hqP))
                 generalize P[q]'hqP = z at *
                 obtain ⟨z0, z1, z2⟩ := z
                 simp only at d0
                 clear hS
                 unfold letV at HTK
                 go_wp2_with fail
                 refine (HTK.out).mono ?_
                 rintro e w5 ⟨ad5, cy5, rfl, l5, hlt5, d5, hS5⟩
                 have HS6 := Lib.hid (hS5.go (W := w5.alloc (.cells #[.int .i64 z0, .int .i64 z1, .slice (some ad5) 1 cy5] 37)) ((Below.refl _ _).alloc (Nat.le_refl _) _))
                 have d6 : (w5.alloc (.cells #[.int .i64 z0, .int .i64 z1, .slice (some ad5) 1 cy5] 37)).cell? ad5 = some (.int .u8 z2) := (World.cell?_of_block (Below.heap_alloc w5 _ _ hlt5)).trans d5
                 have d7 : (w5.alloc (.cells #[.int .i64 z0, .int .i64 z1, .slice (some ad5) 1 cy5] 37)).cell? (ad5.add 0) = some (.int .u8 z2) := by rw [show ad5.add 0 = ad5 from by simp [Addr.add]]; exact d6
                 clear HTK hS5 d0
                 go_wp2_with fail
                 go_roundw
                 case rel => exact ⟨q + 1, by omega, by go_num, HS6.out⟩
                 case measure => simp [intOf]; omega)
            · have l1 : ¬ (q : Int) < (hqn : Int) := by omega
              have hnil : P.drop q = [] := List.drop_of_length_le (by rw [HQ.out]; omega)
              rw [hnil] at hS
              have HL := Lib.hid hS.len
              have HB := Lib.hid hS.below
              simp only [List.length_nil] at HL
              clear hS
              go_wp2_with fail
              refine (HL.out).mono ?_
              rintro e w5 ⟨rfl, hw⟩
              have hw := hw.symm
              subst hw
              go_wp2_with fail
              go_ret
              exact ⟨rfl, HB.out⟩

end Go.Proofs.Ytalifbajihkenaa
