/-
  The contract of ref01's Next.
-/
import Derived.Test.YtaihemmnpliehaaDoorNext
namespace Go.Proofs.YtaihemmnpliehaaDoor
open Go.RowKit

theorem quiet_left {P : Program} {f : FuncId} {args : Array Value} {w : World} {n : Nat} {v : Value}
    (h : Calls P f args (w.drewN n) fun e w' => e = .returned v ∧ w.drewN n = w') : Calls P f args (w.drewN n) fun e w'' => e = .returned v ∧ ∃ m, w'' = w.drewN m :=
  h.mono fun _ _ ⟨he, hm⟩ => ⟨he, n, hm.symm⟩

theorem num_two {p : List Int} (h : 6 ≤ p.length) : num ((p.drop 4).take 2) = saidSize p := by
  rw [List.drop_eq_getElem_cons (by omega), List.drop_eq_getElem_cons (by omega)]
  simp only [List.take_succ_cons, List.take_zero, num, saidSize]
  rw [List.getD_eq_getElem?_getD, List.getD_eq_getElem?_getD, List.getElem?_eq_getElem (by omega), List.getElem?_eq_getElem (by omega)]
  simp
theorem num_four {p : List Int} (h : 4 ≤ p.length) : num (p.take 4) = said4 p 4 := by
  rcases p with _ | ⟨a, _ | ⟨b, _ | ⟨c, _ | ⟨d, p⟩⟩⟩⟩
  all_goals simp at h
  simp [num, said4]
  omega

/-- what Next answers; what stands behind fits its room -/
def GivesN2 (w : World) (r : List Int × List Int × Int) (e : Ending) (w' : World) : Prop :=
  ∃ A c B d, e = .returned (.tuple #[.slice A r.1.length c, .slice B r.2.1.length d, .int .i64 r.2.2]) ∧ Row (fun g => w.heap.size ≤ g) w' A (u8s r.1) ∧ Row (fun g => w.heap.size ≤ g) w' B (u8s r.2.1) ∧ Below w.heap.size w w' ∧ r.2.1.length ≤ d

theorem copy_at (S : Nat → Prop) (A A' : Option Addr) (s n c : Nat) (p : List Int) (w u : World) (hrow : Row S w A (u8s p)) (hu : Below w.heap.size w u) (hA : 0 < n → A' = A.map (·.add s)) (hn : s + n ≤ p.length) (hpl : p.length ≤ 70368744177664) :
    Calls Tryd.prog 18 #[.slice A' n c] u fun e u' => ∃ A2 c2, e = .returned (.slice A2 n c2) ∧ Row (fun g => w.heap.size ≤ g) u' A2 (u8s ((p.drop s).take n)) ∧ Below w.heap.size w u' ∧ Below u.heap.size u u' ∧ n ≤ c2 := by
  have hl : ((p.drop s).take n).length = n := by rw [List.length_take, List.length_drop]; omega
  refine (copy_any S A' n c ((p.drop s).take n) u hl ((hrow.below hu).piece s n hA) (by omega)).mono ?_
  rintro e u' ⟨A2, c2, rfl, hc2, _, hr2, hb2⟩
  exact ⟨A2, c2, rfl, hr2.mono fun g _ h => Nat.le_trans hu.size h, hu.trans (hb2.mono hu.size), hb2, hc2⟩

set_option maxRecDepth 100000 in
set_option maxHeartbeats 1600000 in
theorem rnext2_any (S : Nat → Prop) (A : Option Addr) (k c : Nat) (p : List Int) (w : World) (hk : p.length = k) (hrow : Row S w A (u8s p)) (hc : p.length ≤ c) (hpl : p.length ≤ 70368744177664) (h8 : Bytes8 p) :
    Calls Tryd.prog 20 #[.slice A k c] w fun e w' => GivesN2 w (nextS p) e w' := by
  subst hk
  by_cases hs : p.length < 6
  · have hop : nextS p = ([], [], 2) := by unfold nextS endS; rw [if_pos hs]; rfl
    rw [hop]
    have hs' : (p.length : Int) < 6 := by omega
    go_enter Tryd.func20, Tryd.ntmps20
    go_wp2_with fail
    go_ret3
    exact ⟨none, 0, none, 0, rfl, Row.nil, Row.nil, Below.refl _ _, Nat.le_refl _⟩
  · have hs' : ¬ (p.length : Int) < 6 := by omega
    obtain ⟨ad, rfl, _⟩ := hrow 0 (by rw [u8s_len]; omega)
    have hn2 := num_two (p := p) (by omega)
    have h82 : Bytes8 ((p.drop 4).take 2) := fun z hz => h8 z (List.mem_of_mem_drop (List.mem_of_mem_take hz))
    have hp2 := hrow.piece (A' := some (ad.add 4)) 4 2 (fun _ => rfl)
    have hl2 : ((p.drop 4).take 2).length = 2 := by rw [List.length_take, List.length_drop]; omega
    have N2 := num_any S (some (ad.add 4)) 2 (c - 4) _ w hl2 hp2 h82 (by omega)
    have hlt := num_lt h82
    rw [hl2] at hlt
    rw [hn2] at N2 hlt
    have hend : endS p = if 4096 < saidSize p then (0, 3) else if p.length < 6 + saidSize p then (0, 2) else if sumOf ((p.drop 4).take (2 + saidSize p)) = said4 p 4 then (6 + saidSize p, 0) else (0, 5) := by
      unfold endS; rw [if_neg (by omega)]
    generalize saidSize p = n at *
    have HN2 := Lib.hid N2
    clear N2 hn2 h82 hp2 hl2
    have i6 : (6 : Int) ≤ (c : Int) := by omega
    have hlt' : n < 65536 := hlt
    clear hlt
    go_enter Tryd.func20, Tryd.ntmps20
    go_wp2_with fail
    refine HN2.out.mono ?_
    rintro e w1 ⟨rfl, rfl⟩
    clear HN2
    by_cases hl : 4096 < n
    · have hop : nextS p = ([], [], 3) := by unfold nextS; rw [hend, if_pos hl]; rfl
      have HOP := Lib.hid hop
      have z1 : (4096 : Int) < (n : Int) := by omega
      clear hend hop
      go_wp2_with fail
      go_ret3
      rw [HOP.out]
      exact ⟨none, 0, none, 0, rfl, Row.nil, Row.nil, Below.refl _ _, Nat.le_refl _⟩
    · have z1 : ¬ (4096 : Int) < (n : Int) := by omega
      by_cases hsh : p.length < 6 + n
      · have hop : nextS p = ([], [], 2) := by unfold nextS; rw [hend, if_neg hl, if_pos hsh]; rfl
        have HOP := Lib.hid hop
        have z2 : (p.length : Int) < 6 + (n : Int) := by omega
        clear hend hop
        go_wp2_with fail
        go_ret3
        rw [HOP.out]
        exact ⟨none, 0, none, 0, rfl, Row.nil, Row.nil, Below.refl _ _, Nat.le_refl _⟩
      · have z2 : ¬ (p.length : Int) < 6 + (n : Int) := by omega
        rw [if_neg hl, if_neg hsh] at hend
        have HE := Lib.hid hend
        clear hend
        have hl4 : ((p.drop 4).take (2 + n)).length = 6 + n - 4 := by rw [List.length_take, List.length_drop]; omega
        have h84 : Bytes8 ((p.drop 4).take (2 + n)) := fun z hz => h8 z (List.mem_of_mem_drop (List.mem_of_mem_take hz))
        have CS := fun k => rsum_any S (some ⟨ad.block, ad.off + 4, none⟩) (6 + n - 4) (c - 4) ((p.drop 4).take (2 + n)) (w.drewN k) hl4 (show Row S (w.drewN k) _ _ from hrow.piece 4 (2 + n) (fun _ => rfl)) h84 (by omega)
        have hl0 : (p.take 4).length = 4 := by rw [List.length_take]; omega
        have ht4 : Row S w (some ad) (u8s (p.take 4)) := by have := hrow.take 4; rwa [show (u8s p).take 4 = u8s (p.take 4) by simp [u8s]] at this
        have CN := fun k => num_any S (some ad) 4 c (p.take 4) (w.drewN k) hl0 (show Row S (w.drewN k) _ _ from ht4) (fun z hz => h8 z (List.mem_of_mem_take hz)) (by omega)
        have e4 := num_four (p := p) (by omega)
        rw [e4] at CN
        have hsl : sumOf ((p.drop 4).take (2 + n)) < 4294967296 := Nat.xor_lt_two_pow (n := 32) (crc_lt _ _ (by omega) h84) (by omega)
        generalize sumOf ((p.drop 4).take (2 + n)) = s1 at *
        generalize said4 p 4 = s2 at *
        have HCS := Lib.hid CS
        have HCN := Lib.hid CN
        have i3 : 6 + (n : Int) ≤ (c : Int) := by omega
        have i4 : (4 : Int) ≤ (c : Int) := by omega
        have hwr : IntKind.i64.wrap (6 + (n : Int)) = 6 + (n : Int) := by rw [IntKind.wrap_i64]; omega
        have hwu : IntKind.u64.wrap (s1 : Int) = (s1 : Int) := by rw [IntKind.wrap_u64]; omega
        clear CS CN hl4 h84 hl0 ht4 e4
        go_upto_region 8 with fail
        go_quiet (first | (go_at_call 15; with_reducible exact quiet_left (HCS.out _)) | (go_at_call 28; with_reducible exact quiet_left (HCN.out _)))
        have hbd : Below w.heap.size w (w.drewN nq) := ⟨rfl, rfl, rfl, Nat.le_refl _, fun _ _ => rfl⟩
        clear HCS HCN
        by_cases hss : s1 = s2
        · have hq : ((s1 : Int) != (s2 : Int)) = false := by simp [hss]
          have HF := Lib.hid (show endS p = (6 + n, 0) by rw [HE.out, if_pos hss])
          have HOP := Lib.hid (show nextS p = ((p.drop 6).take n, p.drop (6 + n), 0) by unfold nextS; rw [HF.out]; simp)
          clear hss HE HF
          obtain ⟨en, hen⟩ : ∃ x, (6 + (n : Int)).toNat = x := ⟨_, rfl⟩
          have hen' : en = 6 + n := by omega
          have HEN := Lib.hid hen'
          obtain ⟨n2, hn2⟩ : ∃ x, p.length - en = x := ⟨_, rfl⟩
          have hG : ∀ AP cP AQ cQ w', Row (fun g => w.heap.size ≤ g) w' AP (u8s ((p.drop 6).take n)) → Row (fun g => w.heap.size ≤ g) w' AQ (u8s ((p.drop en).take n2)) → Below w.heap.size w w' → n2 ≤ cQ →
              GivesN2 w (nextS p) (.returned (.tuple #[.slice AP n cP, .slice AQ n2 cQ, .int .i64 0])) w' := by
            intro AP cP AQ cQ w' r1 r2 hb hcQ
            rw [HOP.out, ← HEN.out]
            have l1 : ((p.drop 6).take n).length = n := by rw [List.length_take, List.length_drop]; omega
            have l2 : (p.drop en).length = n2 := by rw [List.length_drop]; omega
            rw [List.take_of_length_le (by omega)] at r2
            exact ⟨AP, cP, AQ, cQ, by show _ = Ending.returned (.tuple #[.slice AP ((p.drop 6).take n).length cP, .slice AQ (p.drop en).length cQ, .int .i64 0]); rw [l1, l2], r1, r2, hb, by show (p.drop en).length ≤ cQ; omega⟩
          have HG := Lib.hid hG
          have hbd' : Below w.heap.size w (w.drewN (nq + 1)) := ⟨rfl, rfl, rfl, Nat.le_refl _, fun _ _ => rfl⟩
          clear hG HOP
          by_cases h6 : c = 6
          · subst h6
            obtain rfl : en = 6 := by omega
            have hG0 := HG.out
            rw [show n = 0 by omega] at hG0
            have HG0 := Lib.hid hG0
            clear hG0
            have C1 := fun u (hu : Below w.heap.size w u) => copy_at S (some ad) (some ad) 6 0 0 p w u hrow hu (fun h => by omega) (by omega) hpl
            have C2 := fun u (hu : Below w.heap.size w u) => copy_at S (some ad) (some ad) 6 n2 0 p w u hrow hu (fun h => by omega) (by omega) hpl
            have HC1 := Lib.hid C1
            have HC2 := Lib.hid C2
            clear C1 C2 hen'
            go_upto_region 10 with fail
            go_region_with (first
              | (go_at_call 18; with_reducible refine Calls.mono (HC1.out _ ?_) ?_; (with_reducible first | exact hbQ | exact hbd'); rintro e wP ⟨AP, cP, rfl, hrP, hbP, hbP', hcP⟩)
              | (go_at_call 18; with_reducible refine Calls.mono (HC2.out _ ?_) ?_; (with_reducible first | exact hbP | exact hbd'); rintro e wQ ⟨AQ, cQ, rfl, hrQ, hbQ, hbQ', hcQ⟩))
            all_goals
              go_wp2_with fail
              go_ret3
              first
                | exact HG0.out _ _ _ _ _ (hrP.below hbQ') hrQ hbQ hcQ
                | exact HG0.out _ _ _ _ _ hrP (hrQ.below hbP') hbP hcQ
          · by_cases he : c = en
            · subst he
              obtain rfl : n2 = 0 := by omega
              have hn1 : c - 6 = n := by omega
              have C1 := fun u (hu : Below w.heap.size w u) => copy_at S (some ad) (some { block := ad.block, off := ad.off + 6 }) 6 n n p w u hrow hu (fun h => rfl) (by omega) hpl
              have C2 := fun u (hu : Below w.heap.size w u) => copy_at S (some ad) (some ad) c 0 0 p w u hrow hu (fun h => by omega) (by omega) hpl
              have HC1 := Lib.hid C1
              have HC2 := Lib.hid C2
              clear C1 C2 hen'
              go_upto_region 10 with fail
              go_region_with (first
                | (go_at_call 18; with_reducible refine Calls.mono (HC1.out _ ?_) ?_; (with_reducible first | exact hbQ | exact hbd'); rintro e wP ⟨AP, cP, rfl, hrP, hbP, hbP', hcP⟩)
                | (go_at_call 18; with_reducible refine Calls.mono (HC2.out _ ?_) ?_; (with_reducible first | exact hbP | exact hbd'); rintro e wQ ⟨AQ, cQ, rfl, hrQ, hbQ, hbQ', hcQ⟩))
              all_goals
                go_wp2_with fail
                go_ret3
                first
                  | exact HG.out _ _ _ _ _ (hrP.below hbQ') hrQ hbQ hcQ
                  | exact HG.out _ _ _ _ _ hrP (hrQ.below hbP') hbP hcQ
            · have hn1 : en - 6 = n := by omega
              have C1 := fun u (hu : Below w.heap.size w u) => copy_at S (some ad) (some { block := ad.block, off := ad.off + 6 }) 6 n (c - 6) p w u hrow hu (fun h => rfl) (by omega) hpl
              have C2 := fun u (hu : Below w.heap.size w u) => copy_at S (some ad) (some (ad.add en)) en n2 (c - en) p w u hrow hu (fun _ => rfl) (by omega) hpl
              have HC1 := Lib.hid C1
              have HC2 := Lib.hid C2
              clear C1 C2 hen'
              go_upto_region 10 with fail
              go_region_with (first
                | (go_at_call 18; with_reducible refine Calls.mono (HC1.out _ ?_) ?_; (with_reducible first | exact hbQ | exact hbd'); rintro e wP ⟨AP, cP, rfl, hrP, hbP, hbP', hcP⟩)
                | (go_at_call 18; with_reducible refine Calls.mono (HC2.out _ ?_) ?_; (with_reducible first | exact hbP | exact hbd'); rintro e wQ ⟨AQ, cQ, rfl, hrQ, hbQ, hbQ', hcQ⟩))
              all_goals
                go_wp2_with fail
                go_ret3
                first
                  | exact HG.out _ _ _ _ _ (hrP.below hbQ') hrQ hbQ hcQ
                  | exact HG.out _ _ _ _ _ hrP (hrQ.below hbP') hbP hcQ
        · have hq : ((s1 : Int) != (s2 : Int)) = true := by simp; omega
          have HF := Lib.hid (show endS p = (0, 5) by rw [HE.out, if_neg hss])
          have HOP := Lib.hid (show nextS p = ([], [], 5) by unfold nextS; rw [HF.out]; rfl)
          clear hss HE HF
          go_wp2_with fail
          go_ret3
          rw [HOP.out]
          exact ⟨none, 0, none, 0, rfl, Row.nil, Row.nil, hbd, Nat.le_refl _⟩

end Go.Proofs.YtaihemmnpliehaaDoor
