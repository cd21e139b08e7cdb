/-
  The contract of Next.
-/
import Derived.Test.YtaihemmnpliehaaDoorRef
import Derived.Deep.RegionWith
namespace Go.Proofs.YtaihemmnpliehaaDoor
open Go.RowKit

/-- what Next answers -/
def nextS (p : List Int) : List Int × List Int × Int := if (endS p).2 ≠ 0 then ([], [], (endS p).2) else ((p.drop 6).take ((endS p).1 - 6), p.drop (endS p).1, 0)
def GivesN (w : World) (r : List Int × List Int × Int) (e : Ending) (w' : World) : Prop :=
  ∃ A c B d, e = .returned (.tuple #[.slice A r.1.length c, .slice B r.2.1.length d, .int .i64 r.2.2]) ∧ Row (fun g => w.heap.size ≤ g) w' A (u8s r.1) ∧ Row (fun g => w.heap.size ≤ g) w' B (u8s r.2.1) ∧ Below w.heap.size w w'

theorem clone_at (S : Nat → Prop) (A A' : Option Addr) (s n c : Nat) (p : List Int) (w u : World) (hrow : Row S w A (u8s p)) (hu : Below w.heap.size w u) (hA : 0 < n → A' = A.map (·.add s)) (hn : s + n ≤ p.length) (hpl : p.length ≤ 70368744177664) :
    Calls Tryd.prog 27 #[.slice A' n c] u fun e u' => ∃ A2 c2, e = .returned (.slice A2 n c2) ∧ Row (fun g => w.heap.size ≤ g) u' A2 (u8s ((p.drop s).take n)) ∧ Below w.heap.size w u' ∧ Below u.heap.size u u' := by
  have hl : ((p.drop s).take n).length = n := by rw [List.length_take, List.length_drop]; omega
  refine (clone_any S A' n c ((p.drop s).take n) u hl ((hrow.below hu).piece s n hA) (by omega)).mono ?_
  rintro e u' ⟨A2, c2, rfl, hc2, hr2, hb2⟩
  rw [u8s_len, hl]
  exact ⟨A2, c2, rfl, hr2.mono fun g _ h => Nat.le_trans hu.size h, hu.trans (hb2.mono hu.size), hb2⟩

set_option maxRecDepth 100000 in
set_option maxHeartbeats 800000 in
theorem next_any (S : Nat → Prop) (A : Option Addr) (n c : Nat) (p : List Int) (w : World) (hn : p.length = n) (hT : Rests w) (h0 : 0 < w.heap.size) (hrow : Row S w A (u8s p)) (hc : p.length ≤ c) (hpl : p.length ≤ 70368744177664) (h8 : Bytes8 p) :
    Calls Tryd.prog 19 #[.slice A n c] w fun e w' => GivesN w (nextS p) e w' := by
  by_cases hf : (endS p).2 = 0
  · have hfe := frameEnd_any S A n c p w hn hT h0 hrow hc hpl h8
    obtain ⟨g1, g2⟩ := endS_ge hf
    have hop : nextS p = ((p.drop 6).take ((endS p).1 - 6), p.drop (endS p).1, 0) := by unfold nextS; rw [if_neg (by simp [hf])]
    rw [hf] at hfe
    obtain ⟨en, hE⟩ : ∃ x, (endS p).1 = x := ⟨_, rfl⟩
    rw [hE] at hfe g1 g2 hop
    have HFE := Lib.hid hfe
    have HOP := Lib.hid hop
    clear hE hfe hop hf
    subst hn
    have i1 : (6 : Int) ≤ (en : Int) := by omega
    have i2 : (en : Int) ≤ (c : Int) := by omega
    have i3 : (en : Int) ≤ (p.length : Int) := by omega
    obtain ⟨n1, hn1⟩ : ∃ x, en - 6 = x := ⟨_, rfl⟩
    obtain ⟨n2, hn2⟩ : ∃ x, p.length - en = x := ⟨_, rfl⟩
    have hG : ∀ AP cP AQ cQ w', Row (fun g => w.heap.size ≤ g) w' AP (u8s ((p.drop 6).take n1)) → Row (fun g => w.heap.size ≤ g) w' AQ (u8s ((p.drop en).take n2)) → Below w.heap.size w w' →
        GivesN w (nextS p) (.returned (.tuple #[.slice AP n1 cP, .slice AQ n2 cQ, .int .i64 0])) w' := by
      intro AP cP AQ cQ w' r1 r2 hb
      rw [HOP.out, hn1]
      have l1 : ((p.drop 6).take n1).length = n1 := by rw [List.length_take, List.length_drop]; omega
      have l2 : (p.drop en).length = n2 := by rw [List.length_drop]; omega
      rw [List.take_of_length_le (by omega)] at r2
      exact ⟨AP, cP, AQ, cQ, by show _ = Ending.returned (.tuple #[.slice AP ((p.drop 6).take n1).length cP, .slice AQ (p.drop en).length cQ, .int .i64 0]); rw [l1, l2], r1, r2, hb⟩
    have HG := Lib.hid hG
    clear hG HOP
    by_cases h6 : c = 6
    · obtain rfl : en = 6 := by omega
      subst h6
      obtain rfl : n1 = 0 := by omega
      clear hn1 i1 i2
      go_enter Tryd.func19, Tryd.ntmps19
      go_wp2_with fail
      refine HFE.out.mono ?_
      rintro e w1 ⟨rfl, hb1⟩
      have hrow1 := hrow.below hb1
      go_upto_region 4 with fail
      have hb1d : Below w.heap.size w w1.drew := ⟨hb1.1, hb1.2, hb1.3, hb1.4, hb1.5⟩
      have C1 := fun u (hu : Below w.heap.size w u) => clone_at S A A 6 0 0 p w u hrow hu (fun h => by omega) (by omega) hpl
      have C2 := fun u (hu : Below w.heap.size w u) => clone_at S A A 6 n2 0 p w u hrow hu (fun h => by omega) (by omega) hpl
      have HC1 := Lib.hid C1
      have HC2 := Lib.hid C2
      clear C1 C2 HFE
      go_region_with (first
        | (go_at_call 27; with_reducible refine Calls.mono (HC1.out _ ?_) ?_; (with_reducible first | exact hbQ | exact hb1d); rintro e wP ⟨AP, cP, rfl, hrP, hbP, hbP'⟩)
        | (go_at_call 27; with_reducible refine Calls.mono (HC2.out _ ?_) ?_; (with_reducible first | exact hbP | exact hb1d); rintro e wQ ⟨AQ, cQ, rfl, hrQ, hbQ, hbQ'⟩))
      all_goals
        go_wp2_with fail
        go_ret3
        first
          | exact HG.out _ _ _ _ _ (hrP.below hbQ') hrQ hbQ
          | exact HG.out _ _ _ _ _ hrP (hrQ.below hbP') hbP
    · by_cases he : c = en
      · subst he
        obtain rfl : n2 = 0 := by omega
        go_enter Tryd.func19, Tryd.ntmps19
        go_wp2_with fail
        refine HFE.out.mono ?_
        rintro e w1 ⟨rfl, hb1⟩
        have hrow1 := hrow.below hb1
        go_upto_region 4 with fail
        have hb1d : Below w.heap.size w w1.drew := ⟨hb1.1, hb1.2, hb1.3, hb1.4, hb1.5⟩
        have C1 := fun u (hu : Below w.heap.size w u) => clone_at S A (Option.map (fun x => { block := x.block, off := x.off + 6 }) A) 6 n1 n1 p w u hrow hu (fun h => by cases A <;> rfl) (by omega) hpl
        have C2 := fun u (hu : Below w.heap.size w u) => clone_at S A A c 0 0 p w u hrow hu (fun h => by omega) (by omega) hpl
        have HC1 := Lib.hid C1
        have HC2 := Lib.hid C2
        clear C1 C2 HFE
        go_region_with (first
          | (go_at_call 27; with_reducible refine Calls.mono (HC1.out _ ?_) ?_; (with_reducible first | exact hbQ | exact hb1d); rintro e wP ⟨AP, cP, rfl, hrP, hbP, hbP'⟩)
          | (go_at_call 27; with_reducible refine Calls.mono (HC2.out _ ?_) ?_; (with_reducible first | exact hbP | exact hb1d); rintro e wQ ⟨AQ, cQ, rfl, hrQ, hbQ, hbQ'⟩))
        all_goals
          go_wp2_with fail
          go_ret3
          first
            | exact HG.out _ _ _ _ _ (hrP.below hbQ') hrQ hbQ
            | exact HG.out _ _ _ _ _ hrP (hrQ.below hbP') hbP
      · go_enter Tryd.func19, Tryd.ntmps19
        go_wp2_with fail
        refine HFE.out.mono ?_
        rintro e w1 ⟨rfl, hb1⟩
        have hrow1 := hrow.below hb1
        go_upto_region 4 with fail
        have hb1d : Below w.heap.size w w1.drew := ⟨hb1.1, hb1.2, hb1.3, hb1.4, hb1.5⟩
        have C1 := fun u (hu : Below w.heap.size w u) => clone_at S A (Option.map (fun x => { block := x.block, off := x.off + 6 }) A) 6 n1 (c - 6) p w u hrow hu (fun h => by cases A <;> rfl) (by omega) hpl
        have C2 := fun u (hu : Below w.heap.size w u) => clone_at S A (Option.map (fun x => x.add en) A) en n2 (c - en) p w u hrow hu (fun _ => rfl) (by omega) hpl
        have HC1 := Lib.hid C1
        have HC2 := Lib.hid C2
        clear C1 C2 HFE
        go_region_with (first
          | (go_at_call 27; with_reducible refine Calls.mono (HC1.out _ ?_) ?_; (with_reducible first | exact hbQ | exact hb1d); rintro e wP ⟨AP, cP, rfl, hrP, hbP, hbP'⟩)
          | (go_at_call 27; with_reducible refine Calls.mono (HC2.out _ ?_) ?_; (with_reducible first | exact hbP | exact hb1d); rintro e wQ ⟨AQ, cQ, rfl, hrQ, hbQ, hbQ'⟩))
        all_goals
          go_wp2_with fail
          go_ret3
          first
            | exact HG.out _ _ _ _ _ (hrP.below hbQ') hrQ hbQ
            | exact HG.out _ _ _ _ _ hrP (hrQ.below hbP') hbP
  · refine (next_fault S A n c p _ w hn hT h0 hrow hc hpl h8 rfl hf).mono ?_
    rintro e w1 ⟨rfl, hb⟩
    have hop : nextS p = ([], [], (endS p).2) := by unfold nextS; rw [if_pos hf]
    rw [hop]
    exact ⟨none, 0, none, 0, rfl, Row.nil, Row.nil, hb⟩

end Go.Proofs.YtaihemmnpliehaaDoor
