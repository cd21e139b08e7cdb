/-
  The contracts of bytes.Clone and Open.
-/
import Derived.Test.YtaihemmnpliehaaDoorFrEnd
namespace Go.Proofs.YtaihemmnpliehaaDoor
open Go.RowKit

set_option maxRecDepth 100000 in
set_option maxHeartbeats 400000 in
theorem clone_any (S : Nat → Prop) (A : Option Addr) (n c : Nat) (p : List Int) (w : World) (hn : p.length = n) (hrow : Row S w A (u8s p)) (hpl : p.length ≤ 70368744177664) :
    Calls Tryd.prog 27 #[.slice A n c] w fun e w' => Gives w (u8s p) e w' := by
  subst hn
  obtain ⟨i0, hi, hz0, hz1, hz2⟩ := info_parts Tryd.info5
  rcases A with _ | ad
  · have hp : p = [] := by
      rcases Nat.eq_zero_or_pos p.length with h0 | h0
      · exact List.eq_nil_of_length_eq_zero h0
      · obtain ⟨_, e, _⟩ := hrow 0 (by rw [u8s_len]; exact h0)
        cases e
    subst hp
    have hq := fun u : World => Lib.run_eql_slice_nil (P := Tryd.prog) u 24 5 none 0 c 0 0 Tryd.underlying24
    go_enter Tryd.func27, Tryd.ntmps27
    go_wp2_with fail
    go_ret
    exact ⟨none, 0, rfl, Nat.le_refl _, Row.nil, Below.refl _ _⟩
  · have hq := fun u : World => Lib.run_eql_slice_nil (P := Tryd.prog) u 24 5 (some ad) p.length c 0 0 Tryd.underlying24
    have h0 : (w.alloc (.cells #[] 5)).ownsRow w.heap.size 5 1 (.slice (some ⟨w.heap.size, 0, none⟩) 0 0) 0 [] := World.ownsRow_lit w #[] 0 (Nat.le_refl _) (by decide) rfl
    have hrow1 := hrow.alloc (.cells #[] 5)
    go_enter Tryd.func27, Tryd.ntmps27
    go_wp2_with (at_builtin; refine wpList_append_row _ rfl (.tmp 5) (.tmp 6) 24 rfl w.heap.size 5 i0 (.int .u8 0) 1 Tryd.underlying24 hi hz0 hz1 hz2 rfl _ 0 [] rfl h0 S (some ad) p.length c (u8s p) rfl (u8s_len p) hrow1 (u8s_one p) ?c3 ?c4 ?c5 ?_; rotate_right; intro A' c' w' hown hgrow hat)
    case c3 => unfold maxLen; omega
    case c4 => omega
    case c5 => simp
    go_ret
    rw [Nat.zero_add] at hown
    have hgrow2 : (w.alloc (.cells #[] 5)).grownBy w' (some w.heap.size) := hgrow
    obtain ⟨A2, c2, hv, hc2, _, hr2⟩ := Row.of_own hown
    injection hv with hv1 _ hv3
    subst hv1 hv3
    exact ⟨A', c', by rw [u8s_len]; simp, by rw [u8s_len]; exact hc2, hr2.mono fun g _ h => h.1, ((Below.refl _ _).alloc (Nat.le_refl _) _).grown hgrow2 (by simp) (fun k e => by injection e with e; omega)⟩

/-- what Open answers -/
def openS (p : List Int) : List Int × Int := if (endS p).2 ≠ 0 then ([], (endS p).2) else if (endS p).1 < p.length then ([], 4) else (p.drop 6, 0)
def GivesE (w : World) (r : List Int × Int) (e : Ending) (w' : World) : Prop :=
  ∃ A c, e = .returned (.tuple #[.slice A r.1.length c, .int .i64 r.2]) ∧ r.1.length ≤ c ∧ Row (fun g => w.heap.size ≤ g) w' A (u8s r.1) ∧ Below w.heap.size w w'

theorem endS_ge {p : List Int} (h : (endS p).2 = 0) : 6 ≤ (endS p).1 ∧ (endS p).1 ≤ p.length := by
  revert h
  unfold endS
  repeat' split
  all_goals simp
  omega

set_option maxRecDepth 100000 in
set_option maxHeartbeats 800000 in
theorem open_any (S : Nat → Prop) (A : Option Addr) (n c : Nat) (p : List Int) (w : World) (hn : p.length = n) (hT : Rests w) (h0 : 0 < w.heap.size) (hrow : Row S w A (u8s p)) (hc : p.length ≤ c) (hpl : p.length ≤ 70368744177664) (h8 : Bytes8 p) :
    Calls Tryd.prog 21 #[.slice A n c] w fun e w' => GivesE w (openS p) e w' := by
  have hfe := frameEnd_any S A n c p w hn hT h0 hrow hc hpl h8
  have hge := endS_ge (p := p)
  have hop : openS p = if (endS p).2 ≠ 0 then ([], (endS p).2) else if (endS p).1 < p.length then ([], 4) else (p.drop 6, 0) := rfl
  obtain ⟨⟨en, f⟩, hE⟩ : ∃ r, endS p = r := ⟨_, rfl⟩
  rw [hE] at hfe hge hop
  simp only at hfe hge hop
  have HFE := Lib.hid hfe
  clear hE hfe
  subst hn
  by_cases hf : f = 0
  · subst hf
    obtain ⟨g1, g2⟩ := hge rfl
    rw [if_neg (by simp)] at hop
    by_cases hlt : en < p.length
    · rw [if_pos hlt] at hop
      have HOP := Lib.hid hop
      clear hop hge
      go_enter Tryd.func21, Tryd.ntmps21
      go_wp2_with fail
      refine HFE.out.mono ?_
      rintro e w1 ⟨rfl, hb1⟩
      go_wp2_with fail
      go_ret2
      rw [HOP.out]
      exact ⟨none, 0, rfl, Nat.le_refl _, Row.nil, hb1⟩
    · rw [if_neg hlt] at hop
      have HOP := Lib.hid hop
      clear hop hge
      have hpe : (p.drop 6).take (p.length - 6) = p.drop 6 := List.take_of_length_le (by rw [List.length_drop]; omega)
      have hl6 : (p.drop 6).length = p.length - 6 := List.length_drop ..
      have HP := Lib.hid hpe
      have HL6 := Lib.hid hl6
      clear hpe hl6
      by_cases hc6 : c ≤ 6
      · go_enter Tryd.func21, Tryd.ntmps21
        go_wp2_with fail
        refine HFE.out.mono ?_
        rintro e w1 ⟨rfl, hb1⟩
        have hpc := (hrow.below hb1).piece (A' := A) 6 (p.length - 6) (fun h => by omega)
        rw [HP.out] at hpc
        go_wp2_with fail
        refine (clone_any _ _ _ _ (p.drop 6) _ HL6.out hpc (by rw [HL6.out]; omega)).mono ?_
        rintro e w2 ⟨A2, c2, rfl, hc2, hr2, hb2⟩
        rw [u8s_len] at hc2 ⊢
        go_wp2_with fail
        go_ret2
        rw [HOP.out]
        exact ⟨A2, c2, by show _ = Ending.returned (.tuple #[.slice A2 (p.drop 6).length c2, .int .i64 0]); rw [HL6.out]; rfl, hc2, hr2.mono fun g _ h => Nat.le_trans hb1.size h, hb1.trans (hb2.mono hb1.size)⟩
      · go_enter Tryd.func21, Tryd.ntmps21
        go_wp2_with fail
        refine HFE.out.mono ?_
        rintro e w1 ⟨rfl, hb1⟩
        have hpc := (hrow.below hb1).piece (A' := Option.map (fun x => { block := x.block, off := x.off + 6 }) A) 6 (p.length - 6) (fun h => by cases A <;> rfl)
        rw [HP.out] at hpc
        go_wp2_with fail
        refine (clone_any _ _ _ _ (p.drop 6) _ HL6.out hpc (by rw [HL6.out]; omega)).mono ?_
        rintro e w2 ⟨A2, c2, rfl, hc2, hr2, hb2⟩
        rw [u8s_len] at hc2 ⊢
        go_wp2_with fail
        go_ret2
        rw [HOP.out]
        exact ⟨A2, c2, by show _ = Ending.returned (.tuple #[.slice A2 (p.drop 6).length c2, .int .i64 0]); rw [HL6.out]; rfl, hc2, hr2.mono fun g _ h => Nat.le_trans hb1.size h, hb1.trans (hb2.mono hb1.size)⟩
  · rw [if_pos hf] at hop
    have HOP := Lib.hid hop
    have hf' : (f != 0) = true := by simpa using hf
    clear hop hge hf
    go_enter Tryd.func21, Tryd.ntmps21
    go_wp2_with fail
    refine HFE.out.mono ?_
    rintro e w1 ⟨rfl, hb1⟩
    go_wp2_with fail
    go_ret2
    rw [HOP.out]
    exact ⟨none, 0, rfl, Nat.le_refl _, Row.nil, hb1⟩

end Go.Proofs.YtaihemmnpliehaaDoor
