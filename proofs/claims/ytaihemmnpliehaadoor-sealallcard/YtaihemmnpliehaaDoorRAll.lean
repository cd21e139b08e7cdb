/-
  The contract of ref01's All.
-/
import Derived.Test.YtaihemmnpliehaaDoorAll
import Derived.Test.YtaihemmnpliehaaDoorRNext2
import Derived.Test.YtaihemmnpliehaaDoorWhole2
namespace Go.Proofs.YtaihemmnpliehaaDoor
open Go.RowKit

def lenV : Value → Nat
  | .slice _ n _ => n
  | _ => 0

set_option maxRecDepth 100000 in
set_option maxHeartbeats 1600000 in
theorem rall_any (S : Nat → Prop) (A : Option Addr) (n c : Nat) (p : List Int) (w : World) (hn : p.length = n) (hrow : Row S w A (u8s p)) (hc : p.length ≤ c) (hpl : p.length ≤ 100000) (h8 : Bytes8 p) :
    Calls Tryd.prog 23 #[.slice A n c] w fun e w' => GivesA w p e w' := by
  obtain ⟨j0, hj0, hy0, hy1, hy2⟩ := info_parts Tryd.info24
  have HN := Lib.hid hn
  have hnc : n ≤ c := by omega
  have hn1 : n ≤ 100000 := by omega
  clear hn
  go_enter Tryd.func23, Tryd.ntmps23
  go_wp2_with fail
  go_loopw [0, 4, 6, 7, 8] (fun r v _ _ _ wr => ∃ (d m cr : Nat) (R : Option Addr), d + m = n ∧ m ≤ cr ∧ r = .slice R m cr ∧ Row (fun g => some g ≠ v.ownBlock) wr R (u8s (p.drop d)) ∧ ∃ ts, OwnT (fun _ => True) wr w.heap.size v ts ∧ ts ++ allS (p.drop d) = allS p ∧ d + endA (p.drop d) = endA p ∧ ts.length * 6 ≤ d ∧ Below w.heap.size w wr) (fun r _ _ _ _ _ => lenV r)
  case atStart => exact ⟨0, n, c, A, by omega, hnc, rfl, by rw [List.drop_zero]; exact hrow.mono fun g _ _ => by simp [Value.ownBlock], [], OwnT.start _ _ _, by simp, by simp, by simp, Below.refl _ _⟩
  case round =>
    obtain ⟨d, m, cr, R, hdm, hmc, rfl, hrR, ts, hO, hts, hen, htl, hbl⟩ := hrel
    have HTS := Lib.hid hts
    have HEN := Lib.hid hen
    clear hts hen
    have hld : (p.drop d).length = m := by rw [List.length_drop, HN.out]; omega
    have hsz := hbl.size
    have hFE := rnext2_any _ R m cr (p.drop d) wr hld hrR (by omega) (by omega) (fun x hx => h8 x (List.mem_of_mem_drop hx))
    have hstop := all_stop (p := p.drop d)
    have hgo := all_go (p := p.drop d)
    have hge := endS_ge (p := p.drop d)
    rw [hld] at hge
    by_cases hf : (endS (p.drop d)).2 = 0
    · obtain ⟨g1, g2⟩ := hge hf
      have hgo2 := hgo hf
      have hop : nextS (p.drop d) = (((p.drop d).drop 6).take ((endS (p.drop d)).1 - 6), (p.drop d).drop (endS (p.drop d)).1, 0) := by unfold nextS; rw [if_neg (by simp [hf])]
      obtain ⟨en, hE⟩ : ∃ x, (endS (p.drop d)).1 = x := ⟨_, rfl⟩
      rw [hE] at hop hgo2 g1 g2
      simp only [List.drop_drop] at hop hgo2
      rw [hop] at hFE
      have HGO := Lib.hid hgo2
      have hl4 : ((p.drop (d + 6)).take (en - 6)).length = en - 6 := by rw [List.length_take, List.length_drop, HN.out]; omega
      have hl5 : (p.drop (d + en)).length = m - en := by rw [List.length_drop, HN.out]; omega
      have HL4 := Lib.hid hl4
      obtain ⟨n4, hn4⟩ : ∃ x, en - 6 = x := ⟨_, rfl⟩
      obtain ⟨m2, hm2⟩ : ∃ x, m - en = x := ⟨_, rfl⟩
      rw [hm2] at hl5
      have HL5 := Lib.hid hl5
      have HFE := Lib.hid hFE
      clear hstop hgo hge hgo2 hE hop hf hFE hl4 hl5 hrR hld
      obtain ⟨cs, hcs, hce⟩ := hO
      have HCE := Lib.hid hce
      have HG4 : Hid (∀ g, u4.ownBlock = some g → w.heap.size ≤ g ∧ g < wr.heap.size) := fun g hg => own_lt hcs hg
      clear hce
      have hN4 := Lib.hid hn4
      have hM2 : m2 + en = m := by omega
      have hM2' := Lib.hid hM2
      clear hm2 hM2 hn4
      go_wp2_with fail
      refine (HFE.out).mono ?_
      rintro e w3 ⟨A3, c3, B3, d3, rfl, r3, q3, hb3, hd3⟩
      dsimp only at r3 q3 hd3 ⊢
      rw [HL4.out, hN4.out]
      rw [HL5.out] at hd3 ⊢
      have hb3' := hbl.trans (hb3.mono hsz)
      have hcs3 := own_below hcs hb3
      have hs3 : wr.heap.size ≤ w3.heap.size := hb3.size
      have hn3 : Row (fun _ => True) (w3.alloc (.cells #[.slice A3 n4 c3] 24)) (some ⟨w3.heap.size, 0, none⟩) [.slice A3 n4 c3] := Row.of_block (heap_alloc_new w3 _) trivial
      have hcs4 := hcs3.alloc (.cells #[.slice A3 n4 c3] 24)
      go_wp2_with (at_builtin; refine wpList_append_row _ rfl (.tmp 24) (.tmp 26) 22 rfl w.heap.size 24 j0 (.slice none 0 0) 24 Tryd.underlying22 hj0 hy0 hy1 hy2 rfl u4 ts.length cs rfl hcs4 (fun _ => True) (some ⟨w3.heap.size, 0, none⟩) 1 1 [.slice A3 n4 c3] rfl rfl hn3 ?e1 ?e2 ?e3 ?e4 ?_; rotate_right; intro A5 c5 w5 hown5 hgrow5 hat5)
      case e1 => simp [Value.oneCell']
      case e2 => unfold maxLen; omega
      case e3 => omega
      case e4 => simp; omega
      have r4 : Row (fun g => (w.heap.size ≤ g ∧ some g ≠ u4.ownBlock) ∧ True) w3 A3 (u8s ((p.drop (d + 6)).take (en - 6))) := r3.mono fun g hg1 hg => ⟨⟨by omega, fun e => by have := (HG4.out g e.symm).2; omega⟩, trivial⟩
      have h2 : CellsT (fun g => (w.heap.size ≤ g ∧ some g ≠ u4.ownBlock) ∧ True) w3 cs ts := HCE.out.kept hs3 fun g hg s => ⟨hb3.block g hg, s⟩
      have h3 : CellsT (fun g => (w.heap.size ≤ g ∧ some g ≠ u4.ownBlock) ∧ True) w3 [.slice A3 n4 c3] [(p.drop (d + 6)).take (en - 6)] := by
        have h4 := CellsT.one (c := c3) r4
        rw [show ((p.drop (d + 6)).take (en - 6)).length = n4 from HL4.out.trans hN4.out] at h4
        exact h4
      have hO5 : OwnT (fun _ => True) w5 w.heap.size (.slice A5 (ts.length + 1) c5) (ts ++ [(p.drop (d + 6)).take (en - 6)]) := OwnT.step (us := [(p.drop (d + 6)).take (en - 6)]) h2 h3 hown5 hgrow5 (by simpa using hat5)
      have hb5 : Below w.heap.size w w5 := (hb3'.alloc (by have := hb3'.size; omega) _).grown hgrow5 (by simp; omega) (fun g hg => (HG4.out g hg).1)
      have q5 : Row (fun g => some g ≠ (Value.slice A5 (ts.length + 1) c5).ownBlock) w5 B3 (u8s (p.drop (d + en))) := by
        have q4 : Row (fun g => wr.heap.size ≤ g ∧ g < w3.heap.size) w3 B3 (u8s (p.drop (d + en))) := q3.mono fun g hg h => ⟨h, hg⟩
        refine (Row.grow q4 hgrow5 fun g _ h e => by have := (HG4.out g e.symm).2; omega).mono fun g _ h => ?_
        rcases hat5 with e | e
        · rw [e]; intro e'; have := (HG4.out g e'.symm).2; omega
        · rw [e]; intro e'; injection e' with e'; simp at e'; omega
      have HT2 := Lib.hid (show (ts ++ [(p.drop (d + 6)).take (en - 6)]) ++ allS (p.drop (d + en)) = allS p by rw [← HTS.out, HGO.out.1]; simp)
      have HE2 := Lib.hid (show (d + en) + endA (p.drop (d + en)) = endA p by rw [← HEN.out, HGO.out.2]; omega)
      have HO := Lib.hid hO5
      have HQ := Lib.hid q5
      clear hown5 hgrow5 hat5 h2 h3 hO5 hcs3 hcs4 hn3 r3 r4 q3 q5 hb3 hb3' hcs
      go_wp2_with fail
      go_roundw
      case rel => exact ⟨d + en, m2, d3, B3, by have := hM2'.out; omega, hd3, rfl, HQ.out, _, HO.out, HT2.out, HE2.out, by rw [List.length_append, List.length_singleton]; omega, hb5⟩
      case measure => have := hM2'.out; simp [lenV]; omega
    · obtain ⟨s1, s2⟩ := hstop hf
      have hop : nextS (p.drop d) = ([], [], (endS (p.drop d)).2) := by unfold nextS; rw [if_pos hf]
      rw [hop] at hFE
      have HA := Lib.hid (show ts = allS p by rw [← HTS.out, s1]; simp)
      have HEA := Lib.hid (show (n : Int) - (m : Int) = (endA p : Int) by rw [← HEN.out, s2]; omega)
      generalize (endS (p.drop d)).2 = f at *
      have hf' : (f != 0) = true := by simp [hf]
      have HFE := Lib.hid hFE
      clear hstop hgo hge s1 s2 hop hFE hf hld hrR
      go_wp2_with fail
      refine (HFE.out).mono ?_
      rintro e w2 ⟨A3, c3, B3, d3, rfl, r3, q3, hb2, hd3⟩
      dsimp only
      go_wp2_with fail
      go_ret2
      exact ⟨_, by rw [← HEA.out]; go_num, by rw [← HA.out]; exact hO.below hb2, hbl.trans (hb2.mono hsz)⟩

end Go.Proofs.YtaihemmnpliehaaDoor
