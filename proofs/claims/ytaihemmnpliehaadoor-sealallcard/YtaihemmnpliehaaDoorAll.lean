/-
  The contract of All.
-/
import Derived.Test.YtaihemmnpliehaaDoorAllMath
import Derived.Test.YtaihemmnpliehaaDoorParts
namespace Go.Proofs.YtaihemmnpliehaaDoor
open Go.RowKit

def GivesA (w : World) (p : List Int) (e : Ending) (w' : World) : Prop := ∃ v, e = .returned (.tuple #[v, .int .i64 (endA p : Int)]) ∧ OwnT (fun _ => True) w' w.heap.size v (allS p) ∧ Below w.heap.size w w'

set_option maxRecDepth 100000 in
set_option maxHeartbeats 1600000 in
theorem all_any (S : Nat → Prop) (A : Option Addr) (n c : Nat) (p : List Int) (w : World) (hn : p.length = n) (hT : Rests w) (h0 : 0 < w.heap.size) (hrow : Row S w A (u8s p)) (hc : p.length ≤ c) (hpl : p.length ≤ 100000) (h8 : Bytes8 p) :
    Calls Tryd.prog 22 #[.slice A n c] w fun e w' => GivesA w p e w' := by
  obtain ⟨j0, hj0, hy0, hy1, hy2⟩ := info_parts Tryd.info24
  have HN := Lib.hid hn
  have hnc : n ≤ c := by omega
  have hn1 : n ≤ 100000 := by omega
  clear hn
  go_enter Tryd.func22, Tryd.ntmps22
  go_wp2_with fail
  go_loopw [4, 5, 6, 7] (fun v i _ _ wr => ∃ d : Nat, d ≤ n ∧ i = .int .i64 d ∧ ∃ ts, OwnT (fun _ => True) wr w.heap.size v ts ∧ ts ++ allS (p.drop d) = allS p ∧ d + endA (p.drop d) = endA p ∧ ts.length * 6 ≤ d ∧ Below w.heap.size w wr) (fun _ i _ _ _ => n - (intOf i).toNat)
  case atStart => exact ⟨0, Nat.zero_le _, rfl, [], OwnT.start _ _ _, by simp, by simp, by simp, Below.refl _ _⟩
  case round =>
    obtain ⟨d, hd, rfl, ts, hO, hts, hen, htl, hbl⟩ := hrel
    have HTS := Lib.hid hts
    have HEN := Lib.hid hen
    clear hts hen
    have hld : (p.drop d).length = n - d := by rw [List.length_drop, HN.out]
    have hcut : Row S wr (if c = d then A else A.map (·.add d)) (u8s (p.drop d)) := by
      have := (hrow.below hbl).cut d c (by rw [u8s_len]; exact hc)
      rwa [u8s_drop] at this
    have hsz := hbl.size
    have hFE := frameEnd_any S _ (n - d) (c - d) (p.drop d) wr hld (hT.below hbl h0) (by omega) hcut (by rw [hld]; omega) (by rw [hld]; omega) (fun x hx => h8 x (List.mem_of_mem_drop hx))
    have hstop := all_stop (p := p.drop d)
    have hgo := all_go (p := p.drop d)
    have hge := endS_ge (p := p.drop d)
    rw [hld] at hge
    obtain ⟨⟨en, f⟩, hE⟩ : ∃ r, endS (p.drop d) = r := ⟨_, rfl⟩
    rw [hE] at hFE hstop hgo hge
    have j1 : (0 : Int) ≤ (d : Int) := by omega
    have j2 : (d : Int) ≤ (n : Int) := by omega
    have j3 : (d : Int) ≤ (c : Int) := by omega
    clear hE hld
    by_cases hf : f = 0
    · subst hf
      obtain ⟨g1, g2⟩ := hge rfl
      have hgo2 := hgo rfl
      simp only [List.drop_drop] at hgo2
      have HGO := Lib.hid hgo2
      clear hstop hgo hge hgo2
      have hcd : ¬ c = d := by omega
      rw [if_neg hcd] at hFE
      have HFE := Lib.hid hFE
      clear hFE hcut
      obtain ⟨cs, hcs, hce⟩ := hO
      have HCE := Lib.hid hce
      have HG4 : Hid (∀ g, u4.ownBlock = some g → w.heap.size ≤ g ∧ g < wr.heap.size) := fun g hg => own_lt hcs hg
      clear hce
      have k1 : (d : Int) + 6 ≤ (d : Int) + (en : Int) := by omega
      have k2 : (d : Int) + (en : Int) ≤ (c : Int) := by omega
      by_cases hc6 : c = d + 6
      · obtain rfl : en = 6 := by omega
        subst hc6
        rw [show d + 6 - d = 6 by omega] at HFE
        clear hcd
        go_wp2_with fail
        refine (HFE.out).mono ?_
        rintro e w2 ⟨rfl, hb2⟩
        have hb2' := hbl.trans (hb2.mono hsz)
        go_wp2_with fail
        refine (clone_at S A _ (d + 6) _ _ p w2 w2 (hrow.below hb2') (Below.refl _ _) (fun h => by omega) (by have := HN.out; omega) (by omega)).mono ?_
        rintro e w3 ⟨A3, c3, rfl, r3, hb3', _⟩
        have hb3 := hb2'.trans (hb3'.mono hb2'.size)
        have hs2 := hb2.size
        have hcs3 := own_below (own_below hcs hb2) hb3'
        have hs3 : wr.heap.size ≤ w3.heap.size := Nat.le_trans hb2.size hb3'.size
        have hn3 : Row (fun _ => True) (w3.alloc (.cells #[.slice A3 0 c3] 24)) (some ⟨w3.heap.size, 0, none⟩) [.slice A3 0 c3] := Row.of_block (heap_alloc_new w3 _) trivial
        have hcs4 := hcs3.alloc (.cells #[.slice A3 0 c3] 24)
        go_wp2_with (at_builtin; refine wpList_append_row _ rfl (.tmp 19) (.tmp 28) 22 rfl w.heap.size 24 j0 (.slice none 0 0) 24 Tryd.underlying22 hj0 hy0 hy1 hy2 rfl u4 ts.length cs rfl hcs4 (fun _ => True) (some ⟨w3.heap.size, 0, none⟩) 1 1 [.slice A3 0 c3] rfl rfl hn3 ?e1 ?e2 ?e3 ?e4 ?_; rotate_right; intro A5 c5 w5 hown5 hgrow5 hat5)
        case e1 => simp [Value.oneCell']
        case e2 => unfold maxLen; omega
        case e3 => omega
        case e4 => simp; omega
        have hl4 : ((p.drop (d + 6)).take (6 - 6)).length = 0 := by rw [List.length_take, List.length_drop, HN.out]; omega
        have r4 : Row (fun g => (w.heap.size ≤ g ∧ some g ≠ u4.ownBlock) ∧ True) w3 A3 (u8s ((p.drop (d + 6)).take (6 - 6))) := by
          exact r3.mono fun g hg1 hg => ⟨⟨by omega, fun e => by have := (HG4.out g e.symm).2; omega⟩, trivial⟩
        have h2 : CellsT (fun g => (w.heap.size ≤ g ∧ some g ≠ u4.ownBlock) ∧ True) w3 cs ts := HCE.out.kept hs3 fun g hg s => ⟨(hb3'.block g (by have := hb2.size; omega)).trans (hb2.block g hg), s⟩
        have h3 : CellsT (fun g => (w.heap.size ≤ g ∧ some g ≠ u4.ownBlock) ∧ True) w3 [.slice A3 0 c3] [(p.drop (d + 6)).take (6 - 6)] := by
          have h4 := CellsT.one (c := c3) r4
          rw [hl4] at h4
          exact h4
        have hO5 : OwnT (fun _ => True) w5 w.heap.size (.slice A5 (ts.length + 1) c5) (ts ++ [(p.drop (d + 6)).take (6 - 6)]) := OwnT.step (us := [(p.drop (d + 6)).take (6 - 6)]) h2 h3 hown5 hgrow5 (by simpa using hat5)
        have hb5 : Below w.heap.size w w5 := (hb3.alloc (by have := hb3.size; omega) _).grown hgrow5 (by simp; omega) (fun g hg => (HG4.out g hg).1)
        have HT2 := Lib.hid (show (ts ++ [(p.drop (d + 6)).take (6 - 6)]) ++ allS (p.drop (d + 6)) = allS p by rw [← HTS.out, HGO.out.1]; simp)
        have HE2 := Lib.hid (show (d + 6) + endA (p.drop (d + 6)) = endA p by rw [← HEN.out, HGO.out.2]; omega)
        have HO := Lib.hid hO5
        clear hown5 hgrow5 hat5 h2 h3 hO5 hcs3 hcs4 hn3 r3 r4 hl4 hb3 hb3' hb2 hb2' hcs
        go_wp2_with fail
        go_roundw
        case rel => exact ⟨d + 6, by omega, by go_num, _, HO.out, HT2.out, HE2.out, by rw [List.length_append, List.length_singleton]; omega, hb5⟩
        case measure => simp [intOf]; omega
      · obtain ⟨n1, hn1⟩ : ∃ x, d + en - (d + 6) = x := ⟨_, rfl⟩
        have hn2 : en - 6 = n1 := by omega
        go_wp2_with fail
        refine (HFE.out).mono ?_
        rintro e w2 ⟨rfl, hb2⟩
        have hb2' := hbl.trans (hb2.mono hsz)
        go_wp2_with fail
        refine (clone_at S A _ (d + 6) _ _ p w2 w2 (hrow.below hb2') (Below.refl _ _) (fun _ => by cases A <;> simp [Addr.add]) (by have := HN.out; omega) (by omega)).mono ?_
        rintro e w3 ⟨A3, c3, rfl, r3, hb3', _⟩
        have hb3 := hb2'.trans (hb3'.mono hb2'.size)
        have hs2 := hb2.size
        have hcs3 := own_below (own_below hcs hb2) hb3'
        have hs3 : wr.heap.size ≤ w3.heap.size := Nat.le_trans hb2.size hb3'.size
        have hn3 : Row (fun _ => True) (w3.alloc (.cells #[.slice A3 n1 c3] 24)) (some ⟨w3.heap.size, 0, none⟩) [.slice A3 n1 c3] := Row.of_block (heap_alloc_new w3 _) trivial
        have hcs4 := hcs3.alloc (.cells #[.slice A3 n1 c3] 24)
        go_wp2_with (at_builtin; refine wpList_append_row _ rfl (.tmp 19) (.tmp 28) 22 rfl w.heap.size 24 j0 (.slice none 0 0) 24 Tryd.underlying22 hj0 hy0 hy1 hy2 rfl u4 ts.length cs rfl hcs4 (fun _ => True) (some ⟨w3.heap.size, 0, none⟩) 1 1 [.slice A3 n1 c3] rfl rfl hn3 ?k1 ?k2 ?k3 ?k4 ?_; rotate_right; intro A5 c5 w5 hown5 hgrow5 hat5)
        case k1 => simp [Value.oneCell']
        case k2 => unfold maxLen; omega
        case k3 => omega
        case k4 => simp; omega
        have hl4 : ((p.drop (d + 6)).take (en - 6)).length = n1 := by rw [List.length_take, List.length_drop, HN.out]; omega
        have r4 : Row (fun g => (w.heap.size ≤ g ∧ some g ≠ u4.ownBlock) ∧ True) w3 A3 (u8s ((p.drop (d + 6)).take (en - 6))) := by
          rw [show n1 = en - 6 by omega] at r3
          exact r3.mono fun g hg1 hg => ⟨⟨by omega, fun e => by have := (HG4.out g e.symm).2; omega⟩, trivial⟩
        have h2 : CellsT (fun g => (w.heap.size ≤ g ∧ some g ≠ u4.ownBlock) ∧ True) w3 cs ts := HCE.out.kept hs3 fun g hg s => ⟨(hb3'.block g (by have := hb2.size; omega)).trans (hb2.block g hg), s⟩
        have h3 : CellsT (fun g => (w.heap.size ≤ g ∧ some g ≠ u4.ownBlock) ∧ True) w3 [.slice A3 n1 c3] [(p.drop (d + 6)).take (en - 6)] := by
          have h4 := CellsT.one (c := c3) r4
          rw [hl4] at h4
          exact h4
        have hO5 : OwnT (fun _ => True) w5 w.heap.size (.slice A5 (ts.length + 1) c5) (ts ++ [(p.drop (d + 6)).take (en - 6)]) := OwnT.step (us := [(p.drop (d + 6)).take (en - 6)]) h2 h3 hown5 hgrow5 (by simpa using hat5)
        have hb5 : Below w.heap.size w w5 := (hb3.alloc (by have := hb3.size; omega) _).grown hgrow5 (by simp; omega) (fun g hg => (HG4.out g hg).1)
        have HT2 := Lib.hid (show (ts ++ [(p.drop (d + 6)).take (en - 6)]) ++ allS (p.drop (d + en)) = allS p by rw [← HTS.out, HGO.out.1]; simp)
        have HE2 := Lib.hid (show (d + en) + endA (p.drop (d + en)) = endA p by rw [← HEN.out, HGO.out.2]; omega)
        have HO := Lib.hid hO5
        clear hown5 hgrow5 hat5 h2 h3 hO5 hcs3 hcs4 hn3 r3 r4 hl4 hb3 hb3' hb2 hb2' hcs
        go_wp2_with fail
        go_roundw
        case rel => exact ⟨d + en, by omega, by go_num, _, HO.out, HT2.out, HE2.out, by rw [List.length_append, List.length_singleton]; omega, hb5⟩
        case measure => simp [intOf]; omega
    · have hf' : (f != 0) = true := by simp [hf]
      obtain ⟨s1, s2⟩ := hstop hf
      have HA := Lib.hid (show ts = allS p by rw [← HTS.out, s1]; simp)
      have HEA := Lib.hid (show (d : Int) = (endA p : Int) by rw [← HEN.out, s2]; simp)
      clear hstop hgo hge s1 s2 hcut
      by_cases hcd : c = d
      · rw [if_pos hcd] at hFE
        subst hcd
        rw [show n - c = 0 by omega, Nat.sub_self] at hFE
        have HFE := Lib.hid hFE
        clear hFE hf
        go_wp2_with fail
        refine (HFE.out).mono ?_
        rintro e w2 ⟨rfl, hb2⟩
        go_wp2_with fail
        go_ret2
        exact ⟨_, by rw [← HEA.out]; rfl, by rw [← HA.out]; exact hO.below hb2, hbl.trans (hb2.mono hsz)⟩
      · rw [if_neg hcd] at hFE
        have HFE := Lib.hid hFE
        clear hFE hf
        go_wp2_with fail
        refine (HFE.out).mono ?_
        rintro e w2 ⟨rfl, hb2⟩
        go_wp2_with fail
        go_ret2
        exact ⟨_, by rw [← HEA.out]; rfl, by rw [← HA.out]; exact hO.below hb2, hbl.trans (hb2.mono hsz)⟩

end Go.Proofs.YtaihemmnpliehaaDoor
