/-
  What SealAll does: it returns true, and turns nothing that was there.
-/
import Derived.Test.YtaihemmnpliehaaDoorRAll
import Derived.BigQuiet
namespace Go.Proofs.YtaihemmnpliehaaDoor
open Go.RowKit

theorem below_drewN {B : Nat} {a w : World} (h : Below B a w) (n : Nat) : Below B a (w.drewN n) := ⟨h.os, h.tape, h.output, h.size, h.block⟩
theorem Texts.kept {S : Nat → Prop} {w w' : World} {A : Option Addr} {ts : List (List Int)} (h : Texts S w A ts) (hs : w.heap.size ≤ w'.heap.size) (hk : ∀ g, g < w.heap.size → S g → w'.heap[g]? = w.heap[g]?) : Texts S w' A ts := by
  obtain ⟨cells, h1, h2, h3⟩ := h
  refine ⟨cells, h1, h2.kept hs hk, fun k hk' => ?_⟩
  obtain ⟨A', c, e, r⟩ := h3 k hk'
  exact ⟨A', c, e, r.kept hs hk⟩
theorem CellsT.one_cell {S : Nat → Prop} {w : World} {cs : List Value} {ts : List (List Int)} (h : CellsT S w cs ts) : ∀ u ∈ cs, u.oneCell' = true := fun u hu => by
  obtain ⟨k, hk, rfl⟩ := List.getElem_of_mem hu
  obtain ⟨A, c, e, _⟩ := h.2 k (by rw [← h.1]; exact hk)
  rw [List.getElem?_eq_getElem hk] at e
  injection e with e
  rw [e]; rfl
theorem OwnT.step0 {X : Nat → Prop} {w w' : World} {B : Nat} {v v' : Value} {ts us : List (List Int)} {cs ds : List Value}
    (h2 : CellsT (fun g => (B ≤ g ∧ some g ≠ v.ownBlock) ∧ X g) w cs ts) (k2 : CellsT (fun g => (B ≤ g ∧ some g ≠ v.ownBlock) ∧ X g) w ds us)
    (hown : w'.ownsRow B 24 1 v' (ts.length + us.length) (cs ++ ds)) (hgrow : w.grownBy w' v.ownBlock) (hat : v'.ownBlock = v.ownBlock ∨ v'.ownBlock = some w.heap.size) : OwnT X w' B v' (ts ++ us) := by
  refine ⟨cs ++ ds, by rw [List.length_append]; exact hown, ?_⟩
  refine (h2.append k2).kept hgrow.size fun g hg s => ⟨hgrow.block g hg s.1.2, ⟨s.1.1, ?_⟩, s.2⟩
  rcases hat with e | e
  · rw [e]; exact s.1.2
  · rw [e]; intro e'; injection e' with e'; omega

theorem allF_bulk : ∀ (n : Nat) (p : List Int), (allF n p).length * 6 ≤ p.length
  | 0, _ => by simp [allF]
  | n + 1, p => by
    by_cases hf : (endS p).2 = 0
    · obtain ⟨g1, g2⟩ := endS_ge hf
      have ih := allF_bulk n (p.drop (endS p).1)
      rw [List.length_drop] at ih
      unfold allF
      rw [if_neg (by simp [hf]), List.length_cons]
      omega
    · unfold allF; rw [if_pos hf]; simp
theorem allF_8 : ∀ (n : Nat) (p : List Int), Bytes8 p → ∀ t ∈ allF n p, Bytes8 t
  | 0, _, _ => by simp [allF]
  | n + 1, p, h => by
    by_cases hf : (endS p).2 = 0
    · unfold allF
      rw [if_neg (by simp [hf])]
      intro t ht
      rcases List.mem_cons.1 ht with rfl | ht
      · exact fun x hx => h x (List.mem_of_mem_drop (List.mem_of_mem_take hx))
      · exact allF_8 n _ (fun x hx => h x (List.mem_of_mem_drop hx)) t ht
    · unfold allF; rw [if_pos hf]; simp

def cut8 (ts : List (List Int)) (k : Nat) : List (List Int) := (ts.take (min k 8)).map (·.take 300)
def frs (us : List (List Int)) : List Int := (us.map frameOf).flatten
theorem frs_snoc (us : List (List Int)) (t : List Int) : frs (us ++ [t]) = frs us ++ frameOf t := by simp [frs]
theorem cut8_succ {ts : List (List Int)} {k : Nat} (h : k < ts.length) (h6 : k < 8) : cut8 ts (k + 1) = cut8 ts k ++ [ts[k].take 300] := by
  unfold cut8
  rw [show min (k + 1) 8 = k + 1 by omega, show min k 8 = k by omega, List.take_succ_eq_append_getElem h, List.map_append]; rfl
theorem cut8_end {ts : List (List Int)} {k : Nat} (h : k = ts.length ∨ 8 ≤ k) (hk : k ≤ ts.length) : cut8 ts k = cut8 ts ts.length := by
  rcases h with rfl | h
  · rfl
  · unfold cut8; rw [show min k 8 = 8 by omega, show min ts.length 8 = 8 by omega]
theorem frs_bulk : ∀ us : List (List Int), (∀ t ∈ us, t.length ≤ 300) → (frs us).length ≤ 306 * us.length
  | [], _ => by simp [frs]
  | t :: us, h => by
    have h3 := h t (List.mem_cons_self ..)
    have h4 := frs_bulk us fun x hx => h x (List.mem_cons_of_mem _ hx)
    have h5 := frameOf_len t
    unfold frs at h4 ⊢
    rw [List.map_cons, List.flatten_cons, List.length_append, List.length_cons]
    omega
theorem cut8_bulk (ts : List (List Int)) (k : Nat) : (cut8 ts k).length ≤ 8 ∧ (∀ t ∈ cut8 ts k, t.length ≤ 300) ∧ (frs (cut8 ts k)).length ≤ 2448 := by
  have h1 : (cut8 ts k).length ≤ 8 := by unfold cut8; rw [List.length_map, List.length_take]; omega
  have h2 : ∀ t ∈ cut8 ts k, t.length ≤ 300 := fun t ht => by
    obtain ⟨x, _, rfl⟩ := List.mem_map.1 ht
    rw [List.length_take]; omega
  have h3 := frs_bulk _ h2
  exact ⟨h1, h2, by omega⟩
theorem frs_8 {us : List (List Int)} (h : ∀ t ∈ us, Bytes8 t) : Bytes8 (frs us) := fun x hx => by
  obtain ⟨f, hf, hx⟩ := List.mem_flatten.1 hx
  obtain ⟨t, ht, rfl⟩ := List.mem_map.1 hf
  exact frameOf_8 (h t ht) x hx

set_option maxRecDepth 100000 in
set_option maxHeartbeats 2000000 in
theorem law_all (S : Nat → Prop) (A C : Option Addr) (c d : Nat) (ts : List (List Int)) (l0 : List Int) (w : World) (hT : Rests w) (h0 : 0 < w.heap.size) (h : TextsC w A ts) (_hl : ts.length ≤ 9223372036854775807) (h8 : ∀ t ∈ ts, Bytes8 t)
    (hrow0 : Row S w C (u8s l0)) (hc0 : l0.length ≤ d) (hl0 : l0.length ≤ 9223372036854775807) (h80 : Bytes8 l0) :
    Calls Tryd.prog 5 #[.slice A ts.length c, .slice C l0.length d] w fun e w' => e = .returned (.bool true) ∧ Below w.heap.size w w' := by
  obtain ⟨i0, hi0, hz0, hz1, hz2⟩ := info_parts Tryd.info5
  obtain ⟨j0, hj0, hy0, hy1, hy2⟩ := info_parts Tryd.info24
  have h8u : Hid (∀ t ∈ cut8 ts ts.length, Bytes8 t) := fun t ht x hx => by
    obtain ⟨y, hy, rfl⟩ := List.mem_map.1 ht
    exact h8 y (List.mem_of_mem_take hy) x (List.mem_of_mem_take hx)
  have H80 := Lib.hid h80
  clear h80
  go_enter Tryd.func5, Tryd.ntmps5
  go_wp2_with fail
  refine (awake_any _ hT h0).mono ?_
  rintro e w1 ⟨rfl, hb1⟩
  have h1 := h.below hb1
  have hrow1 := hrow0.below hb1
  clear h hrow0
  go_wp2_with fail
  go_loopw [5, 6, 7, 8, 9, 10, 21] (fun va v _ _ _ _ i wr => ∃ k : Nat, k ≤ ts.length ∧ i = .int .i64 k ∧ OwnT (fun g => some g ≠ va.ownBlock) wr w1.heap.size v (cut8 ts k) ∧ wr.ownsRow w1.heap.size 5 1 va (frs (cut8 ts k)).length (u8s (frs (cut8 ts k))) ∧ Below w1.heap.size w1 wr) (fun _ _ _ _ _ _ i _ => ts.length - (intOf i).toNat)
  case atStart => exact ⟨0, Nat.zero_le _, rfl, by simpa [cut8] using OwnT.start _ _ _, own_none w1 _, Below.refl _ _⟩
  case round =>
    obtain ⟨k, hk, rfl, hO, hA, hbl⟩ := hrel
    have hsz := hbl.size
    by_cases hin : k < ts.length ∧ k < 8
    · obtain ⟨hlt, h6⟩ := hin
      have i1 : (k : Int) < (ts.length : Int) := by omega
      obtain ⟨ad, At, ct, rfl, _, hcell, hct, htl, hrt⟩ := (h1.below hbl) k hlt
      have i2 : ¬ (8 : Int) ≤ (k : Int) := by omega
      have HT := Lib.hid (cut8_succ hlt h6)
      obtain ⟨hb6, _, hbf⟩ := cut8_bulk ts k
      have HC := Lib.hid (cut_any _ At ct 300 ts[k] wr hrt hct htl (by decide))
      have htk : (ts[k].take 300).length ≤ 300 := by rw [List.length_take]; omega
      have h8k : Bytes8 (ts[k].take 300) := fun x hx => h8 _ (List.getElem_mem hlt) x (List.mem_of_mem_take hx)
      obtain ⟨cs, hcs, hce⟩ := hO
      have HCE := Lib.hid hce
      have HG6 : Hid (∀ g, u6.ownBlock = some g → w1.heap.size ≤ g ∧ g < wr.heap.size) := fun g hg => own_lt hcs hg
      have HG5 : Hid (∀ g, u5.ownBlock = some g → w1.heap.size ≤ g ∧ g < wr.heap.size) := fun g hg => own_lt hA hg
      have HD0 : Hid (∀ g, u6.ownBlock = some g → u5.ownBlock ≠ some g) := own_types hcs hA (by decide)
      generalize ts[k] = t0 at *
      generalize t0.take 300 = t at *
      generalize cut8 ts k = us at *
      generalize hfl : frs us = fl at *
      have HFL := Lib.hid hfl
      clear hfl
      have HTL := Lib.hid (u8s_len t)
      clear hce h1 hrt hrow1
      go_wp2_with fail
      refine (HC.out).mono ?_
      rintro e w2 ⟨A2, c2, rfl, hc2, r2, hb2⟩
      rw [HTL.out] at hc2 ⊢
      have hs2 : wr.heap.size ≤ w2.heap.size := hb2.size
      have HF := Lib.hid (rframe_good _ A2 c2 t w2 r2 h8k (by omega))
      have hfk : (frameOf t).length ≤ 306 := by rw [frameOf_len]; omega
      obtain ⟨ft, hft⟩ : ∃ x, frameOf t = x := ⟨_, rfl⟩
      unfold GivesF at HF
      rw [hft] at HF hfk
      have HFT := Lib.hid hft
      clear hft
      go_wp2_with fail
      refine (HF.out).mono ?_
      rintro e w3 ⟨A3, c3, rfl, hc3, r3, hb3⟩
      have hs3 : w2.heap.size ≤ w3.heap.size := hb3.size
      have hbQ : Below wr.heap.size wr w3 := hb2.trans (hb3.mono hs2)
      have hA3 := own_below hA hbQ
      have hcs3 := own_below hcs hbQ
      have r23 : Row (fun g => wr.heap.size ≤ g ∧ g < w3.heap.size) w3 A2 (u8s t) := (r2.below hb3).mono fun g hg h => ⟨h, hg⟩
      go_wp2_with (first
        | (at_builtin; refine wpList_append_row _ rfl (.tmp 35) (.tmp 36) 24 rfl w1.heap.size 5 i0 (.int .u8 0) 1 Tryd.underlying24 hi0 hz0 hz1 hz2 rfl u5 fl.length (u8s fl) rfl hA3 _ A3 ft.length c3 (u8s ft) rfl (u8s_len ft) r3 (u8s_one ft) ?m1 ?m2 ?m3 ?_; rotate_right; intro A4 c4 w4 hown4 hgrow4 hat4
           have hcs4 := own_kept hcs3 hgrow4 (fun g h6 h5 => HD0.out g h6 h5)
           have hs4 : w3.heap.size ≤ w4.heap.size := hgrow4.size
           have r4 : Row (fun g => wr.heap.size ≤ g ∧ g < w3.heap.size) w4 A2 (u8s t) := r23.kept hs4 fun g hg s => hgrow4.block g hg (fun e => by have := (HG5.out g e.symm).2; omega)
           have hcs5 := hcs4.alloc (.cells #[.slice A2 t.length c2] 24)
           have hn5 : Row (fun _ => True) (w4.alloc (.cells #[.slice A2 t.length c2] 24)) (some ⟨w4.heap.size, 0, none⟩) [.slice A2 t.length c2] := Row.of_block (heap_alloc_new w4 _) trivial)
        | (at_builtin; refine wpList_append_row _ rfl (.tmp 38) (.tmp 40) 22 rfl w1.heap.size 24 j0 (.slice none 0 0) 24 Tryd.underlying22 hj0 hy0 hy1 hy2 rfl u6 us.length cs rfl hcs5 (fun _ => True) (some ⟨w4.heap.size, 0, none⟩) 1 1 [.slice A2 t.length c2] rfl rfl hn5 ?k1 ?k2 ?k3 ?k4 ?_; rotate_right; intro A6 c6 w6 hown6 hgrow6 hat6))
      case m1 => unfold maxLen; omega
      case m2 => omega
      case m3 => omega
      case k1 => simp [Value.oneCell']
      case k2 => unfold maxLen; omega
      case k3 => omega
      case k4 => simp; omega
      have HX : ∀ g, g < w3.heap.size → some g ≠ u5.ownBlock → some g ≠ (Value.slice A4 (fl.length + ft.length) c4).ownBlock := fun g hg hn => by
        rcases hat4 with e | e
        · rw [e]; exact hn
        · rw [e]; intro e'; injection e' with e'; omega
      have h2 : CellsT (fun g => (w1.heap.size ≤ g ∧ some g ≠ u6.ownBlock) ∧ some g ≠ (Value.slice A4 (fl.length + ft.length) c4).ownBlock) w4 cs us :=
        HCE.out.kept (by omega) fun g hg s => ⟨(hgrow4.block g (by omega) s.2).trans (hbQ.block g hg), s.1, HX g (by omega) s.2⟩
      have h3 : CellsT (fun g => (w1.heap.size ≤ g ∧ some g ≠ u6.ownBlock) ∧ some g ≠ (Value.slice A4 (fl.length + ft.length) c4).ownBlock) w4 [.slice A2 t.length c2] [t] :=
        CellsT.one (r4.mono fun g hg1 hg => ⟨⟨by omega, fun e => by have := (HG6.out g e.symm).2; omega⟩, HX g hg.2 fun e => by have := (HG5.out g e.symm).2; omega⟩)
      have hO6 : OwnT (fun g => some g ≠ (Value.slice A4 (fl.length + ft.length) c4).ownBlock) w6 w1.heap.size (.slice A6 (us.length + 1) c6) (us ++ [t]) := OwnT.step (us := [t]) h2 h3 hown6 hgrow6 (by simpa using hat6)
      have hA6 := own_kept (hown4.alloc (.cells #[.slice A2 t.length c2] 24)) hgrow6 (own_types hown4 hcs4 (by decide))
      have hb4 : Below w1.heap.size w1 w4 := (hbl.trans (hbQ.mono hsz)).grown hgrow4 (by omega) (fun g hg => (HG5.out g hg).1)
      have hb6' : Below w1.heap.size w1 w6 := (hb4.alloc (by omega) _).grown hgrow6 (by simp; omega) (fun g hg => (HG6.out g hg).1)
      have HO := Lib.hid hO6
      have HA := Lib.hid (show w6.ownsRow w1.heap.size 5 1 (.slice A4 (fl.length + ft.length) c4) (frs (us ++ [t])).length (u8s (frs (us ++ [t]))) by
        rw [frs_snoc, HFL.out, HFT.out, List.length_append, show u8s (fl ++ ft) = u8s fl ++ u8s ft by simp [u8s]]; exact hA6)
      clear hown4 hgrow4 hat4 hown6 hgrow6 hat6 hO6 h2 h3 hA6 hA3 hcs3 hcs4 hcs5 hn5 r2 r3 r4 r23 hb2 hb3 hbQ hb4 hcs hA HX
      go_wp2_with fail
      go_roundw
      case rel => exact ⟨k + 1, by omega, by go_num, by rw [HT.out]; exact HO.out, by rw [HT.out]; exact HA.out, hb6'⟩
      case measure => simp [intOf]; omega
    · have hcut := cut8_end (ts := ts) (k := k) (by omega) hk
      rw [hcut] at hO hA
      obtain ⟨hb6, hb7, hbf⟩ := cut8_bulk ts ts.length
      have HB7 := Lib.hid hb7
      clear hb7 hcut
      generalize cut8 ts ts.length = us at *
      have HFR : Hid (∀ q, allS (frs us ++ q) = us ++ allS q ∧ endA (frs us ++ q) = (frs us).length + endA q) := fun q => all_fronts us q fun l hl => ⟨by have := HB7.out l hl; omega, h8u.out l hl⟩
      have H8F := Lib.hid (frs_8 h8u.out)
      generalize frs us = fl at *
      obtain ⟨cs, hcs, hce⟩ := hO
      obtain ⟨Ap, cp, rfl, hcp, _, hrp⟩ := Row.of_own hA
      obtain ⟨Aw, cw, rfl, hcw, _, _⟩ := Row.of_own hcs
      have HCE := Lib.hid hce
      have HG6 : Hid (∀ g, (Value.slice Aw us.length cw).ownBlock = some g → w1.heap.size ≤ g ∧ g < wr.heap.size) := fun g hg => own_lt hcs hg
      have HCB := Lib.hid (cut_any S C d 300 l0 wr (hrow1.below hbl) hc0 hl0 (by decide))
      have hq : (l0.take 300).length ≤ 300 := by rw [List.length_take]; omega
      have H8Q : Hid (Bytes8 (l0.take 300)) := fun x hx => H80.out x (List.mem_of_mem_take hx)
      generalize l0.take 300 = q at *
      have HQL := Lib.hid (u8s_len q)
      have HA8 : Hid (∀ t ∈ us ++ allS q, Bytes8 t) := fun t ht => by
        rcases List.mem_append.1 ht with ht | ht
        · exact h8u.out t ht
        · exact allF_8 _ q H8Q.out t ht
      have hab : (allS q).length * 6 ≤ q.length := allF_bulk _ q
      obtain ⟨hfr1, hfr2⟩ := HFR.out q
      have HALL0 : Hid (∀ (T : Nat → Prop) (A4 : Option Addr) (c4 : Nat) (w4 : World), Rests w4 → 0 < w4.heap.size → Row T w4 A4 (u8s (fl ++ q)) → fl.length + q.length ≤ c4 →
          Calls Tryd.prog 22 #[.slice A4 (fl.length + q.length) c4] w4 fun e w' => ∃ v, e = .returned (.tuple #[v, .int .i64 ((fl.length : Int) + (endA q : Int))]) ∧ OwnT (fun _ => True) w' w4.heap.size v (us ++ allS q) ∧ Below w4.heap.size w4 w') := fun T A4 c4 w4 t1 t2 t3 t4 => by
        have := all_any T A4 (fl.length + q.length) c4 (fl ++ q) w4 (by simp) t1 t2 t3 (by simp; omega) (by simp; omega) (fun x hx => by
          rcases List.mem_append.1 hx with hx | hx
          · exact H8F.out x hx
          · exact H8Q.out x hx)
        unfold GivesA at this
        rw [hfr1, hfr2, Int.natCast_add] at this
        exact this
      have HRA0 : Hid (∀ (T : Nat → Prop) (A4 : Option Addr) (c4 : Nat) (w4 : World), Row T w4 A4 (u8s q) → q.length ≤ c4 →
          Calls Tryd.prog 23 #[.slice A4 q.length c4] w4 fun e w' => ∃ v, e = .returned (.tuple #[v, .int .i64 (endA q : Int)]) ∧ OwnT (fun _ => True) w' w4.heap.size v (allS q) ∧ Below w4.heap.size w4 w') := fun T A4 c4 w4 t3 t4 =>
        rall_any T A4 q.length c4 q w4 rfl t3 t4 (by omega) H8Q.out
      have hea : endA q ≤ q.length := endA_le _ q (Nat.le_refl _)
      generalize endA q = eq at *
      generalize allS q = aq at *
      obtain ⟨n7, hn7⟩ : ∃ x, us.length + aq.length = x := ⟨_, rfl⟩
      have HN7 := Lib.hid hn7
      have hn7' : n7 ≤ 100 := by omega
      have hn8 : (us ++ aq).length = n7 := by rw [List.length_append]; exact hn7
      have HN8 := Lib.hid hn8
      clear hn7 hn8 hfr1 hfr2 HFR hrow1 hce hA
      by_cases hlt : k < ts.length
      case' pos =>
        have i1 : (k : Int) < (ts.length : Int) := by omega
        obtain ⟨ad, At, ct, rfl, _, hcell, hct, htl, hrt⟩ := (h1.below hbl) k hlt
        have i2 : (8 : Int) ≤ (k : Int) := by omega
        clear hrt htl hct
        generalize ts[k].length = lk at *
        clear h1 hlt hin
      case' neg =>
        have i1 : ¬ (k : Int) < (ts.length : Int) := by omega
        clear h1 hlt hin
      all_goals (
        go_wp2_with fail
        refine (HCB.out).mono ?_
        rintro e w2 ⟨A2, c2, rfl, hc2, r2, hb2⟩
        rw [HQL.out] at hc2 ⊢
        have hs2 : wr.heap.size ≤ w2.heap.size := hb2.size
        have HCP := Lib.hid (copy_any _ Ap fl.length cp fl w2 rfl (hrp.below hb2) (by omega))
        clear hrp
        go_wp2_with fail
        refine (HCP.out).mono ?_
        rintro e w3 ⟨A3, c3, rfl, hc3, hown3, r3, hb3⟩
        have hs3 : w2.heap.size ≤ w3.heap.size := hb3.size
        have r23 : Row (fun g => g < w2.heap.size) w3 A2 (u8s q) := (r2.mono fun g hg _ => hg).below hb3
        clear r3 r2
        go_wp2_with (at_builtin; refine wpList_append_row _ rfl (.tmp 49) (.tmp 50) 24 rfl w2.heap.size 5 i0 (.int .u8 0) 1 Tryd.underlying24 hi0 hz0 hz1 hz2 rfl (.slice A3 fl.length c3) fl.length (u8s fl) rfl hown3 _ A2 q.length c2 (u8s q) rfl (u8s_len q) r23 (u8s_one q) ?m1 ?m2 ?m3 ?_; rotate_right; intro A4 c4 w4 hown4 hgrow4 hat4)
        case m1 => unfold maxLen; omega
        case m2 => omega
        case m3 => omega
        have hb4 : Below w2.heap.size w2 w4 := hb3.grown hgrow4 (by omega) (fun g hg => (own_lt hown3 hg).1)
        have hs4 : w3.heap.size ≤ w4.heap.size := hgrow4.size
        have r24 : Row (fun g => g < w2.heap.size) w4 A2 (u8s q) := r23.kept hs4 fun g hg s => hgrow4.block g hg (fun e => by have := (own_lt hown3 e.symm).1; omega)
        rw [show u8s fl ++ u8s q = u8s (fl ++ q) by simp [u8s]] at hown4
        obtain ⟨A4', c4', e4, hc4, _, r4⟩ := Row.of_own hown4
        injection e4 with e41 _ e43
        subst e41 e43
        have hb24 : Below wr.heap.size wr w4 := hb2.trans (hb4.mono hs2)
        have hb14 : Below w1.heap.size w1 w4 := hbl.trans (hb24.mono hsz)
        have hb04 : Below w.heap.size w w4 := hb1.trans (hb14.mono hb1.size)
        have HALL := Lib.hid (HALL0.out _ A4 c4 w4 (hT.below hb04 h0) (Nat.lt_of_lt_of_le h0 hb04.size) r4 hc4)
        clear hown3 hown4 hgrow4 hat4 r23 r4 HALL0
        go_wp2_with fail
        refine (HALL.out).mono ?_
        rintro e w5 ⟨v5, rfl, hO5, hb5⟩
        obtain ⟨Ag, cg, rfl, hcg, htg⟩ := hO5.texts
        rw [HN8.out] at hcg ⊢
        have HRA := Lib.hid (HRA0.out _ A2 c2 w5 (r24.below hb5) hc2)
        clear HRA0 r24 hO5
        go_wp2_with fail
        refine (HRA.out).mono ?_
        rintro e w6 ⟨v6, rfl, hO6, hb6'⟩
        obtain ⟨ds, hds, hde⟩ := hO6
        obtain ⟨Am, cm, rfl, hcm, hdl, hrm⟩ := Row.of_own hds
        have hs5 : w4.heap.size ≤ w5.heap.size := hb5.size
        have hs6 : w5.heap.size ≤ w6.heap.size := hb6'.size
        have hb26 : Below wr.heap.size wr w6 := (hb24.trans (hb5.mono hb24.size)).trans (hb6'.mono (by omega))
        have hcs6 := own_below hcs hb26
        have hb16 : Below w1.heap.size w1 w6 := hbl.trans (hb26.mono hsz)
        go_wp2_with (at_builtin; refine wpList_append_row _ rfl (.tmp 60) (.tmp 61) 22 rfl w1.heap.size 24 j0 (.slice none 0 0) 24 Tryd.underlying22 hj0 hy0 hy1 hy2 rfl (.slice Aw us.length cw) us.length cs rfl hcs6 _ Am aq.length cm ds rfl hdl hrm hde.one_cell ?k1 ?k2 ?k3 ?_; rotate_right; intro A7 c7 w7 hown7 hgrow7 hat7; rw [HN7.out] at hown7 hat7 ⊢)
        case k1 => unfold maxLen; omega
        case k2 => omega
        case k3 => omega
        have h2 : CellsT (fun g => (w1.heap.size ≤ g ∧ some g ≠ (Value.slice Aw us.length cw).ownBlock) ∧ True) w6 cs us := HCE.out.kept hb26.size fun g hg s => ⟨hb26.block g hg, s.1, trivial⟩
        have h3 : CellsT (fun g => (w1.heap.size ≤ g ∧ some g ≠ (Value.slice Aw us.length cw).ownBlock) ∧ True) w6 ds aq := hde.kept (Nat.le_refl _) fun g hg s => ⟨rfl, ⟨by omega, fun e => by have := (HG6.out g e.symm).2; have := s.1.1; have := hb24.size; omega⟩, trivial⟩
        have hO7 : OwnT (fun _ => True) w7 w1.heap.size (.slice A7 n7 c7) (us ++ aq) := OwnT.step0 h2 h3 (by rw [HN7.out]; exact hown7) hgrow7 hat7
        obtain ⟨A7', c7', e7, hc7, htw⟩ := hO7.texts
        injection e7 with e71 _ e73
        subst e71 e73
        have htg7 := (htg.below hb6').kept hgrow7.size fun g hg s => hgrow7.block g hg (fun e => by have := (HG6.out g e.symm).2; have := hb24.size; omega)
        have hb17 : Below w1.heap.size w1 w7 := hb16.grown hgrow7 hb16.size (fun g hg => (HG6.out g hg).1)
        have hb07 : Below w.heap.size w w7 := hb1.trans (hb17.mono hb1.size)
        clear hown7 hgrow7 hat7 h2 h3 hO7 hds hde hrm hdl hcs6 hcs hb16 hb26 hb6' hb5 hb4 hb3 hb2 hb24 hb14 hb04 htg
        generalize us ++ aq = ws at *
        go_wp2_with fail
        go_loopw [16, 77] (fun _ i wx => ∃ k : Nat, k ≤ n7 ∧ i = .int .i64 k ∧ Below w7.heap.size w7 wx) (fun _ i _ => n7 - (intOf i).toNat)
        case atStart => exact ⟨0, Nat.zero_le _, rfl, Below.refl _ _⟩
        case round =>
          obtain ⟨x, hx, rfl, hbx⟩ := hrel
          by_cases hxt : x < n7
          · have hxw : x < ws.length := by rw [HN8.out]; exact hxt
            have x1 : (x : Int) < (n7 : Int) := by omega
            obtain ⟨gd, Ax, cx, rfl, hcx, hrx⟩ := (htg7.below hbx).at_ hxw
            obtain ⟨bd, Ay, cy, rfl, hcy, hry⟩ := (htw.below hbx).at_ hxw
            have h8x := HA8.out _ (List.getElem_mem hxw)
            have HS : Hid (∀ n, Calls Tryd.prog 16 #[.slice Ax ws[x].length cx, .slice Ay ws[x].length cy] (World.drewN wr n) fun e w' => e = .returned (.bool true) ∧ ∃ m, w' = World.drewN wr m) := fun n => by
              have := same_any _ _ Ax Ay cx cy ws[x] ws[x] (World.drewN wr n) hrx hry h8x h8x
              rw [show (ws[x] == ws[x]) = true by simp] at this
              exact quiet_left this
            clear htg7 htw hrx hry h8x
            generalize ws[x].length = lx at *
            go_wp2_with fail
            go_quiet (first | (go_at_call 16; exact HS.out _))
            go_wp2_with fail
            go_roundw
            case rel => exact ⟨x + 1, by omega, by go_num, below_drewN hbx _⟩
            case measure => simp [intOf]; omega
          · have x1 : ¬ (x : Int) < (n7 : Int) := by omega
            go_wp2_with fail
            go_ret
            exact ⟨rfl, hb07.trans (hbx.mono hb07.size)⟩)

end Go.Proofs.YtaihemmnpliehaaDoor
