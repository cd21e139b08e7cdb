/-
  What SealSums does: it returns true, and turns nothing that was there.
-/
import Derived.Test.YtaihemmnpliehaaDoorWhole2
namespace Go.Proofs.YtaihemmnpliehaaDoor
open Go.RowKit

theorem cutT_at {ts : List (List Int)} {k : Nat} (h : k < (cutT ts ts.length).length) : ∃ h2 : k < ts.length, (cutT ts ts.length)[k] = ts[k].take 1000 := by
  unfold cutT at h ⊢
  rw [List.length_map, List.length_take] at h
  exact ⟨by omega, by simp⟩

/-- the loop over the parts -/
def SumsEnd (w : World) (e : Ending) (w' : World) : Prop := e = .returned (.bool true) ∧ Below w.heap.size w w'

set_option maxRecDepth 100000 in
set_option maxHeartbeats 2000000 in
theorem law_sums (A : Option Addr) (c : Nat) (ts : List (List Int)) (w : World) (hT : Rests w) (h0 : 0 < w.heap.size) (h : TextsC w A ts) (hl : ts.length ≤ 9223372036854775807) (h8 : ∀ t ∈ ts, Bytes8 t) :
    Calls Tryd.prog 3 #[.slice A ts.length c] w fun e w' => e = .returned (.bool true) ∧ Below w.heap.size w w' := by
  have h8u : ∀ t ∈ cutT ts ts.length, Bytes8 t := fun t ht x hx => by
    obtain ⟨y, hy, rfl⟩ := List.mem_map.1 ht
    exact h8 y (List.mem_of_mem_take hy) x (List.mem_of_mem_take hx)
  obtain ⟨hb6, hbf⟩ := cutT_bulk ts ts.length
  have HAT : Hid (∀ k (hk : k < (cutT ts ts.length).length), ∃ h2 : k < ts.length, (cutT ts ts.length)[k] = ts[k].take 1000) := fun k hk => cutT_at hk
  go_enter Tryd.func3, Tryd.ntmps3
  go_wp2_with fail
  refine (awake_any _ hT h0).mono ?_
  rintro e w1 ⟨rfl, hb1⟩
  have h1 := h.below hb1
  go_wp2_with fail
  refine (whole_any A c ts _ h1 hl).mono ?_
  rintro e w2 ⟨v, va, rfl, hO, hA, hb2⟩
  have h2 := h1.below hb2
  have hb2' := hb1.trans (hb2.mono hb1.size)
  generalize cutT ts ts.length = us at *
  have hlu : ∀ t ∈ us, t.length ≤ 70368744177664 := fun t ht => by
    have h1 : t.length ≤ us.flatten.length := List.Sublist.length_le (List.sublist_flatten_of_mem ht)
    omega
  have h8f : Bytes8 us.flatten := fun x hx => by
    obtain ⟨t, ht, hxt⟩ := List.mem_flatten.1 hx
    exact h8u t ht x hxt
  obtain ⟨Ap, cp, rfl, hcp, hts⟩ := hO.texts
  obtain ⟨Aa, ca, hva, hca, _, hra⟩ := Row.of_own hA
  subst hva
  have hra' := hra.any
  have hT2 := hT.below hb2' h0
  have h02 : 0 < w2.heap.size := Nat.lt_of_lt_of_le h0 hb2'.size
  clear h h1 hb1 hb2 hO hA hra
  by_cases hg : us.flatten.length ≤ 4096
  · have hfp := frame_good _ Ap cp us w2 hT2 hts h8u (by omega) hg h02
    generalize hfl : us.flatten = fl at *
    have HFL := Lib.hid hfl
    clear hfl
    go_wp2_with fail
    refine hfp.mono ?_
    rintro e w3 ⟨A3, c3, rfl, hc3, hr3, hb3⟩
    have hb3' := hb2'.trans (hb3.mono hb2'.size)
    have ht3 := hts.below hb3
    have hra3 := hra'.below hb3
    have hfr := rframe_good _ Aa ca fl w3 hra3 h8f hg
    clear hfp
    go_wp2_with fail
    refine hfr.mono ?_
    rintro e w4 ⟨A4, c4, rfl, hc4, hr4, hb4⟩
    have hb4' := hb3'.trans (hb4.mono hb3'.size)
    have hsp := sum_any _ Ap cp us w4 (hT.below hb4' h0) (ht3.below hb4) h8u hlu (by omega)
    have hsr := rsum_any _ Aa fl.length ca fl w4 rfl (hra3.below hb4) h8f (by omega)
    have hsm := same_any _ _ A3 A4 c3 c4 (frameOf fl) (frameOf fl) w4 (hr3.below hb4) hr4 (frameOf_8 h8f) (frameOf_8 h8f)
    rw [show (frameOf fl == frameOf fl) = true by simp] at hsm
    rw [HFL.out] at hsp
    have ht4 := ht3.below hb4
    have h4 := h2.below (hb3.trans (hb4.mono hb3.size))
    have HSP := Lib.hid hsp
    have HSR := Lib.hid hsr
    have HSM := Lib.hid hsm
    clear hsp hsr hsm hfr hr3 hr4 hra3 hts ht3 hra'
    generalize frameOf fl = ff at *
    generalize sumOf fl = sl at *
    go_wp2_with (first | (go_at_call 14; refine (HSP.out).mono ?_; rintro e w5 ⟨rfl, rfl⟩) | (go_at_call 15; refine (HSR.out).mono ?_; rintro e w5 ⟨rfl, rfl⟩) | (go_at_call 16; refine (HSM.out).mono ?_; rintro e w5 ⟨rfl, rfl⟩))
    go_loopw [9, 10, 46] (fun _ _ i wr => ∃ k : Nat, k ≤ us.length ∧ i = .int .i64 k ∧ Below w4.heap.size w4 wr) (fun _ _ i _ => us.length - (intOf i).toNat)
    case atStart => exact ⟨0, Nat.zero_le _, rfl, Below.refl _ _⟩
    case round =>
      obtain ⟨k, hk, rfl, hbl⟩ := hrel
      by_cases hlt : k < us.length
      · have i1 : (k : Int) < (us.length : Int) := by omega
        obtain ⟨ad, Ax, cx, rfl, hcx, hrx⟩ := (ht4.below hbl).at_ hlt
        obtain ⟨hkt, hue⟩ := HAT.out k hlt
        obtain ⟨bd, Ay, cy, rfl, _, hcy, hcy1, hcy2, hry⟩ := (h4.below hbl) k hkt
        have i2 : (k : Int) < (ts.length : Int) := by omega
        have h8k := h8u _ (List.getElem_mem hlt)
        have HC := Lib.hid (cut_any _ Ay cy 1000 ts[k] wr hry hcy1 hcy2 (by decide))
        rw [← hue] at HC
        generalize ts[k] = t0 at *
        generalize us[k] = t at *
        have HTL := Lib.hid (u8s_len t)
        clear hue h4 ht4 hry
        go_wp2_with fail
        refine (HC.out).mono ?_
        rintro e w6 ⟨A6, c6, rfl, _, r6, hb6⟩
        rw [HTL.out]
        have HS := Lib.hid (same_any _ _ Ax A6 cx c6 t t w6 (hrx.below hb6) r6 h8k h8k)
        rw [show (t == t) = true by simp] at HS
        go_wp2_with fail
        refine (HS.out).mono ?_
        rintro e w7 ⟨rfl, rfl⟩
        go_wp2_with fail
        go_roundw
        case rel => exact ⟨k + 1, by omega, by go_num, hbl.trans (hb6.mono hbl.size)⟩
        case measure => simp [intOf]; omega
      · have i1 : ¬ (k : Int) < (us.length : Int) := by omega
        go_wp2_with fail
        go_ret
        exact ⟨rfl, hb4'.trans (hbl.mono hb4'.size)⟩
  · have hg' : 4096 < us.flatten.length := by omega
    have hfp := frame_long _ Ap cp us w2 hts hlu (by omega) hg'
    have hsp := sum_any _ Ap cp us w2 hT2 hts h8u hlu (by omega)
    generalize hfl : us.flatten = fl at *
    have HFL := Lib.hid hfl
    clear hfl
    have HFR := Lib.hid (rframe_long Aa fl.length ca w2 hg' (by omega))
    have HSP := Lib.hid hsp
    have HSR := Lib.hid (rsum_any _ Aa fl.length ca fl w2 rfl hra' h8f (by omega))
    have HSM := Lib.hid (same_any (fun _ => True) (fun _ => True) none none 0 0 [] [] w2 Row.nil Row.nil (by intro x hx; simp at hx) (by intro x hx; simp at hx))
    rw [show (([] : List Int) == []) = true by simp] at HSM
    have HFP := Lib.hid hfp
    have ht4 := hts
    have h4 := h2
    clear hsp hfp hts hra' h2
    generalize sumOf fl = sl at *
    go_wp2_with fail
    refine (HFP.out).mono ?_
    rintro e w3 ⟨rfl, rfl⟩
    go_wp2_with fail
    refine (HFR.out).mono ?_
    rintro e w3 ⟨rfl, rfl⟩
    go_wp2_with (first | (go_at_call 14; refine (HSP.out).mono ?_; rintro e w5 ⟨rfl, rfl⟩) | (go_at_call 15; refine (HSR.out).mono ?_; rintro e w5 ⟨rfl, rfl⟩) | (go_at_call 16; refine (HSM.out).mono ?_; rintro e w5 ⟨rfl, rfl⟩))
    go_loopw [9, 10, 46] (fun _ _ i wr => ∃ k : Nat, k ≤ us.length ∧ i = .int .i64 k ∧ Below w2.heap.size w2 wr) (fun _ _ i _ => us.length - (intOf i).toNat)
    case atStart => exact ⟨0, Nat.zero_le _, rfl, Below.refl _ _⟩
    case round =>
      obtain ⟨k, hk, rfl, hbl⟩ := hrel
      by_cases hlt : k < us.length
      · have i1 : (k : Int) < (us.length : Int) := by omega
        obtain ⟨ad, Ax, cx, rfl, hcx, hrx⟩ := (ht4.below hbl).at_ hlt
        obtain ⟨hkt, hue⟩ := HAT.out k hlt
        obtain ⟨bd, Ay, cy, rfl, _, hcy, hcy1, hcy2, hry⟩ := (h4.below hbl) k hkt
        have i2 : (k : Int) < (ts.length : Int) := by omega
        have h8k := h8u _ (List.getElem_mem hlt)
        have HC := Lib.hid (cut_any _ Ay cy 1000 ts[k] wr hry hcy1 hcy2 (by decide))
        rw [← hue] at HC
        generalize ts[k] = t0 at *
        generalize us[k] = t at *
        have HTL := Lib.hid (u8s_len t)
        clear hue h4 ht4 hry
        go_wp2_with fail
        refine (HC.out).mono ?_
        rintro e w6 ⟨A6, c6, rfl, _, r6, hb6⟩
        rw [HTL.out]
        have HS := Lib.hid (same_any _ _ Ax A6 cx c6 t t w6 (hrx.below hb6) r6 h8k h8k)
        rw [show (t == t) = true by simp] at HS
        go_wp2_with fail
        refine (HS.out).mono ?_
        rintro e w7 ⟨rfl, rfl⟩
        go_wp2_with fail
        go_roundw
        case rel => exact ⟨k + 1, by omega, by go_num, hbl.trans (hb6.mono hbl.size)⟩
        case measure => simp [intOf]; omega
      · have i1 : ¬ (k : Int) < (us.length : Int) := by omega
        go_wp2_with fail
        go_ret
        exact ⟨rfl, hb2'.trans (hbl.mono hb2'.size)⟩

end Go.Proofs.YtaihemmnpliehaaDoor
