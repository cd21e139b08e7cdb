/-
  The contract of Crash.
-/
import Derived.Test.YtchedflfinkppaaCrash
import Derived.Deep.RegionHeld3
namespace Go.Proofs.Ytchedflfinkppaa
open Go.RowKit Go.Maps Go.Sort Go.Shelf

theorem alike_below {w W : World} {n : Nat} (h1 : W.heap = w.heap) (h2 : W.os = w.os) (h3 : W.tape = w.tape) (h4 : W.output = w.output) : Below n w W := ⟨h2, h3, h4, by rw [h1]; exact Nat.le_refl _, fun k _ => by rw [h1]⟩
theorem Fil.alike {w W : World} {B f : Nat} {v : Value} {bs : List Int} {firm : Nat} (h : Fil w B f v bs firm) (e : W.heap = w.heap) : Fil W B f v bs firm := by
  refine ⟨by rw [e]; exact h.blk, ⟨h.row.1, ?_⟩, h.le⟩
  rcases h.row.2 with h0 | ⟨g, cap, cur, hv, hb, hh, r⟩
  · exact .inl h0
  · exact .inr ⟨g, cap, cur, hv, hb, by rw [e]; exact hh, r⟩
theorem Row.alike {S : Nat → Prop} {w W : World} {A : Option Addr} {xs : List Value} (h : Row S w A xs) (e : W.heap = w.heap) : Row S W A xs := h.kept (by rw [e]; exact Nat.le_refl _) fun g _ _ => by rw [e]

set_option maxHeartbeats 400000 in
theorem crash_nil (A : Option Addr) (l c : Nat) (w : World) : Calls Try.prog 20 #[.pointer none, .slice A l c] w fun e w' => e = .returned (.tuple #[]) ∧ w = w' := by
  go_enter Try.func20, Try.ntmps20
  go_wp2_with fail
  refine bodyPost_ret (results_none rfl _ _ _) rfl ?_
  exact ⟨rfl, rfl⟩

/-- What a crash leaves: the entries that it has made, told without memory. -/
def Crashed (w w' : World) (B b mb n : Nat) (D : DataW Unit) (p : Pw) (room : Nat) (E : List Ent) (keep : List Int) (k : Nat) : Prop :=
  ∃ E', Dsk w' B b mb n D p room E' ∧ DskC w w' b mb E E' ∧ abs E' = crT (abs E) (srt E) keep k

section
variable (B b mb n : Nat) (D : DataW Unit) (p : Pw) (room : Nat) (E : List Ent)

set_option maxRecDepth 100000 in
set_option maxHeartbeats 2000000 in
theorem crash_any (S : Nat → Prop) (A : Option Addr) (c : Nat) (keep : List Int) (w : World) (h : Dsk w B b mb n D p room E) (hr : Row S w A (i64s keep)) (hS : ∀ g, g < w.heap.size → S g → ¬ Of b mb E g) (hE : E.length ≤ 1000) (hN : ∀ e ∈ E, e.name.length ≤ 1000) (hk : keep.length ≤ 9223372036854775807) :
    Calls Try.prog 20 #[.pointer (some ⟨b, 0, none⟩), .slice A keep.length c] w fun e w' => e = .returned (.tuple #[]) ∧ Crashed w w' B b mb n D Pw.fresh room E keep E.length := by
  have HNA := Lib.hid (names_srt B b mb n D p room E w h (by omega))
  have HD := Lib.hid h
  have HR := Lib.hid hr
  have HS := Lib.hid hS
  have HN := Lib.hid hN
  clear h hr hS hN
  go_enter Try.func20, Try.ntmps20
  go_wp2_with fail
  refine (HNA.out).mono ?_
  rintro e w1 ⟨NA, nc, rfl, hnc, hrow, hb1⟩
  have HROW := Lib.hid hrow
  have HD1 := Lib.hid (HD.out.below hb1)
  have HC1 : Hid (DskC w w1 b mb E E) := .of_only (Only.of_below hb1)
  have HB1 := Lib.hid hb1
  clear hrow hb1 HNA
  go_wp2_with fail
  go_loopw [12] (fun i wr => ∃ k : Nat, k ≤ E.length ∧ i = .int .i64 k ∧ ∃ E', Dsk wr B b mb n D p room E' ∧ DskC w wr b mb E E' ∧ DskC w1 wr b mb E E' ∧ abs E' = crT (abs E) (srt E) keep k) (fun i _ => E.length - (intOf i).toNat)
  case atStart => exact ⟨0, Nat.zero_le _, rfl, E, HD1.out, HC1.out, .of_only (Only.refl _ _), rfl⟩
  case round =>
    obtain ⟨k, hk1, rfl, E', hd', hc', hc1', ha'⟩ := hrel
    have HI := Lib.hid hd'
    have HC := Lib.hid hc'
    have HCO := Lib.hid hc1'
    have HA := Lib.hid ha'
    clear hd' hc' hc1' ha'
    by_cases hlt : k < E.length
    · have i1 : (k : Int) < (E.length : Int) := by omega
      have hks : k < (srt E).length := by rw [srt_len]; exact hlt
      have hkl : k < ((srt E).map keyB).length := by rw [List.length_map]; exact hks
      have hrk : Row (fun g => w.heap.size ≤ g) wr NA (strs ((srt E).map keyB)) := HROW.out.kept HCO.out.size fun g hg s => HCO.out.block g hg fun ho => by
        have := HD.out.of_lt ho
        omega
      obtain ⟨ad, rfl, _, _, hc⟩ := hrk k (by rw [strs_len]; exact hkl)
      rw [strs_at hkl] at hc
      have hnk : (((srt E).map keyB)[k]).data.toList = (srt E)[k] := by rw [List.getElem_map, keyB_data]
      have hmem : (srt E)[k] ∈ E.map Ent.name := (mem_srt E _).1 (List.getElem_mem hks)
      have hlen : (((srt E).map keyB)[k]).size ≤ maxLen := by
        obtain ⟨e, he, hn⟩ := List.mem_map.1 hmem
        have h1 := HN.out e he
        rw [hn, ← hnk] at h1
        have h2 : (((srt E).map keyB)[k]).size = (((srt E).map keyB)[k]).data.toList.length := by rw [Array.length_toList]; rfl
        unfold maxLen
        omega
      have hmem' : (srt E)[k] ∈ E'.map Ent.name := by
        rw [← abs_names, HA.out, crT_names, abs_names]
        exact hmem
      obtain ⟨e0, he0, hn0⟩ := List.mem_map.1 hmem'
      have HSUC : Hid (crT (abs E) (srt E) keep (k + 1) = cr1 (abs E') e0.name k keep) := by
        show _ = _
        rw [crT_succ, HA.out, hn0, List.getD_eq_getElem?_getD, List.getElem?_eq_getElem hks]
        rfl
      rw [← hn0] at hnk
      clear hmem hmem' hn0 hrk hks
      generalize ((srt E).map keyB)[k] = nk at *
      obtain ⟨_, _, _, _, c4⟩ := HI.out.blk.cells
      have hl0 := HI.out.leads e0 he0
      rw [← hnk] at hl0
      have hrun := look_hit HI.out.map hlen hl0
      have hF := HI.out.file e0 he0
      have hfl := hF.le
      have hsum := le_sum he0
      have hfits := HI.out.fits
      have hmost := HI.out.most
      have hkl2 := keptN_le k keep (e0.bs.length - e0.firm)
      have hcell := two_cell1 hF.blk
      obtain ⟨m, hm⟩ : ∃ m : Nat, m = keptN k keep (e0.bs.length - e0.firm) := ⟨_, rfl⟩
      have hkn : keepN k keep e0.a = e0.firm + m := by rw [hm]; rfl
      have hrkeep : Row S wr A (i64s keep) := HR.out.kept HC.out.size fun g hg s => HC.out.block g hg (HS.out g hg s)
      have HLO : Hid (∀ W : World, W.heap = wr.heap → Calls Try.prog 54 #[.pointer (some ⟨e0.blk, 0, none⟩)] W fun e w' => e = .returned (.int .i64 ((e0.bs.length - e0.firm : Nat) : Int)) ∧ ∃ n, w' = W.drewN n) := fun W hW => loose_any B e0.blk e0.firm e0.val e0.bs W (hF.alike hW)
      have HKE : Hid (∀ W : World, W.heap = wr.heap → Calls Try.prog 53 #[.int .i64 (k : Int), .slice A keep.length c, .int .i64 ((e0.bs.length - e0.firm : Nat) : Int)] W fun e w' => e = .returned (.int .i64 (m : Int)) ∧ W = w') := fun W hW => by
        rw [hm]
        exact kept_any S k (e0.bs.length - e0.firm) A c keep W (hrkeep.alike hW) (by omega) (by omega) hk
      have HCU : Hid (∀ W : World, W.heap = wr.heap → Calls Try.prog 52 #[.pointer (some ⟨e0.blk, 0, none⟩), .int .i64 ((e0.firm : Int) + (m : Int))] W fun e w' => e = .returned (.tuple #[]) ∧ ∃ v', Fil w' B e0.blk v' (e0.bs.take (e0.firm + m)) e0.firm ∧ v'.ownBlock = e0.val.ownBlock ∧ Only e0.blk W w') := fun W hW => by
        have := cut_any B e0.blk e0.firm (e0.firm + m) e0.val e0.bs W (hF.alike hW) (by omega)
        rw [Int.natCast_add, Nat.min_eq_left (by omega)] at this
        exact this
      have HFIN : Hid (∀ (W w4 w5 : World) (v4 : Value), W.heap = wr.heap → W.os = wr.os → W.tape = wr.tape → W.output = wr.output → Fil w4 B e0.blk v4 (e0.bs.take (e0.firm + m)) e0.firm → v4.ownBlock = e0.val.ownBlock → Only e0.blk W w4 → Fil w5 B e0.blk v4 (e0.bs.take (e0.firm + m)) (e0.bs.take (e0.firm + m)).length → Only e0.blk w4 w5 →
          ∃ E'', Dsk w5 B b mb n D p room E'' ∧ DskC w w5 b mb E E'' ∧ DskC w1 w5 b mb E E'' ∧ abs E'' = crT (abs E) (srt E) keep (k + 1)) := fun W w4 w5 v4 a1 a2 a3 a4 hf4 hv4 ho4 hf5 ho5 => by
        have hall : Only e0.blk wr w5 := ((Only.of_below (alike_below a1 a2 a3 a4)).trans ho4).trans ho5
        have hadd : AddC e0.blk wr w5 e0.val v4 := hall.add hv4
        refine ⟨setE E' e0.name v4 (e0.bs.take (e0.firm + m)) (e0.bs.take (e0.firm + m)).length, ?_, HC.out.trans (.of_add he0 hadd), HCO.out.trans (.of_add he0 hadd), ?_⟩
        · exact HI.out.one he0 hf5 hadd (Nat.le_trans (setE_sum_le fun e he hn => by rw [once_eq HI.out.once he he0 hn, List.length_take]; omega) HI.out.fits)
        · rw [abs_setE, HSUC.out, ← hkn]
          exact cr1_eq HI.out.once he0 k keep
      have HSE : Hid (∀ (w4 : World) (v4 : Value), Fil w4 B e0.blk v4 (e0.bs.take (e0.firm + m)) e0.firm → Calls Try.prog 45 #[.pointer (some ⟨e0.blk, 0, none⟩)] w4 fun e w' => e = .returned (.tuple #[]) ∧ Fil w' B e0.blk v4 (e0.bs.take (e0.firm + m)) (e0.bs.take (e0.firm + m)).length ∧ Only e0.blk w4 w') := fun w4 v4 hf => settle_any B e0.blk _ v4 _ w4 hf
      have iadd : IntKind.i64.wrap ((e0.firm : Int) + (m : Int)) = (e0.firm : Int) + (m : Int) := by rw [IntKind.wrap_i64]; omega
      clear hl0 hF hfl hsum hfits hmost hkl2 hm hkn hrkeep hnk hlen he0
      generalize e0.blk = f at *
      generalize e0.firm = fm at *
      generalize hbl : (((e0.bs.length - fm : Nat)) : Int) = ls at *
      clear hbl
      go_wp2_with fail
      go_region_held3 (fun w' => w'.cell? ⟨f, 1, none⟩ = some (.int .i64 (fm : Int))) (first | exact hcell | exact hS6)
        (first
          | (go_at_call 54; refine Calls.mono (HLO.out _ (by rfl)) ?_; rintro e w3 ⟨rfl, nd, rfl⟩; have hS6 := hcell)
          | (go_at_call 53; refine Calls.mono (HKE.out _ (by rfl)) ?_; rintro e w3 ⟨rfl, rfl⟩)
          | (go_at_call 52; refine Calls.mono (HCU.out _ (by rfl)) ?_; rintro e w4 ⟨rfl, v4, hf4, hv4, ho4⟩; have hS6 := two_cell1 hf4.blk; have HF4 := Lib.hid hf4; have HV4 := Lib.hid hv4; have HO4 := Lib.hid ho4)
          | fail)
      have HS4 := Lib.hid (HSE.out w4 v4 HF4.out)
      clear hf4 hv4 ho4 hS6
      go_wp2_with fail
      refine (HS4.out).mono ?_
      rintro e w5 ⟨rfl, hf5, ho5⟩
      have HF5 := Lib.hid (HFIN.out (wr.drewN (1 + nd)) w4 w5 v4 rfl rfl rfl rfl HF4.out HV4.out HO4.out hf5 ho5)
      clear hf5 ho5
      go_wp2_with fail
      go_roundw
      case rel => exact ⟨k + 1, hlt, rfl, HF5.out⟩
      case measure =>
        simp [intOf]
        omega
    · have i1 : ¬ (k : Int) < (E.length : Int) := by omega
      obtain rfl : k = E.length := by omega
      have HRE := Lib.hid (restore_any b room mb p wr HI.out.blk)
      go_wp2_with fail
      refine (HRE.out).mono ?_
      rintro e w6 ⟨rfl, hb6, ho6⟩
      have HL : Hid (Crashed w w6 B b mb n D Pw.fresh room E keep E.length) := ⟨E', HI.out.power hb6 (by unfold Pw.ok Pw.fresh; intro h; cases h) ho6, HC.out.trans (.of_only ho6), HA.out⟩
      clear hb6 ho6
      go_wp2_with fail
      go_end0
      exact ⟨rfl, HL.out⟩
end

end Go.Proofs.Ytchedflfinkppaa
