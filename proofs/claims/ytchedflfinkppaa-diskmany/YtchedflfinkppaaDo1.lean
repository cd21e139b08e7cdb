/-
  The contract of the law's do: a call of a script on both disks, each kind by itself.
-/
import Derived.Test.YtchedflfinkppaaDoS
import Derived.Deep.RegionHeld3
namespace Go.Proofs.Ytchedflfinkppaa
open Go.RowKit Go.Maps Go.Sort Go.Shelf

/-- neither down nor armed -/
def Calm (p : Pw) : Prop := p.armed = false ∧ p.down = false
theorem Calm.spent {p : Pw} (h : Calm p) : Calm p.spent := by
  obtain ⟨d, a, l⟩ := p
  obtain ⟨rfl, rfl⟩ := h
  exact ⟨rfl, rfl⟩
def DoGave (w0 : World) (b mb x room : Nat) (p : Pw) (o : Opn) (e : Ending) (w' : World) : Prop :=
  ∃ E' v' L' p' pr', e = .returned (.bool true) ∧ Duo w0 w' (fun _ => False) b mb x p' pr' room E' v' L' ∧ Tied (abs E') L' ∧ PwEq p' pr' ∧ (Calm p → o.d % 11 ≠ 9 → Calm p')
theorem DoS.gave {w0 w : World} {P : Nat → Prop} {b mb x q room : Nat} {p pr : Pw} {E : List Ent} {v : Value} {L : List RF} {o : Opn} {A1 A2 A3 : Option Addr} {c1 c2 c3 : Nat} (h : DoS w0 w P b mb x p pr room E v L q o A1 c1 A2 c2 A3 c3) {p0 : Pw} {o0 : Opn} (ht : Tied (abs E) L) (hp : PwEq p pr) (hc : Calm p0 → o0.d % 11 ≠ 9 → Calm p) : DoGave w0 b mb x room p0 o0 (.returned (.bool true)) w :=
  ⟨E, v, L, p, pr, rfl, h.duo.less (fun _ hg => hg.elim), ht, hp, hc⟩
theorem PwEq.ok {p pr : Pw} (h : PwEq p pr) (hp : p.ok) : pr.ok := fun ha => by
  have := hp (by rw [h.2.1]; exact ha)
  rw [h.2.2 (by rw [h.2.1]; exact ha)] at this
  exact this
/-- behind few and the stores: the call of its own beside both disks -/
theorem DoS.mk' {w0 w wa w3 w4 : World} {b mb x q room : Nat} {p pr : Pw} {E : List Ent} {v : Value} {L : List RF} {o : Opn} {x0 x1 x2 x3 x4 x5 x6 : Value} {A1 A2 A3 : Option Addr} {c1 c2 c3 : Nat} (h : Duo w0 w (fun _ => False) b mb x p pr room E v L) (hba : Below w.heap.size w wa) (hq : q = w.heap.size) (hqa : q < wa.heap.size) (hb3 : Below wa.heap.size wa w3)
    (hT3 : w3.heap[q]? = some (.cells [x0, x1, x2, x3, x4, x5, x6].toArray 34 (0, 0))) (hat : OpAt (fun g => wa.heap.size ≤ g) w3 o A1 c1 A2 c2 A3 c3) (hfr : FreeT (fun g => wa.heap.size ≤ g) w3 A2 o.ps.length)
    (h4 : w4 = ((((((w3.setCell ⟨q, 0, none⟩ (.int .u8 o.d)).setCell ⟨q, 1, none⟩ (.string o.nm)).setCell ⟨q, 2, none⟩ (.string o.to)).setCell ⟨q, 3, none⟩ (.slice A1 o.ns.length c1)).setCell ⟨q, 4, none⟩ (.slice A2 o.ps.length c2)).setCell ⟨q, 5, none⟩ (.int .i64 o.n)).setCell ⟨q, 6, none⟩ (.slice A3 o.ks.length c3)) :
    DoS w0 w4 (fun g => w.heap.size ≤ g ∧ g < w3.heap.size) b mb x p pr room E v L q o A1 c1 A2 c2 A3 c3 := by
  obtain ⟨k1, k2⟩ := sev_set (v0 := .int .u8 o.d) (v1 := .string o.nm) (v2 := .string o.to) (v3 := .slice A1 o.ns.length c1) (v4 := .slice A2 o.ps.length c2) (v5 := .int .i64 o.n) (v6 := .slice A3 o.ks.length c3) hT3
  rw [← h4] at k1 k2
  have hsa := hba.size
  have hs3 := hb3.size
  have hall : Below w.heap.size w w3 := hba.trans (hb3.mono hsa)
  have d3 : Duo w0 w3 (fun g => w.heap.size ≤ g ∧ g < w3.heap.size) b mb x p pr room E v L := (h.more hall).less fun g hg => .inr hg
  have d4 : Duo w0 w4 (fun g => w.heap.size ≤ g ∧ g < w3.heap.size) b mb x p pr room E v L := d3.law k1.os k1.tape k1.output k1.size fun g hg hp => k1.block g hg fun e => hp (by omega)
  have hS : ∀ g, g < w3.heap.size → wa.heap.size ≤ g → (w.heap.size ≤ g ∧ g < w3.heap.size) ∧ g ≠ q := fun g hg hw => ⟨⟨by omega, hg⟩, by omega⟩
  have kk : ∀ g, g < w3.heap.size → ((w.heap.size ≤ g ∧ g < w3.heap.size) ∧ g ≠ q) → w4.heap[g]? = w3.heap[g]? := fun g hg s => k1.block g hg s.2
  have hat' := hat.mono hS
  have hfr' : FreeT (fun g => (w.heap.size ≤ g ∧ g < w3.heap.size) ∧ g ≠ q) w3 A2 o.ps.length := fun j hj ad X m c ea hc => (hfr j hj ad X m c ea hc).mono fun g hg s => hS g hg s
  exact ⟨d4, k2, ⟨hat'.k1, hat'.k2, hat'.k3, hat'.ns.kept k1.size kk, hat'.ps.kept k1.size kk, hat'.ks.kept k1.size kk⟩, FreeT.kept hat'.ps hfr' k1.size (fun g hg s => ⟨kk g hg s, s⟩), by omega, by have := lt_of_block hT3; exact this⟩

section
variable (w0 w : World) (b mb x : Nat) (p pr : Pw) (room : Nat) (E : List Ent) (v : Value) (L : List RF) (S : Nat → Prop) (o : Opn) (A1 : Option Addr) (c1 : Nat) (A2 : Option Addr) (c2 : Nat) (A3 : Option Addr) (c3 : Nat)

set_option maxRecDepth 100000 in
set_option maxHeartbeats 2000000 in
theorem do_firm4 (h : Duo w0 w (fun _ => False) b mb x p pr room E v L) (ht : Tied (abs E) L) (hp : PwEq p pr) (hat : OpAt S w o A1 c1 A2 c2 A3 c3) (hok : OpOk o) (hk : o.d % 11 = 4) :
    Calls Try.prog 13 #[.pointer (some ⟨b, 0, none⟩), .pointer (some ⟨x, 0, none⟩), .agg (opV o A1 c1 A2 c2 A3 c3).toArray] w fun e w' => DoGave w0 b mb x room p o e w' := by
  have hfit := h.lv.fits
  have hL16 : L.length ≤ 16 := by rw [← ht.len]; exact hfit.2.2
  have hL1 : L.length ≤ 1000 := by omega
  have hLz : sumR L ≤ 1048576 := by rw [← ht.sum]; omega
  have hpo : pr.ok := by
    obtain ⟨D, hD⟩ := h.lv.dsk
    exact hp.ok hD.ok
  have HDU := Lib.hid h
  have HT := Lib.hid ht
  have HP := Lib.hid hp
  have HAT := Lib.hid hat
  have HOK := Lib.hid hok
  have HL1 := Lib.hid hL1
  have HLZ := Lib.hid hLz
  have HPO := Lib.hid hpo
  unfold opV
  have HKK := Lib.hid hk
  clear h ht hp hat hok hfit hL16 hL1 hLz hpo
  go_enter Try.func13, Try.ntmps13
  go_wp2_with fail
  obtain ⟨wa, hwa⟩ : ∃ y, y = w.alloc (.cells #[.int .u8 o.d, .string o.nm, .string o.to, .slice A1 o.ns.length c1, .slice A2 o.ps.length c2, .int .i64 o.n, .slice A3 o.ks.length c3] 34) := ⟨_, rfl⟩
  rw [← hwa]
  have hTa : wa.heap[w.heap.size]? = some (.cells [.int .u8 o.d, .string o.nm, .string o.to, .slice A1 o.ns.length c1, .slice A2 o.ps.length c2, .int .i64 o.n, .slice A3 o.ks.length c3].toArray 34 (0, 0)) := by rw [hwa]; exact new_at rfl
  have hba : Below w.heap.size w wa := by rw [hwa]; exact (Below.refl _ _).alloc (Nat.le_refl _) _
  have hsa : wa.heap.size = w.heap.size + 1 := by rw [hwa]; simp
  obtain ⟨q, hq⟩ : ∃ q, q = w.heap.size := ⟨_, rfl⟩
  rw [← hq] at hTa hsa ⊢
  have HFW := Lib.hid (few_any _ o A1 A2 A3 c1 c2 c3 wa (HAT.out.below hba) HOK.out)
  have HTa := Lib.hid hTa
  have HBa := Lib.hid hba
  have HQ := Lib.hid hq
  clear hwa hTa hba hq
  refine (HFW.out).mono ?_
  rintro e w3 ⟨B1, e1', B2, e2', B3, e3', rfl, hat3, hfr3, hb3⟩
  have hfew := OpFew.of HOK.out
  have hdd : (fewO o).d = o.d := rfl
  obtain ⟨o', ho'⟩ : ∃ x, x = fewO o := ⟨_, rfl⟩
  rw [← ho'] at hat3 hfr3 hfew hdd ⊢
  have hT3 : w3.heap[q]? = _ := (hb3.block q (by omega)).trans HTa.out
  have y0 := sv_cell hT3 0
  have y1 := sv_cell hT3 1
  have y2 := sv_cell hT3 2
  have y3 := sv_cell hT3 3
  have y4 := sv_cell hT3 4
  have y5 := sv_cell hT3 5
  have y6 := sv_cell hT3 6
  simp only [List.getElem?_cons_zero, List.getElem?_cons_succ] at y0 y1 y2 y3 y4 y5 y6
  have p0 := sv_free (k := 0) hT3
  have p1 := sv_free (k := 1) hT3
  have p2 := sv_free (k := 2) hT3
  have p3 := sv_free (k := 3) hT3
  have p4 := sv_free (k := 4) hT3
  have p5 := sv_free (k := 5) hT3
  have p6 := sv_free (k := 6) hT3
  have HT3 := Lib.hid hT3
  have HAT3 := Lib.hid hat3
  have HFR3 := Lib.hid hfr3
  have HB3 := Lib.hid hb3
  have HFEW := Lib.hid hfew
  have d1 : o'.d.tmod 11 = 4 := by rw [hdd, Int.tmod_eq_emod_of_nonneg HOK.out.d.1]; omega
  have d2 : o'.d % 11 = 4 := by rw [hdd]; omega
  unfold opV
  clear hT3 hat3 hfr3 hb3 hfew ho' hdd
  go_upto_region 2 with fail
  obtain ⟨w4, hw4⟩ : ∃ x, x = ((((((w3.setCell ⟨q, 0, none⟩ (.int .u8 o'.d)).setCell ⟨q, 1, none⟩ (.string o'.nm)).setCell ⟨q, 2, none⟩ (.string o'.to)).setCell ⟨q, 3, none⟩ (.slice B1 o'.ns.length e1')).setCell ⟨q, 4, none⟩ (.slice B2 o'.ps.length e2')).setCell ⟨q, 5, none⟩ (.int .i64 o'.n)).setCell ⟨q, 6, none⟩ (.slice B3 o'.ks.length e3') := ⟨_, rfl⟩
  rw [← hw4]
  have hS4 := DoS.mk' HDU.out HBa.out HQ.out (by omega) HB3.out HT3.out HAT3.out HFR3.out hw4
  obtain ⟨P, hP⟩ : ∃ P : Nat → Prop, P = fun g => w.heap.size ≤ g ∧ g < w3.heap.size := ⟨_, rfl⟩
  rw [← hP] at hS4
  have HS4 := Lib.hid hS4
  obtain ⟨z0, z1, z2, z3, z4, z5, z6⟩ := hS4.cells
  clear hw4 hP hS4 y0 y1 y2 y3 y4 y5 y6 p0 p1 p2 p3 p4 p5 p6 HT3 HAT3 HFR3 HB3 HTa HFW HBa HQ HDU HAT HOK hsa
  have hti := HT.out.firm HP.out o'.ns
  obtain ⟨er, her⟩ : ∃ y, y = (firmAll p (abs E) o'.ns).1 := ⟨_, rfl⟩
  have HTI := Lib.hid hti.2
  have HD : Hid (∀ W pr' v' L', DoS w0 W P b mb x p pr' room E v' L' q o' B1 e1' B2 e2' B3 e3' → Calls Try.prog 16 #[.pointer (some ⟨b, 0, none⟩), .slice B1 o'.ns.length e1'] W fun e w' => e = .returned (.int .i64 er) ∧ ∃ E2, abs E2 = (firmAll p (abs E) o'.ns).2 ∧ DoS w0 w' P b mb x p.spent pr' room E2 v' L' q o' B1 e1' B2 e2' B3 e3') := fun W pr' v' L' hs => by
    rw [her]
    exact firmD hs HFEW.out
  have HR : Hid (∀ W p' E', DoS w0 W P b mb x p' pr room E' v L q o' B1 e1' B2 e2' B3 e3' → Calls Try.prog 33 #[.pointer (some ⟨x, 0, none⟩), .slice B1 o'.ns.length e1'] W fun e w' => e = .returned (.int .i64 er) ∧ ∃ v2, DoS w0 w' P b mb x p' pr.spent room E' v2 (if rfirmE pr L o'.ns = 0 then rfirmL L o'.ns else L) q o' B1 e1' B2 e2' B3 e3') := fun W p' E' hs => by
    rw [her, hti.1]
    exact firmR HL1.out HLZ.out HPO.out hs HFEW.out
  have HFIN : Hid (∀ W E7 v7, abs E7 = (firmAll p (abs E) o'.ns).2 → DoS w0 W P b mb x p.spent pr.spent room E7 v7 (if rfirmE pr L o'.ns = 0 then rfirmL L o'.ns else L) q o' B1 e1' B2 e2' B3 e3' → DoGave w0 b mb x room p o (.returned (.bool true)) W) := fun W E7 v7 ha hs => hs.gave (by rw [ha]; exact HTI.out) HP.out.spent (fun hc _ => hc.spent)
  have hs0 := HS4.out.below ((Below.refl _ w4).drew)
  have hc0 := hs0.cells
  have hs0' := HS4.out
  clear hti her
  generalize (firmAll p (abs E) o'.ns).2 = da at *
  generalize (if rfirmE pr L o'.ns = 0 then rfirmL L o'.ns else L) = lr at *
  go_wp2_with fail
  go_region_held3 (fun w' => w'.cell? ⟨q, 0, none⟩ = some (.int .u8 o'.d) ∧ w'.cell? ⟨q, 1, none⟩ = some (.string o'.nm) ∧ w'.cell? ⟨q, 2, none⟩ = some (.string o'.to) ∧ w'.cell? ⟨q, 3, none⟩ = some (.slice B1 o'.ns.length e1') ∧ w'.cell? ⟨q, 4, none⟩ = some (.slice B2 o'.ps.length e2') ∧ w'.cell? ⟨q, 5, none⟩ = some (.int .i64 o'.n) ∧ w'.cell? ⟨q, 6, none⟩ = some (.slice B3 o'.ks.length e3')) (first | exact hc0 | exact hc5 | exact hc6 | exact hc7 | fail)
    (first
      | (go_at_call 16; refine (HD.out _ _ _ _ hs0).mono ?_; rintro e w5 ⟨rfl, E5, hA5, hs5⟩; have hc5 := hs5.cells)
      | (go_at_call 16; refine (HD.out _ _ _ _ hs6).mono ?_; rintro e w7 ⟨rfl, E5, hA5, hs7⟩; have hc7 := hs7.cells)
      | (go_at_call 33; refine (HR.out _ _ _ hs0).mono ?_; rintro e w6 ⟨rfl, v6, hs6⟩; have hc6 := hs6.cells)
      | (go_at_call 33; refine (HR.out _ _ _ hs5).mono ?_; rintro e w7 ⟨rfl, v7, hs7⟩; have hc7 := hs7.cells)
      | fail)
  all_goals
    have HG := Lib.hid (HFIN.out _ _ _ hA5 hs7)
    clear hA5 hs7 hc7
    go_wp2_with fail
    go_ret
    exact HG.out

set_option maxRecDepth 100000 in
set_option maxHeartbeats 2000000 in
theorem do_firm5 (h : Duo w0 w (fun _ => False) b mb x p pr room E v L) (ht : Tied (abs E) L) (hp : PwEq p pr) (hat : OpAt S w o A1 c1 A2 c2 A3 c3) (hok : OpOk o) (hk : o.d % 11 = 5) :
    Calls Try.prog 13 #[.pointer (some ⟨b, 0, none⟩), .pointer (some ⟨x, 0, none⟩), .agg (opV o A1 c1 A2 c2 A3 c3).toArray] w fun e w' => DoGave w0 b mb x room p o e w' := by
  have hfit := h.lv.fits
  have hL16 : L.length ≤ 16 := by rw [← ht.len]; exact hfit.2.2
  have hL1 : L.length ≤ 1000 := by omega
  have hLz : sumR L ≤ 1048576 := by rw [← ht.sum]; omega
  have hpo : pr.ok := by
    obtain ⟨D, hD⟩ := h.lv.dsk
    exact hp.ok hD.ok
  have HDU := Lib.hid h
  have HT := Lib.hid ht
  have HP := Lib.hid hp
  have HAT := Lib.hid hat
  have HOK := Lib.hid hok
  have HL1 := Lib.hid hL1
  have HLZ := Lib.hid hLz
  have HPO := Lib.hid hpo
  unfold opV
  have HKK := Lib.hid hk
  clear h ht hp hat hok hfit hL16 hL1 hLz hpo
  go_enter Try.func13, Try.ntmps13
  go_wp2_with fail
  obtain ⟨wa, hwa⟩ : ∃ y, y = w.alloc (.cells #[.int .u8 o.d, .string o.nm, .string o.to, .slice A1 o.ns.length c1, .slice A2 o.ps.length c2, .int .i64 o.n, .slice A3 o.ks.length c3] 34) := ⟨_, rfl⟩
  rw [← hwa]
  have hTa : wa.heap[w.heap.size]? = some (.cells [.int .u8 o.d, .string o.nm, .string o.to, .slice A1 o.ns.length c1, .slice A2 o.ps.length c2, .int .i64 o.n, .slice A3 o.ks.length c3].toArray 34 (0, 0)) := by rw [hwa]; exact new_at rfl
  have hba : Below w.heap.size w wa := by rw [hwa]; exact (Below.refl _ _).alloc (Nat.le_refl _) _
  have hsa : wa.heap.size = w.heap.size + 1 := by rw [hwa]; simp
  obtain ⟨q, hq⟩ : ∃ q, q = w.heap.size := ⟨_, rfl⟩
  rw [← hq] at hTa hsa ⊢
  have HFW := Lib.hid (few_any _ o A1 A2 A3 c1 c2 c3 wa (HAT.out.below hba) HOK.out)
  have HTa := Lib.hid hTa
  have HBa := Lib.hid hba
  have HQ := Lib.hid hq
  clear hwa hTa hba hq
  refine (HFW.out).mono ?_
  rintro e w3 ⟨B1, e1', B2, e2', B3, e3', rfl, hat3, hfr3, hb3⟩
  have hfew := OpFew.of HOK.out
  have hdd : (fewO o).d = o.d := rfl
  obtain ⟨o', ho'⟩ : ∃ x, x = fewO o := ⟨_, rfl⟩
  rw [← ho'] at hat3 hfr3 hfew hdd ⊢
  have hT3 : w3.heap[q]? = _ := (hb3.block q (by omega)).trans HTa.out
  have y0 := sv_cell hT3 0
  have y1 := sv_cell hT3 1
  have y2 := sv_cell hT3 2
  have y3 := sv_cell hT3 3
  have y4 := sv_cell hT3 4
  have y5 := sv_cell hT3 5
  have y6 := sv_cell hT3 6
  simp only [List.getElem?_cons_zero, List.getElem?_cons_succ] at y0 y1 y2 y3 y4 y5 y6
  have p0 := sv_free (k := 0) hT3
  have p1 := sv_free (k := 1) hT3
  have p2 := sv_free (k := 2) hT3
  have p3 := sv_free (k := 3) hT3
  have p4 := sv_free (k := 4) hT3
  have p5 := sv_free (k := 5) hT3
  have p6 := sv_free (k := 6) hT3
  have HT3 := Lib.hid hT3
  have HAT3 := Lib.hid hat3
  have HFR3 := Lib.hid hfr3
  have HB3 := Lib.hid hb3
  have HFEW := Lib.hid hfew
  have d1 : o'.d.tmod 11 = 5 := by rw [hdd, Int.tmod_eq_emod_of_nonneg HOK.out.d.1]; omega
  have d2 : o'.d % 11 = 5 := by rw [hdd]; omega
  unfold opV
  clear hT3 hat3 hfr3 hb3 hfew ho' hdd
  go_upto_region 2 with fail
  obtain ⟨w4, hw4⟩ : ∃ x, x = ((((((w3.setCell ⟨q, 0, none⟩ (.int .u8 o'.d)).setCell ⟨q, 1, none⟩ (.string o'.nm)).setCell ⟨q, 2, none⟩ (.string o'.to)).setCell ⟨q, 3, none⟩ (.slice B1 o'.ns.length e1')).setCell ⟨q, 4, none⟩ (.slice B2 o'.ps.length e2')).setCell ⟨q, 5, none⟩ (.int .i64 o'.n)).setCell ⟨q, 6, none⟩ (.slice B3 o'.ks.length e3') := ⟨_, rfl⟩
  rw [← hw4]
  have hS4 := DoS.mk' HDU.out HBa.out HQ.out (by omega) HB3.out HT3.out HAT3.out HFR3.out hw4
  obtain ⟨P, hP⟩ : ∃ P : Nat → Prop, P = fun g => w.heap.size ≤ g ∧ g < w3.heap.size := ⟨_, rfl⟩
  rw [← hP] at hS4
  have HS4 := Lib.hid hS4
  obtain ⟨z0, z1, z2, z3, z4, z5, z6⟩ := hS4.cells
  clear hw4 hP hS4 y0 y1 y2 y3 y4 y5 y6 p0 p1 p2 p3 p4 p5 p6 HT3 HAT3 HFR3 HB3 HTa HFW HBa HQ HDU HAT HOK hsa
  have hti := HT.out.firm HP.out o'.ns
  obtain ⟨er, her⟩ : ∃ y, y = (firmAll p (abs E) o'.ns).1 := ⟨_, rfl⟩
  have HTI := Lib.hid hti.2
  have HD : Hid (∀ W pr' v' L', DoS w0 W P b mb x p pr' room E v' L' q o' B1 e1' B2 e2' B3 e3' → Calls Try.prog 16 #[.pointer (some ⟨b, 0, none⟩), .slice B1 o'.ns.length e1'] W fun e w' => e = .returned (.int .i64 er) ∧ ∃ E2, abs E2 = (firmAll p (abs E) o'.ns).2 ∧ DoS w0 w' P b mb x p.spent pr' room E2 v' L' q o' B1 e1' B2 e2' B3 e3') := fun W pr' v' L' hs => by
    rw [her]
    exact firmD hs HFEW.out
  have HR : Hid (∀ W p' E', DoS w0 W P b mb x p' pr room E' v L q o' B1 e1' B2 e2' B3 e3' → Calls Try.prog 33 #[.pointer (some ⟨x, 0, none⟩), .slice B1 o'.ns.length e1'] W fun e w' => e = .returned (.int .i64 er) ∧ ∃ v2, DoS w0 w' P b mb x p' pr.spent room E' v2 (if rfirmE pr L o'.ns = 0 then rfirmL L o'.ns else L) q o' B1 e1' B2 e2' B3 e3') := fun W p' E' hs => by
    rw [her, hti.1]
    exact firmR HL1.out HLZ.out HPO.out hs HFEW.out
  have HFIN : Hid (∀ W E7 v7, abs E7 = (firmAll p (abs E) o'.ns).2 → DoS w0 W P b mb x p.spent pr.spent room E7 v7 (if rfirmE pr L o'.ns = 0 then rfirmL L o'.ns else L) q o' B1 e1' B2 e2' B3 e3' → DoGave w0 b mb x room p o (.returned (.bool true)) W) := fun W E7 v7 ha hs => hs.gave (by rw [ha]; exact HTI.out) HP.out.spent (fun hc _ => hc.spent)
  have hs0 := HS4.out.below ((Below.refl _ w4).drew)
  have hc0 := hs0.cells
  have hs0' := HS4.out
  clear hti her
  generalize (firmAll p (abs E) o'.ns).2 = da at *
  generalize (if rfirmE pr L o'.ns = 0 then rfirmL L o'.ns else L) = lr at *
  go_wp2_with fail
  go_region_held3 (fun w' => w'.cell? ⟨q, 0, none⟩ = some (.int .u8 o'.d) ∧ w'.cell? ⟨q, 1, none⟩ = some (.string o'.nm) ∧ w'.cell? ⟨q, 2, none⟩ = some (.string o'.to) ∧ w'.cell? ⟨q, 3, none⟩ = some (.slice B1 o'.ns.length e1') ∧ w'.cell? ⟨q, 4, none⟩ = some (.slice B2 o'.ps.length e2') ∧ w'.cell? ⟨q, 5, none⟩ = some (.int .i64 o'.n) ∧ w'.cell? ⟨q, 6, none⟩ = some (.slice B3 o'.ks.length e3')) (first | exact hc0 | exact hc5 | exact hc6 | exact hc7 | fail)
    (first
      | (go_at_call 16; refine (HD.out _ _ _ _ hs0).mono ?_; rintro e w5 ⟨rfl, E5, hA5, hs5⟩; have hc5 := hs5.cells)
      | (go_at_call 16; refine (HD.out _ _ _ _ hs6).mono ?_; rintro e w7 ⟨rfl, E5, hA5, hs7⟩; have hc7 := hs7.cells)
      | (go_at_call 33; refine (HR.out _ _ _ hs0).mono ?_; rintro e w6 ⟨rfl, v6, hs6⟩; have hc6 := hs6.cells)
      | (go_at_call 33; refine (HR.out _ _ _ hs5).mono ?_; rintro e w7 ⟨rfl, v7, hs7⟩; have hc7 := hs7.cells)
      | fail)
  all_goals
    have HG := Lib.hid (HFIN.out _ _ _ hA5 hs7)
    clear hA5 hs7 hc7
    go_wp2_with fail
    go_ret
    exact HG.out

set_option maxRecDepth 100000 in
set_option maxHeartbeats 2000000 in
theorem do_swap (h : Duo w0 w (fun _ => False) b mb x p pr room E v L) (ht : Tied (abs E) L) (hp : PwEq p pr) (hat : OpAt S w o A1 c1 A2 c2 A3 c3) (hok : OpOk o) (hk : o.d % 11 = 6) :
    Calls Try.prog 13 #[.pointer (some ⟨b, 0, none⟩), .pointer (some ⟨x, 0, none⟩), .agg (opV o A1 c1 A2 c2 A3 c3).toArray] w fun e w' => DoGave w0 b mb x room p o e w' := by
  have hfit := h.lv.fits
  have hL16 : L.length ≤ 16 := by rw [← ht.len]; exact hfit.2.2
  have hL1 : L.length ≤ 1000 := by omega
  have hLz : sumR L ≤ 1048576 := by rw [← ht.sum]; omega
  have hpo : pr.ok := by
    obtain ⟨D, hD⟩ := h.lv.dsk
    exact hp.ok hD.ok
  have HDU := Lib.hid h
  have HT := Lib.hid ht
  have HP := Lib.hid hp
  have HAT := Lib.hid hat
  have HOK := Lib.hid hok
  have HL1 := Lib.hid hL1
  have HLZ := Lib.hid hLz
  have HPO := Lib.hid hpo
  unfold opV
  have HKK := Lib.hid hk
  clear h ht hp hat hok hfit hL16 hL1 hLz hpo
  go_enter Try.func13, Try.ntmps13
  go_wp2_with fail
  obtain ⟨wa, hwa⟩ : ∃ y, y = w.alloc (.cells #[.int .u8 o.d, .string o.nm, .string o.to, .slice A1 o.ns.length c1, .slice A2 o.ps.length c2, .int .i64 o.n, .slice A3 o.ks.length c3] 34) := ⟨_, rfl⟩
  rw [← hwa]
  have hTa : wa.heap[w.heap.size]? = some (.cells [.int .u8 o.d, .string o.nm, .string o.to, .slice A1 o.ns.length c1, .slice A2 o.ps.length c2, .int .i64 o.n, .slice A3 o.ks.length c3].toArray 34 (0, 0)) := by rw [hwa]; exact new_at rfl
  have hba : Below w.heap.size w wa := by rw [hwa]; exact (Below.refl _ _).alloc (Nat.le_refl _) _
  have hsa : wa.heap.size = w.heap.size + 1 := by rw [hwa]; simp
  obtain ⟨q, hq⟩ : ∃ q, q = w.heap.size := ⟨_, rfl⟩
  rw [← hq] at hTa hsa ⊢
  have HFW := Lib.hid (few_any _ o A1 A2 A3 c1 c2 c3 wa (HAT.out.below hba) HOK.out)
  have HTa := Lib.hid hTa
  have HBa := Lib.hid hba
  have HQ := Lib.hid hq
  clear hwa hTa hba hq
  refine (HFW.out).mono ?_
  rintro e w3 ⟨B1, e1', B2, e2', B3, e3', rfl, hat3, hfr3, hb3⟩
  have hfew := OpFew.of HOK.out
  have hdd : (fewO o).d = o.d := rfl
  obtain ⟨o', ho'⟩ : ∃ x, x = fewO o := ⟨_, rfl⟩
  rw [← ho'] at hat3 hfr3 hfew hdd ⊢
  have hT3 : w3.heap[q]? = _ := (hb3.block q (by omega)).trans HTa.out
  have y0 := sv_cell hT3 0
  have y1 := sv_cell hT3 1
  have y2 := sv_cell hT3 2
  have y3 := sv_cell hT3 3
  have y4 := sv_cell hT3 4
  have y5 := sv_cell hT3 5
  have y6 := sv_cell hT3 6
  simp only [List.getElem?_cons_zero, List.getElem?_cons_succ] at y0 y1 y2 y3 y4 y5 y6
  have p0 := sv_free (k := 0) hT3
  have p1 := sv_free (k := 1) hT3
  have p2 := sv_free (k := 2) hT3
  have p3 := sv_free (k := 3) hT3
  have p4 := sv_free (k := 4) hT3
  have p5 := sv_free (k := 5) hT3
  have p6 := sv_free (k := 6) hT3
  have HT3 := Lib.hid hT3
  have HAT3 := Lib.hid hat3
  have HFR3 := Lib.hid hfr3
  have HB3 := Lib.hid hb3
  have HFEW := Lib.hid hfew
  have d1 : o'.d.tmod 11 = 6 := by rw [hdd, Int.tmod_eq_emod_of_nonneg HOK.out.d.1]; omega
  have d2 : o'.d % 11 = 6 := by rw [hdd]; omega
  unfold opV
  clear hT3 hat3 hfr3 hb3 hfew ho' hdd
  go_upto_region 2 with fail
  obtain ⟨w4, hw4⟩ : ∃ x, x = ((((((w3.setCell ⟨q, 0, none⟩ (.int .u8 o'.d)).setCell ⟨q, 1, none⟩ (.string o'.nm)).setCell ⟨q, 2, none⟩ (.string o'.to)).setCell ⟨q, 3, none⟩ (.slice B1 o'.ns.length e1')).setCell ⟨q, 4, none⟩ (.slice B2 o'.ps.length e2')).setCell ⟨q, 5, none⟩ (.int .i64 o'.n)).setCell ⟨q, 6, none⟩ (.slice B3 o'.ks.length e3') := ⟨_, rfl⟩
  rw [← hw4]
  have hS4 := DoS.mk' HDU.out HBa.out HQ.out (by omega) HB3.out HT3.out HAT3.out HFR3.out hw4
  obtain ⟨P, hP⟩ : ∃ P : Nat → Prop, P = fun g => w.heap.size ≤ g ∧ g < w3.heap.size := ⟨_, rfl⟩
  rw [← hP] at hS4
  have HS4 := Lib.hid hS4
  obtain ⟨z0, z1, z2, z3, z4, z5, z6⟩ := hS4.cells
  clear hw4 hP hS4 y0 y1 y2 y3 y4 y5 y6 p0 p1 p2 p3 p4 p5 p6 HT3 HAT3 HFR3 HB3 HTa HFW HBa HQ HDU HAT HOK hsa
  have hti := HT.out.swap HP.out o'.nm o'.to
  obtain ⟨er, her⟩ : ∃ y, y = (swapA p (abs E) o'.nm o'.to).1 := ⟨_, rfl⟩
  have HTI := Lib.hid hti.2
  have HD : Hid (∀ W pr' v' L', DoS w0 W P b mb x p pr' room E v' L' q o' B1 e1' B2 e2' B3 e3' → Calls Try.prog 26 #[.pointer (some ⟨b, 0, none⟩), .string o'.nm, .string o'.to] W fun e w' => e = .returned (.int .i64 er) ∧ ∃ E2, abs E2 = (swapA p (abs E) o'.nm o'.to).2 ∧ DoS w0 w' P b mb x p.spent pr' room E2 v' L' q o' B1 e1' B2 e2' B3 e3') := fun W pr' v' L' hs => by
    rw [her]
    exact swapD hs HFEW.out
  have HR : Hid (∀ W p' E', DoS w0 W P b mb x p' pr room E' v L q o' B1 e1' B2 e2' B3 e3' → Calls Try.prog 34 #[.pointer (some ⟨x, 0, none⟩), .string o'.nm, .string o'.to] W fun e w' => e = .returned (.int .i64 er) ∧ ∃ v2, DoS w0 w' P b mb x p' pr.spent room E' v2 (if rswapE pr L o'.nm o'.to = 0 then rswapL L o'.nm o'.to else L) q o' B1 e1' B2 e2' B3 e3') := fun W p' E' hs => by
    rw [her, hti.1]
    exact swapR HL1.out HPO.out hs HFEW.out
  have HFIN : Hid (∀ W E7 v7, abs E7 = (swapA p (abs E) o'.nm o'.to).2 → DoS w0 W P b mb x p.spent pr.spent room E7 v7 (if rswapE pr L o'.nm o'.to = 0 then rswapL L o'.nm o'.to else L) q o' B1 e1' B2 e2' B3 e3' → DoGave w0 b mb x room p o (.returned (.bool true)) W) := fun W E7 v7 ha hs => hs.gave (by rw [ha]; exact HTI.out) HP.out.spent (fun hc _ => hc.spent)
  have hs0 := HS4.out.below ((Below.refl _ w4).drew)
  have hc0 := hs0.cells
  have hs0' := HS4.out
  clear hti her
  generalize (swapA p (abs E) o'.nm o'.to).2 = da at *
  generalize (if rswapE pr L o'.nm o'.to = 0 then rswapL L o'.nm o'.to else L) = lr at *
  go_wp2_with fail
  go_region_held3 (fun w' => w'.cell? ⟨q, 0, none⟩ = some (.int .u8 o'.d) ∧ w'.cell? ⟨q, 1, none⟩ = some (.string o'.nm) ∧ w'.cell? ⟨q, 2, none⟩ = some (.string o'.to) ∧ w'.cell? ⟨q, 3, none⟩ = some (.slice B1 o'.ns.length e1') ∧ w'.cell? ⟨q, 4, none⟩ = some (.slice B2 o'.ps.length e2') ∧ w'.cell? ⟨q, 5, none⟩ = some (.int .i64 o'.n) ∧ w'.cell? ⟨q, 6, none⟩ = some (.slice B3 o'.ks.length e3')) (first | exact hc0 | exact hc5 | exact hc6 | exact hc7 | fail)
    (first
      | (go_at_call 26; refine (HD.out _ _ _ _ hs0).mono ?_; rintro e w5 ⟨rfl, E5, hA5, hs5⟩; have hc5 := hs5.cells)
      | (go_at_call 26; refine (HD.out _ _ _ _ hs6).mono ?_; rintro e w7 ⟨rfl, E5, hA5, hs7⟩; have hc7 := hs7.cells)
      | (go_at_call 34; refine (HR.out _ _ _ hs0).mono ?_; rintro e w6 ⟨rfl, v6, hs6⟩; have hc6 := hs6.cells)
      | (go_at_call 34; refine (HR.out _ _ _ hs5).mono ?_; rintro e w7 ⟨rfl, v7, hs7⟩; have hc7 := hs7.cells)
      | fail)
  all_goals
    have HG := Lib.hid (HFIN.out _ _ _ hA5 hs7)
    clear hA5 hs7 hc7
    go_wp2_with fail
    go_ret
    exact HG.out

set_option maxRecDepth 100000 in
set_option maxHeartbeats 2000000 in
theorem do_trim (h : Duo w0 w (fun _ => False) b mb x p pr room E v L) (ht : Tied (abs E) L) (hp : PwEq p pr) (hat : OpAt S w o A1 c1 A2 c2 A3 c3) (hok : OpOk o) (hk : o.d % 11 = 7) :
    Calls Try.prog 13 #[.pointer (some ⟨b, 0, none⟩), .pointer (some ⟨x, 0, none⟩), .agg (opV o A1 c1 A2 c2 A3 c3).toArray] w fun e w' => DoGave w0 b mb x room p o e w' := by
  have hfit := h.lv.fits
  have hL16 : L.length ≤ 16 := by rw [← ht.len]; exact hfit.2.2
  have hL1 : L.length ≤ 1000 := by omega
  have hLz : sumR L ≤ 1048576 := by rw [← ht.sum]; omega
  have hpo : pr.ok := by
    obtain ⟨D, hD⟩ := h.lv.dsk
    exact hp.ok hD.ok
  have HDU := Lib.hid h
  have HT := Lib.hid ht
  have HP := Lib.hid hp
  have HAT := Lib.hid hat
  have HOK := Lib.hid hok
  have HL1 := Lib.hid hL1
  have HLZ := Lib.hid hLz
  have HPO := Lib.hid hpo
  unfold opV
  have HKK := Lib.hid hk
  clear h ht hp hat hok hfit hL16 hL1 hLz hpo
  go_enter Try.func13, Try.ntmps13
  go_wp2_with fail
  obtain ⟨wa, hwa⟩ : ∃ y, y = w.alloc (.cells #[.int .u8 o.d, .string o.nm, .string o.to, .slice A1 o.ns.length c1, .slice A2 o.ps.length c2, .int .i64 o.n, .slice A3 o.ks.length c3] 34) := ⟨_, rfl⟩
  rw [← hwa]
  have hTa : wa.heap[w.heap.size]? = some (.cells [.int .u8 o.d, .string o.nm, .string o.to, .slice A1 o.ns.length c1, .slice A2 o.ps.length c2, .int .i64 o.n, .slice A3 o.ks.length c3].toArray 34 (0, 0)) := by rw [hwa]; exact new_at rfl
  have hba : Below w.heap.size w wa := by rw [hwa]; exact (Below.refl _ _).alloc (Nat.le_refl _) _
  have hsa : wa.heap.size = w.heap.size + 1 := by rw [hwa]; simp
  obtain ⟨q, hq⟩ : ∃ q, q = w.heap.size := ⟨_, rfl⟩
  rw [← hq] at hTa hsa ⊢
  have HFW := Lib.hid (few_any _ o A1 A2 A3 c1 c2 c3 wa (HAT.out.below hba) HOK.out)
  have HTa := Lib.hid hTa
  have HBa := Lib.hid hba
  have HQ := Lib.hid hq
  clear hwa hTa hba hq
  refine (HFW.out).mono ?_
  rintro e w3 ⟨B1, e1', B2, e2', B3, e3', rfl, hat3, hfr3, hb3⟩
  have hfew := OpFew.of HOK.out
  have hdd : (fewO o).d = o.d := rfl
  obtain ⟨o', ho'⟩ : ∃ x, x = fewO o := ⟨_, rfl⟩
  rw [← ho'] at hat3 hfr3 hfew hdd ⊢
  have hT3 : w3.heap[q]? = _ := (hb3.block q (by omega)).trans HTa.out
  have y0 := sv_cell hT3 0
  have y1 := sv_cell hT3 1
  have y2 := sv_cell hT3 2
  have y3 := sv_cell hT3 3
  have y4 := sv_cell hT3 4
  have y5 := sv_cell hT3 5
  have y6 := sv_cell hT3 6
  simp only [List.getElem?_cons_zero, List.getElem?_cons_succ] at y0 y1 y2 y3 y4 y5 y6
  have p0 := sv_free (k := 0) hT3
  have p1 := sv_free (k := 1) hT3
  have p2 := sv_free (k := 2) hT3
  have p3 := sv_free (k := 3) hT3
  have p4 := sv_free (k := 4) hT3
  have p5 := sv_free (k := 5) hT3
  have p6 := sv_free (k := 6) hT3
  have HT3 := Lib.hid hT3
  have HAT3 := Lib.hid hat3
  have HFR3 := Lib.hid hfr3
  have HB3 := Lib.hid hb3
  have HFEW := Lib.hid hfew
  have d1 : o'.d.tmod 11 = 7 := by rw [hdd, Int.tmod_eq_emod_of_nonneg HOK.out.d.1]; omega
  have d2 : o'.d % 11 = 7 := by rw [hdd]; omega
  unfold opV
  clear hT3 hat3 hfr3 hb3 hfew ho' hdd
  go_upto_region 2 with fail
  obtain ⟨w4, hw4⟩ : ∃ x, x = ((((((w3.setCell ⟨q, 0, none⟩ (.int .u8 o'.d)).setCell ⟨q, 1, none⟩ (.string o'.nm)).setCell ⟨q, 2, none⟩ (.string o'.to)).setCell ⟨q, 3, none⟩ (.slice B1 o'.ns.length e1')).setCell ⟨q, 4, none⟩ (.slice B2 o'.ps.length e2')).setCell ⟨q, 5, none⟩ (.int .i64 o'.n)).setCell ⟨q, 6, none⟩ (.slice B3 o'.ks.length e3') := ⟨_, rfl⟩
  rw [← hw4]
  have hS4 := DoS.mk' HDU.out HBa.out HQ.out (by omega) HB3.out HT3.out HAT3.out HFR3.out hw4
  obtain ⟨P, hP⟩ : ∃ P : Nat → Prop, P = fun g => w.heap.size ≤ g ∧ g < w3.heap.size := ⟨_, rfl⟩
  rw [← hP] at hS4
  have HS4 := Lib.hid hS4
  obtain ⟨z0, z1, z2, z3, z4, z5, z6⟩ := hS4.cells
  clear hw4 hP hS4 y0 y1 y2 y3 y4 y5 y6 p0 p1 p2 p3 p4 p5 p6 HT3 HAT3 HFR3 HB3 HTa HFW HBa HQ HDU HAT HOK hsa
  have hti := HT.out.trim HP.out o'.nm o'.n
  obtain ⟨er, her⟩ : ∃ y, y = (trimA p (abs E) o'.nm o'.n).1 := ⟨_, rfl⟩
  have HTI := Lib.hid hti.2
  have HD : Hid (∀ W pr' v' L', DoS w0 W P b mb x p pr' room E v' L' q o' B1 e1' B2 e2' B3 e3' → Calls Try.prog 27 #[.pointer (some ⟨b, 0, none⟩), .string o'.nm, .int .i64 o'.n] W fun e w' => e = .returned (.int .i64 er) ∧ ∃ E2, abs E2 = (trimA p (abs E) o'.nm o'.n).2 ∧ DoS w0 w' P b mb x p.spent pr' room E2 v' L' q o' B1 e1' B2 e2' B3 e3') := fun W pr' v' L' hs => by
    rw [her]
    exact trimD hs HFEW.out
  have HR : Hid (∀ W p' E', DoS w0 W P b mb x p' pr room E' v L q o' B1 e1' B2 e2' B3 e3' → Calls Try.prog 35 #[.pointer (some ⟨x, 0, none⟩), .string o'.nm, .int .i64 o'.n] W fun e w' => e = .returned (.int .i64 er) ∧ ∃ v2, DoS w0 w' P b mb x p' pr.spent room E' v2 (if rtrimE pr L o'.nm o'.n = 0 then rtrimL L o'.nm o'.n else L) q o' B1 e1' B2 e2' B3 e3') := fun W p' E' hs => by
    rw [her, hti.1]
    exact trimR HL1.out HLZ.out HPO.out hs
  have HFIN : Hid (∀ W E7 v7, abs E7 = (trimA p (abs E) o'.nm o'.n).2 → DoS w0 W P b mb x p.spent pr.spent room E7 v7 (if rtrimE pr L o'.nm o'.n = 0 then rtrimL L o'.nm o'.n else L) q o' B1 e1' B2 e2' B3 e3' → DoGave w0 b mb x room p o (.returned (.bool true)) W) := fun W E7 v7 ha hs => hs.gave (by rw [ha]; exact HTI.out) HP.out.spent (fun hc _ => hc.spent)
  have hs0 := HS4.out.below ((Below.refl _ w4).drew)
  have hc0 := hs0.cells
  have hs0' := HS4.out
  clear hti her
  generalize (trimA p (abs E) o'.nm o'.n).2 = da at *
  generalize (if rtrimE pr L o'.nm o'.n = 0 then rtrimL L o'.nm o'.n else L) = lr at *
  go_wp2_with fail
  go_region_held3 (fun w' => w'.cell? ⟨q, 0, none⟩ = some (.int .u8 o'.d) ∧ w'.cell? ⟨q, 1, none⟩ = some (.string o'.nm) ∧ w'.cell? ⟨q, 2, none⟩ = some (.string o'.to) ∧ w'.cell? ⟨q, 3, none⟩ = some (.slice B1 o'.ns.length e1') ∧ w'.cell? ⟨q, 4, none⟩ = some (.slice B2 o'.ps.length e2') ∧ w'.cell? ⟨q, 5, none⟩ = some (.int .i64 o'.n) ∧ w'.cell? ⟨q, 6, none⟩ = some (.slice B3 o'.ks.length e3')) (first | exact hc0 | exact hc5 | exact hc6 | exact hc7 | fail)
    (first
      | (go_at_call 27; refine (HD.out _ _ _ _ hs0).mono ?_; rintro e w5 ⟨rfl, E5, hA5, hs5⟩; have hc5 := hs5.cells)
      | (go_at_call 27; refine (HD.out _ _ _ _ hs6).mono ?_; rintro e w7 ⟨rfl, E5, hA5, hs7⟩; have hc7 := hs7.cells)
      | (go_at_call 35; refine (HR.out _ _ _ hs0).mono ?_; rintro e w6 ⟨rfl, v6, hs6⟩; have hc6 := hs6.cells)
      | (go_at_call 35; refine (HR.out _ _ _ hs5).mono ?_; rintro e w7 ⟨rfl, v7, hs7⟩; have hc7 := hs7.cells)
      | fail)
  all_goals
    have HG := Lib.hid (HFIN.out _ _ _ hA5 hs7)
    clear hA5 hs7 hc7
    go_wp2_with fail
    go_ret
    exact HG.out

set_option maxRecDepth 100000 in
set_option maxHeartbeats 2000000 in
theorem do_drop (h : Duo w0 w (fun _ => False) b mb x p pr room E v L) (ht : Tied (abs E) L) (hp : PwEq p pr) (hat : OpAt S w o A1 c1 A2 c2 A3 c3) (hok : OpOk o) (hk : o.d % 11 = 8) :
    Calls Try.prog 13 #[.pointer (some ⟨b, 0, none⟩), .pointer (some ⟨x, 0, none⟩), .agg (opV o A1 c1 A2 c2 A3 c3).toArray] w fun e w' => DoGave w0 b mb x room p o e w' := by
  have hfit := h.lv.fits
  have hL16 : L.length ≤ 16 := by rw [← ht.len]; exact hfit.2.2
  have hL1 : L.length ≤ 1000 := by omega
  have hLz : sumR L ≤ 1048576 := by rw [← ht.sum]; omega
  have hpo : pr.ok := by
    obtain ⟨D, hD⟩ := h.lv.dsk
    exact hp.ok hD.ok
  have HDU := Lib.hid h
  have HT := Lib.hid ht
  have HP := Lib.hid hp
  have HAT := Lib.hid hat
  have HOK := Lib.hid hok
  have HL1 := Lib.hid hL1
  have HLZ := Lib.hid hLz
  have HPO := Lib.hid hpo
  unfold opV
  have HKK := Lib.hid hk
  clear h ht hp hat hok hfit hL16 hL1 hLz hpo
  go_enter Try.func13, Try.ntmps13
  go_wp2_with fail
  obtain ⟨wa, hwa⟩ : ∃ y, y = w.alloc (.cells #[.int .u8 o.d, .string o.nm, .string o.to, .slice A1 o.ns.length c1, .slice A2 o.ps.length c2, .int .i64 o.n, .slice A3 o.ks.length c3] 34) := ⟨_, rfl⟩
  rw [← hwa]
  have hTa : wa.heap[w.heap.size]? = some (.cells [.int .u8 o.d, .string o.nm, .string o.to, .slice A1 o.ns.length c1, .slice A2 o.ps.length c2, .int .i64 o.n, .slice A3 o.ks.length c3].toArray 34 (0, 0)) := by rw [hwa]; exact new_at rfl
  have hba : Below w.heap.size w wa := by rw [hwa]; exact (Below.refl _ _).alloc (Nat.le_refl _) _
  have hsa : wa.heap.size = w.heap.size + 1 := by rw [hwa]; simp
  obtain ⟨q, hq⟩ : ∃ q, q = w.heap.size := ⟨_, rfl⟩
  rw [← hq] at hTa hsa ⊢
  have HFW := Lib.hid (few_any _ o A1 A2 A3 c1 c2 c3 wa (HAT.out.below hba) HOK.out)
  have HTa := Lib.hid hTa
  have HBa := Lib.hid hba
  have HQ := Lib.hid hq
  clear hwa hTa hba hq
  refine (HFW.out).mono ?_
  rintro e w3 ⟨B1, e1', B2, e2', B3, e3', rfl, hat3, hfr3, hb3⟩
  have hfew := OpFew.of HOK.out
  have hdd : (fewO o).d = o.d := rfl
  obtain ⟨o', ho'⟩ : ∃ x, x = fewO o := ⟨_, rfl⟩
  rw [← ho'] at hat3 hfr3 hfew hdd ⊢
  have hT3 : w3.heap[q]? = _ := (hb3.block q (by omega)).trans HTa.out
  have y0 := sv_cell hT3 0
  have y1 := sv_cell hT3 1
  have y2 := sv_cell hT3 2
  have y3 := sv_cell hT3 3
  have y4 := sv_cell hT3 4
  have y5 := sv_cell hT3 5
  have y6 := sv_cell hT3 6
  simp only [List.getElem?_cons_zero, List.getElem?_cons_succ] at y0 y1 y2 y3 y4 y5 y6
  have p0 := sv_free (k := 0) hT3
  have p1 := sv_free (k := 1) hT3
  have p2 := sv_free (k := 2) hT3
  have p3 := sv_free (k := 3) hT3
  have p4 := sv_free (k := 4) hT3
  have p5 := sv_free (k := 5) hT3
  have p6 := sv_free (k := 6) hT3
  have HT3 := Lib.hid hT3
  have HAT3 := Lib.hid hat3
  have HFR3 := Lib.hid hfr3
  have HB3 := Lib.hid hb3
  have HFEW := Lib.hid hfew
  have d1 : o'.d.tmod 11 = 8 := by rw [hdd, Int.tmod_eq_emod_of_nonneg HOK.out.d.1]; omega
  have d2 : o'.d % 11 = 8 := by rw [hdd]; omega
  unfold opV
  clear hT3 hat3 hfr3 hb3 hfew ho' hdd
  go_upto_region 2 with fail
  obtain ⟨w4, hw4⟩ : ∃ x, x = ((((((w3.setCell ⟨q, 0, none⟩ (.int .u8 o'.d)).setCell ⟨q, 1, none⟩ (.string o'.nm)).setCell ⟨q, 2, none⟩ (.string o'.to)).setCell ⟨q, 3, none⟩ (.slice B1 o'.ns.length e1')).setCell ⟨q, 4, none⟩ (.slice B2 o'.ps.length e2')).setCell ⟨q, 5, none⟩ (.int .i64 o'.n)).setCell ⟨q, 6, none⟩ (.slice B3 o'.ks.length e3') := ⟨_, rfl⟩
  rw [← hw4]
  have hS4 := DoS.mk' HDU.out HBa.out HQ.out (by omega) HB3.out HT3.out HAT3.out HFR3.out hw4
  obtain ⟨P, hP⟩ : ∃ P : Nat → Prop, P = fun g => w.heap.size ≤ g ∧ g < w3.heap.size := ⟨_, rfl⟩
  rw [← hP] at hS4
  have HS4 := Lib.hid hS4
  obtain ⟨z0, z1, z2, z3, z4, z5, z6⟩ := hS4.cells
  clear hw4 hP hS4 y0 y1 y2 y3 y4 y5 y6 p0 p1 p2 p3 p4 p5 p6 HT3 HAT3 HFR3 HB3 HTa HFW HBa HQ HDU HAT HOK hsa
  have hti := HT.out.drop HP.out o'.ns
  obtain ⟨er, her⟩ : ∃ y, y = (dropAll p (abs E) o'.ns).1 := ⟨_, rfl⟩
  have HTI := Lib.hid hti.2
  have HD : Hid (∀ W pr' v' L', DoS w0 W P b mb x p pr' room E v' L' q o' B1 e1' B2 e2' B3 e3' → Calls Try.prog 28 #[.pointer (some ⟨b, 0, none⟩), .slice B1 o'.ns.length e1'] W fun e w' => e = .returned (.int .i64 er) ∧ ∃ E2, abs E2 = (dropAll p (abs E) o'.ns).2 ∧ DoS w0 w' P b mb x p.spent pr' room E2 v' L' q o' B1 e1' B2 e2' B3 e3') := fun W pr' v' L' hs => by
    rw [her]
    exact dropD hs HFEW.out
  have HR : Hid (∀ W p' E', DoS w0 W P b mb x p' pr room E' v L q o' B1 e1' B2 e2' B3 e3' → Calls Try.prog 36 #[.pointer (some ⟨x, 0, none⟩), .slice B1 o'.ns.length e1'] W fun e w' => e = .returned (.int .i64 er) ∧ ∃ v2, DoS w0 w' P b mb x p' pr.spent room E' v2 (if rdropE pr L o'.ns = 0 then rdropL L o'.ns else L) q o' B1 e1' B2 e2' B3 e3') := fun W p' E' hs => by
    rw [her, hti.1]
    exact dropR HL1.out HPO.out hs HFEW.out
  have HFIN : Hid (∀ W E7 v7, abs E7 = (dropAll p (abs E) o'.ns).2 → DoS w0 W P b mb x p.spent pr.spent room E7 v7 (if rdropE pr L o'.ns = 0 then rdropL L o'.ns else L) q o' B1 e1' B2 e2' B3 e3' → DoGave w0 b mb x room p o (.returned (.bool true)) W) := fun W E7 v7 ha hs => hs.gave (by rw [ha]; exact HTI.out) HP.out.spent (fun hc _ => hc.spent)
  have hs0 := HS4.out.below ((Below.refl _ w4).drew)
  have hc0 := hs0.cells
  have hs0' := HS4.out
  clear hti her
  generalize (dropAll p (abs E) o'.ns).2 = da at *
  generalize (if rdropE pr L o'.ns = 0 then rdropL L o'.ns else L) = lr at *
  go_wp2_with fail
  go_region_held3 (fun w' => w'.cell? ⟨q, 0, none⟩ = some (.int .u8 o'.d) ∧ w'.cell? ⟨q, 1, none⟩ = some (.string o'.nm) ∧ w'.cell? ⟨q, 2, none⟩ = some (.string o'.to) ∧ w'.cell? ⟨q, 3, none⟩ = some (.slice B1 o'.ns.length e1') ∧ w'.cell? ⟨q, 4, none⟩ = some (.slice B2 o'.ps.length e2') ∧ w'.cell? ⟨q, 5, none⟩ = some (.int .i64 o'.n) ∧ w'.cell? ⟨q, 6, none⟩ = some (.slice B3 o'.ks.length e3')) (first | exact hc0 | exact hc5 | exact hc6 | exact hc7 | fail)
    (first
      | (go_at_call 28; refine (HD.out _ _ _ _ hs0).mono ?_; rintro e w5 ⟨rfl, E5, hA5, hs5⟩; have hc5 := hs5.cells)
      | (go_at_call 28; refine (HD.out _ _ _ _ hs6).mono ?_; rintro e w7 ⟨rfl, E5, hA5, hs7⟩; have hc7 := hs7.cells)
      | (go_at_call 36; refine (HR.out _ _ _ hs0).mono ?_; rintro e w6 ⟨rfl, v6, hs6⟩; have hc6 := hs6.cells)
      | (go_at_call 36; refine (HR.out _ _ _ hs5).mono ?_; rintro e w7 ⟨rfl, v7, hs7⟩; have hc7 := hs7.cells)
      | fail)
  all_goals
    have HG := Lib.hid (HFIN.out _ _ _ hA5 hs7)
    clear hA5 hs7 hc7
    go_wp2_with fail
    go_ret
    exact HG.out

set_option maxRecDepth 100000 in
set_option maxHeartbeats 2000000 in
theorem do_arm (h : Duo w0 w (fun _ => False) b mb x p pr room E v L) (ht : Tied (abs E) L) (hp : PwEq p pr) (hat : OpAt S w o A1 c1 A2 c2 A3 c3) (hok : OpOk o) (hk : o.d % 11 = 9) :
    Calls Try.prog 13 #[.pointer (some ⟨b, 0, none⟩), .pointer (some ⟨x, 0, none⟩), .agg (opV o A1 c1 A2 c2 A3 c3).toArray] w fun e w' => DoGave w0 b mb x room p o e w' := by
  have hfit := h.lv.fits
  have hL16 : L.length ≤ 16 := by rw [← ht.len]; exact hfit.2.2
  have hL1 : L.length ≤ 1000 := by omega
  have hLz : sumR L ≤ 1048576 := by rw [← ht.sum]; omega
  have hpo : pr.ok := by
    obtain ⟨D, hD⟩ := h.lv.dsk
    exact hp.ok hD.ok
  have HDU := Lib.hid h
  have HT := Lib.hid ht
  have HP := Lib.hid hp
  have HAT := Lib.hid hat
  have HOK := Lib.hid hok
  have HL1 := Lib.hid hL1
  have HLZ := Lib.hid hLz
  have HPO := Lib.hid hpo
  unfold opV
  have HKK := Lib.hid hk
  clear h ht hp hat hok hfit hL16 hL1 hLz hpo
  go_enter Try.func13, Try.ntmps13
  go_wp2_with fail
  obtain ⟨wa, hwa⟩ : ∃ y, y = w.alloc (.cells #[.int .u8 o.d, .string o.nm, .string o.to, .slice A1 o.ns.length c1, .slice A2 o.ps.length c2, .int .i64 o.n, .slice A3 o.ks.length c3] 34) := ⟨_, rfl⟩
  rw [← hwa]
  have hTa : wa.heap[w.heap.size]? = some (.cells [.int .u8 o.d, .string o.nm, .string o.to, .slice A1 o.ns.length c1, .slice A2 o.ps.length c2, .int .i64 o.n, .slice A3 o.ks.length c3].toArray 34 (0, 0)) := by rw [hwa]; exact new_at rfl
  have hba : Below w.heap.size w wa := by rw [hwa]; exact (Below.refl _ _).alloc (Nat.le_refl _) _
  have hsa : wa.heap.size = w.heap.size + 1 := by rw [hwa]; simp
  obtain ⟨q, hq⟩ : ∃ q, q = w.heap.size := ⟨_, rfl⟩
  rw [← hq] at hTa hsa ⊢
  have HFW := Lib.hid (few_any _ o A1 A2 A3 c1 c2 c3 wa (HAT.out.below hba) HOK.out)
  have HTa := Lib.hid hTa
  have HBa := Lib.hid hba
  have HQ := Lib.hid hq
  clear hwa hTa hba hq
  refine (HFW.out).mono ?_
  rintro e w3 ⟨B1, e1', B2, e2', B3, e3', rfl, hat3, hfr3, hb3⟩
  have hfew := OpFew.of HOK.out
  have hdd : (fewO o).d = o.d := rfl
  obtain ⟨o', ho'⟩ : ∃ x, x = fewO o := ⟨_, rfl⟩
  rw [← ho'] at hat3 hfr3 hfew hdd ⊢
  have hT3 : w3.heap[q]? = _ := (hb3.block q (by omega)).trans HTa.out
  have y0 := sv_cell hT3 0
  have y1 := sv_cell hT3 1
  have y2 := sv_cell hT3 2
  have y3 := sv_cell hT3 3
  have y4 := sv_cell hT3 4
  have y5 := sv_cell hT3 5
  have y6 := sv_cell hT3 6
  simp only [List.getElem?_cons_zero, List.getElem?_cons_succ] at y0 y1 y2 y3 y4 y5 y6
  have p0 := sv_free (k := 0) hT3
  have p1 := sv_free (k := 1) hT3
  have p2 := sv_free (k := 2) hT3
  have p3 := sv_free (k := 3) hT3
  have p4 := sv_free (k := 4) hT3
  have p5 := sv_free (k := 5) hT3
  have p6 := sv_free (k := 6) hT3
  have HT3 := Lib.hid hT3
  have HAT3 := Lib.hid hat3
  have HFR3 := Lib.hid hfr3
  have HB3 := Lib.hid hb3
  have HFEW := Lib.hid hfew
  have d1 : o'.d.tmod 11 = 9 := by rw [hdd, Int.tmod_eq_emod_of_nonneg HOK.out.d.1]; omega
  have d2 : o'.d % 11 = 9 := by rw [hdd]; omega
  unfold opV
  clear hT3 hat3 hfr3 hb3 hfew ho' hdd
  go_upto_region 2 with fail
  obtain ⟨w4, hw4⟩ : ∃ x, x = ((((((w3.setCell ⟨q, 0, none⟩ (.int .u8 o'.d)).setCell ⟨q, 1, none⟩ (.string o'.nm)).setCell ⟨q, 2, none⟩ (.string o'.to)).setCell ⟨q, 3, none⟩ (.slice B1 o'.ns.length e1')).setCell ⟨q, 4, none⟩ (.slice B2 o'.ps.length e2')).setCell ⟨q, 5, none⟩ (.int .i64 o'.n)).setCell ⟨q, 6, none⟩ (.slice B3 o'.ks.length e3') := ⟨_, rfl⟩
  rw [← hw4]
  have hS4 := DoS.mk' HDU.out HBa.out HQ.out (by omega) HB3.out HT3.out HAT3.out HFR3.out hw4
  obtain ⟨P, hP⟩ : ∃ P : Nat → Prop, P = fun g => w.heap.size ≤ g ∧ g < w3.heap.size := ⟨_, rfl⟩
  rw [← hP] at hS4
  have HS4 := Lib.hid hS4
  obtain ⟨z0, z1, z2, z3, z4, z5, z6⟩ := hS4.cells
  clear hw4 hP hS4 y0 y1 y2 y3 y4 y5 y6 p0 p1 p2 p3 p4 p5 p6 HT3 HAT3 HFR3 HB3 HTa HFW HBa HQ HDU HAT HOK hsa
  have HD : Hid (Calls Try.prog 24 #[.pointer (some ⟨b, 0, none⟩), .int .i64 o'.n] w4 fun e w' => e = .returned (.tuple #[]) ∧ ∃ E2, abs E2 = abs E ∧ DoS w0 w' P b mb x (p.arm o'.n) pr room E2 v L q o' B1 e1' B2 e2' B3 e3') := armD HS4.out HFEW.out
  clear HS4
  go_wp2_with fail
  refine (HD.out).mono ?_
  rintro e w5 ⟨rfl, E5, hA5, hs5⟩
  have HA5 := Lib.hid hA5
  have hr := armR hs5
  have HR := Lib.hid hr
  obtain ⟨x0, x1, x2, x3, x4, x5, x6⟩ := hs5.cells
  clear hA5 hs5 hr z0 z1 z2 z3 z4 z5 z6
  go_wp2_with fail
  refine (HR.out).mono ?_
  rintro e w6 ⟨rfl, v6, hs6⟩
  have HG : Hid (DoGave w0 b mb x room p o (.returned (.bool true)) w6) := hs6.gave (by rw [HA5.out]; exact HT.out) (HP.out.arm _) (fun _ hn => absurd HKK.out hn)
  clear hs6
  go_wp2_with fail
  go_ret
  exact HG.out

set_option maxRecDepth 100000 in
set_option maxHeartbeats 2000000 in
theorem do_crash (h : Duo w0 w (fun _ => False) b mb x p pr room E v L) (ht : Tied (abs E) L) (hp : PwEq p pr) (hat : OpAt S w o A1 c1 A2 c2 A3 c3) (hok : OpOk o) (hk : o.d % 11 = 10) :
    Calls Try.prog 13 #[.pointer (some ⟨b, 0, none⟩), .pointer (some ⟨x, 0, none⟩), .agg (opV o A1 c1 A2 c2 A3 c3).toArray] w fun e w' => DoGave w0 b mb x room p o e w' := by
  have hfit := h.lv.fits
  have hL16 : L.length ≤ 16 := by rw [← ht.len]; exact hfit.2.2
  have hL1 : L.length ≤ 1000 := by omega
  have hLz : sumR L ≤ 1048576 := by rw [← ht.sum]; omega
  have hpo : pr.ok := by
    obtain ⟨D, hD⟩ := h.lv.dsk
    exact hp.ok hD.ok
  have HDU := Lib.hid h
  have HT := Lib.hid ht
  have HP := Lib.hid hp
  have HAT := Lib.hid hat
  have HOK := Lib.hid hok
  have HL1 := Lib.hid hL1
  have HLZ := Lib.hid hLz
  have HPO := Lib.hid hpo
  unfold opV
  have HKK := Lib.hid hk
  clear h ht hp hat hok hfit hL16 hL1 hLz hpo
  go_enter Try.func13, Try.ntmps13
  go_wp2_with fail
  obtain ⟨wa, hwa⟩ : ∃ y, y = w.alloc (.cells #[.int .u8 o.d, .string o.nm, .string o.to, .slice A1 o.ns.length c1, .slice A2 o.ps.length c2, .int .i64 o.n, .slice A3 o.ks.length c3] 34) := ⟨_, rfl⟩
  rw [← hwa]
  have hTa : wa.heap[w.heap.size]? = some (.cells [.int .u8 o.d, .string o.nm, .string o.to, .slice A1 o.ns.length c1, .slice A2 o.ps.length c2, .int .i64 o.n, .slice A3 o.ks.length c3].toArray 34 (0, 0)) := by rw [hwa]; exact new_at rfl
  have hba : Below w.heap.size w wa := by rw [hwa]; exact (Below.refl _ _).alloc (Nat.le_refl _) _
  have hsa : wa.heap.size = w.heap.size + 1 := by rw [hwa]; simp
  obtain ⟨q, hq⟩ : ∃ q, q = w.heap.size := ⟨_, rfl⟩
  rw [← hq] at hTa hsa ⊢
  have HFW := Lib.hid (few_any _ o A1 A2 A3 c1 c2 c3 wa (HAT.out.below hba) HOK.out)
  have HTa := Lib.hid hTa
  have HBa := Lib.hid hba
  have HQ := Lib.hid hq
  clear hwa hTa hba hq
  refine (HFW.out).mono ?_
  rintro e w3 ⟨B1, e1', B2, e2', B3, e3', rfl, hat3, hfr3, hb3⟩
  have hfew := OpFew.of HOK.out
  have hdd : (fewO o).d = o.d := rfl
  obtain ⟨o', ho'⟩ : ∃ x, x = fewO o := ⟨_, rfl⟩
  rw [← ho'] at hat3 hfr3 hfew hdd ⊢
  have hT3 : w3.heap[q]? = _ := (hb3.block q (by omega)).trans HTa.out
  have y0 := sv_cell hT3 0
  have y1 := sv_cell hT3 1
  have y2 := sv_cell hT3 2
  have y3 := sv_cell hT3 3
  have y4 := sv_cell hT3 4
  have y5 := sv_cell hT3 5
  have y6 := sv_cell hT3 6
  simp only [List.getElem?_cons_zero, List.getElem?_cons_succ] at y0 y1 y2 y3 y4 y5 y6
  have p0 := sv_free (k := 0) hT3
  have p1 := sv_free (k := 1) hT3
  have p2 := sv_free (k := 2) hT3
  have p3 := sv_free (k := 3) hT3
  have p4 := sv_free (k := 4) hT3
  have p5 := sv_free (k := 5) hT3
  have p6 := sv_free (k := 6) hT3
  have HT3 := Lib.hid hT3
  have HAT3 := Lib.hid hat3
  have HFR3 := Lib.hid hfr3
  have HB3 := Lib.hid hb3
  have HFEW := Lib.hid hfew
  have d1 : o'.d.tmod 11 = 10 := by rw [hdd, Int.tmod_eq_emod_of_nonneg HOK.out.d.1]; omega
  have d2 : o'.d % 11 = 10 := by rw [hdd]; omega
  unfold opV
  clear hT3 hat3 hfr3 hb3 hfew ho' hdd
  go_upto_region 2 with fail
  obtain ⟨w4, hw4⟩ : ∃ x, x = ((((((w3.setCell ⟨q, 0, none⟩ (.int .u8 o'.d)).setCell ⟨q, 1, none⟩ (.string o'.nm)).setCell ⟨q, 2, none⟩ (.string o'.to)).setCell ⟨q, 3, none⟩ (.slice B1 o'.ns.length e1')).setCell ⟨q, 4, none⟩ (.slice B2 o'.ps.length e2')).setCell ⟨q, 5, none⟩ (.int .i64 o'.n)).setCell ⟨q, 6, none⟩ (.slice B3 o'.ks.length e3') := ⟨_, rfl⟩
  rw [← hw4]
  have hS4 := DoS.mk' HDU.out HBa.out HQ.out (by omega) HB3.out HT3.out HAT3.out HFR3.out hw4
  obtain ⟨P, hP⟩ : ∃ P : Nat → Prop, P = fun g => w.heap.size ≤ g ∧ g < w3.heap.size := ⟨_, rfl⟩
  rw [← hP] at hS4
  have HS4 := Lib.hid hS4
  obtain ⟨z0, z1, z2, z3, z4, z5, z6⟩ := hS4.cells
  clear hw4 hP hS4 y0 y1 y2 y3 y4 y5 y6 p0 p1 p2 p3 p4 p5 p6 HT3 HAT3 HFR3 HB3 HTa HFW HBa HQ HDU HAT HOK hsa
  have HD : Hid (Calls Try.prog 20 #[.pointer (some ⟨b, 0, none⟩), .slice B3 o'.ks.length e3'] w4 fun e w' => e = .returned (.tuple #[]) ∧ ∃ E2, abs E2 = crashA (abs E) o'.ks ∧ DoS w0 w' P b mb x Pw.fresh pr room E2 v L q o' B1 e1' B2 e2' B3 e3') := crashD HS4.out HFEW.out
  clear HS4
  go_wp2_with fail
  refine (HD.out).mono ?_
  rintro e w5 ⟨rfl, E5, hA5, hs5⟩
  have HA5 := Lib.hid hA5
  have hr := crashR HL1.out HLZ.out hs5 HFEW.out
  have HR := Lib.hid hr
  obtain ⟨x0, x1, x2, x3, x4, x5, x6⟩ := hs5.cells
  clear hA5 hs5 hr z0 z1 z2 z3 z4 z5 z6
  go_wp2_with fail
  refine (HR.out).mono ?_
  rintro e w6 ⟨rfl, v6, hs6⟩
  have HG : Hid (DoGave w0 b mb x room p o (.returned (.bool true)) w6) := hs6.gave (by rw [HA5.out]; exact (HT.out.crash _)) (PwEq.crash _) (fun _ _ => ⟨rfl, rfl⟩)
  clear hs6
  go_wp2_with fail
  go_ret
  exact HG.out
end

end Go.Proofs.Ytchedflfinkppaa
