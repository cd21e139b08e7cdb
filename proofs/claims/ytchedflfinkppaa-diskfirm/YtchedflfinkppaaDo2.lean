/-
  The contract of the law's do where it writes; do, whatever the call.
-/
import Derived.Test.YtchedflfinkppaaDoA
namespace Go.Proofs.Ytchedflfinkppaa
open Go.RowKit Go.Maps Go.Sort Go.Shelf
set_option linter.unusedSimpArgs false
set_option linter.unusedVariables false

section
variable {w0 w w' : World} {P : Nat → Prop} {b mb x q : Nat} {p p' pr pr' : Pw} {room : Nat} {E E' : List Ent} {v v' : Value} {L L' : List RF} {o : Opn} {A1 A2 A3 : Option Addr} {c1 c2 c3 : Nat}
theorem DoS.more (h : DoS w0 w P b mb x p pr room E v L q o A1 c1 A2 c2 A3 c3) (hb : Below w.heap.size w w') : DoS w0 w' (fun g => P g ∨ (w.heap.size ≤ g ∧ g < w'.heap.size)) b mb x p pr room E v L q o A1 c1 A2 c2 A3 c3 :=
  ⟨h.duo.more hb, (hb.block q (lt_of_block h.cell)).trans h.cell, (h.at'.below hb).mono fun g _ s => ⟨.inl s.1, s.2⟩, fun j hj ad X m c ea hc => by
    have := FreeT.kept (S' := fun g => (P g ∨ (w.heap.size ≤ g ∧ g < w'.heap.size)) ∧ g ≠ q) h.at'.ps h.free hb.size fun g hg s => ⟨hb.block g hg, .inl s.1, s.2⟩
    exact this j hj ad X m c ea hc, .inl h.pq⟩
/-- texts that are written over: which slices they are, and that their cells are bytes -/
def Flp (P : Nat → Prop) (A : Option Addr) (n : Nat) (f : Nat → Option Addr × Nat × Nat) (w : World) : Prop :=
  ∀ j, j < n → ∃ ad, A = some ad ∧ w.cell? (ad.add j) = some (.slice (f j).1 (f j).2.1 (f j).2.2) ∧ (f j).2.1 ≤ 200 ∧ ∀ i, i < (f j).2.1 → ∃ g y, (f j).1 = some ⟨g, 0, none⟩ ∧ P g ∧ w.cell? ⟨g, i, none⟩ = some (.int .u8 y) ∧ w.frozen? ⟨g, i, none⟩ = false
theorem Flp.set {A : Option Addr} {n : Nat} {f : Nat → Option Addr × Nat × Nat} (h : Flp P A n f w) {g i : Nat} {y y' : Int} (hc : w.cell? ⟨g, i, none⟩ = some (.int .u8 y)) : Flp P A n f (w.setCell ⟨g, i, none⟩ (.int .u8 y')) := fun j hj => by
  obtain ⟨ad, e, h1, h2, h3⟩ := h j hj
  refine ⟨ad, e, ?_, h2, fun k hk => ?_⟩
  · rw [World.cell?_setCell_other _ _ _ _ (fun e' => ?_)]
    · exact h1
    · rw [← e', hc] at h1
      injection h1 with h1
      cases h1
  · obtain ⟨g', y1, k1, k2, k3, k4⟩ := h3 k hk
    by_cases e' : (⟨g, i, none⟩ : Addr) = ⟨g', k, none⟩
    · rw [← e'] at k3
      exact ⟨g', y', k1, k2, by rw [← e']; exact World.cell?_setCell_same _ _ _ k3, by rw [World.frozen?_setCell]; exact k4⟩
    · exact ⟨g', y1, k1, k2, by rw [World.cell?_setCell_other _ _ _ _ e']; exact k3, by rw [World.frozen?_setCell]; exact k4⟩
theorem DoS.flp (h : DoS w0 w P b mb x p pr room E v L q o A1 c1 A2 c2 A3 c3) (hf : OpFew o) : ∃ f, Flp P A2 o.ps.length f w := by
  have hall : ∀ j, ∃ y : Option Addr × Nat × Nat, j < o.ps.length → ∃ ad, A2 = some ad ∧ w.cell? (ad.add j) = some (.slice y.1 y.2.1 y.2.2) ∧ y.2.1 ≤ 200 ∧ ∀ i, i < y.2.1 → ∃ g z, y.1 = some ⟨g, 0, none⟩ ∧ P g ∧ w.cell? ⟨g, i, none⟩ = some (.int .u8 z) ∧ w.frozen? ⟨g, i, none⟩ = false := fun j => by
    by_cases hj : j < o.ps.length
    · obtain ⟨ad, X, c, e, _, _, h0, h1, h2⟩ := h.at'.ps j hj
      have hfr := h.free j hj ad X _ c e h0
      refine ⟨(X, (o.ps[j]).length, c), fun _ => ⟨ad, e, h0, hf.pss _ (List.getElem_mem hj), fun i hi => ?_⟩⟩
      obtain ⟨a, ea, s, _, hc⟩ := h2 i (by rw [u8s_len]; exact hi)
      obtain ⟨f1, f2, _, f4⟩ := hfr a ea
      refine ⟨a.block, (o.ps[j])[i], by rw [ea, ← f1], s.1, ?_, f4 i⟩
      rw [f1, Addr.add_lit, Nat.zero_add] at hc
      rw [hc]
      simp [u8s]
    · exact ⟨(none, 0, 0), fun h => absurd h hj⟩
  obtain ⟨f, hf'⟩ := Classical.skolem.1 hall
  exact ⟨f, fun j hj => hf' j hj⟩
theorem Duo.set (h : Duo w0 w P b mb x p pr room E v L) {g i : Nat} {u : Value} (hp : P g) : Duo w0 (w.setCell ⟨g, i, none⟩ u) P b mb x p pr room E v L := by
  have ho : Only g w (w.setCell ⟨g, i, none⟩ u) := (Only.refl g w).set _ _
  exact h.law ho.os ho.tape ho.output ho.size fun k hk hn => ho.block k hk fun e => hn (e ▸ hp)
end

section
variable (w0 w : World) (b mb x : Nat) (p pr : Pw) (room : Nat) (E : List Ent) (v : Value) (L : List RF) (S : Nat → Prop) (o : Opn) (A1 : Option Addr) (c1 : Nat) (A2 : Option Addr) (c2 : Nat) (A3 : Option Addr) (c3 : Nat)

set_option maxRecDepth 100000 in
set_option maxHeartbeats 2000000 in
theorem do_write (h : Duo w0 w (fun _ => False) b mb x p pr room E v L) (ht : Tied (abs E) L) (hp : PwEq p pr) (hat : OpAt S w o A1 c1 A2 c2 A3 c3) (hok : OpOk o) (hk : o.d % 11 < 4) :
    Calls Try.prog 13 #[.pointer (some ⟨b, 0, none⟩), .pointer (some ⟨x, 0, none⟩), .agg (opV o A1 c1 A2 c2 A3 c3).toArray] w fun e w' => DoGave w0 b mb x room p o e w' := by
  have hfit := h.lv.fits
  have hL16 : L.length ≤ 16 := by rw [← ht.len]; exact hfit.2.2
  have hL1 : L.length ≤ 1000 := by omega
  have hLz : sumR L ≤ 1048576 := by rw [← ht.sum]; omega
  have hpo : pr.ok := by
    obtain ⟨D, hD⟩ := h.lv.dsk
    exact hp.ok hD.ok
  have HDU := Lib.hid h
  have HT := Lib.hid ht
  have HP := Lib.hid hp
  have HAT := Lib.hid hat
  have HOK := Lib.hid hok
  have HL1 := Lib.hid hL1
  have HLZ := Lib.hid hLz
  have HPO := Lib.hid hpo
  unfold opV
  have hkk := hk
  clear hk
  clear h ht hp hat hok hfit hL16 hL1 hLz hpo
  go_enter Try.func13, Try.ntmps13
  go_wp2_with fail
  obtain ⟨wa, hwa⟩ : ∃ y, y = w.alloc (.cells #[.int .u8 o.d, .string o.nm, .string o.to, .slice A1 o.ns.length c1, .slice A2 o.ps.length c2, .int .i64 o.n, .slice A3 o.ks.length c3] 34) := ⟨_, rfl⟩
  rw [← hwa]
  have hTa : wa.heap[w.heap.size]? = some (.cells [.int .u8 o.d, .string o.nm, .string o.to, .slice A1 o.ns.length c1, .slice A2 o.ps.length c2, .int .i64 o.n, .slice A3 o.ks.length c3].toArray 34 (0, 0)) := by rw [hwa]; exact new_at rfl
  have hba : Below w.heap.size w wa := by rw [hwa]; exact (Below.refl _ _).alloc (Nat.le_refl _) _
  have hsa : wa.heap.size = w.heap.size + 1 := by rw [hwa]; simp
  obtain ⟨q, hq⟩ : ∃ q, q = w.heap.size := ⟨_, rfl⟩
  rw [← hq] at hTa hsa ⊢
  have HFW := Lib.hid (few_any _ o A1 A2 A3 c1 c2 c3 wa (HAT.out.below hba) HOK.out)
  have HTa := Lib.hid hTa
  have HBa := Lib.hid hba
  have HQ := Lib.hid hq
  clear hwa hTa hba hq
  refine (HFW.out).mono ?_
  rintro e w3 ⟨B1, e1', B2, e2', B3, e3', rfl, hat3, hfr3, hb3⟩
  have hfew := OpFew.of HOK.out
  have hdd : (fewO o).d = o.d := rfl
  obtain ⟨o', ho'⟩ : ∃ x, x = fewO o := ⟨_, rfl⟩
  rw [← ho'] at hat3 hfr3 hfew hdd ⊢
  have hT3 : w3.heap[q]? = _ := (hb3.block q (by omega)).trans HTa.out
  have y0 := sv_cell hT3 0
  have y1 := sv_cell hT3 1
  have y2 := sv_cell hT3 2
  have y3 := sv_cell hT3 3
  have y4 := sv_cell hT3 4
  have y5 := sv_cell hT3 5
  have y6 := sv_cell hT3 6
  simp only [List.getElem?_cons_zero, List.getElem?_cons_succ] at y0 y1 y2 y3 y4 y5 y6
  have p0 := sv_free (k := 0) hT3
  have p1 := sv_free (k := 1) hT3
  have p2 := sv_free (k := 2) hT3
  have p3 := sv_free (k := 3) hT3
  have p4 := sv_free (k := 4) hT3
  have p5 := sv_free (k := 5) hT3
  have p6 := sv_free (k := 6) hT3
  have HT3 := Lib.hid hT3
  have HAT3 := Lib.hid hat3
  have HFR3 := Lib.hid hfr3
  have HB3 := Lib.hid hb3
  have HFEW := Lib.hid hfew
  obtain ⟨dm, hdm⟩ : ∃ y, y = o.d % 11 := ⟨_, rfl⟩
  have d1 : o'.d.tmod 11 = dm := by rw [hdd, Int.tmod_eq_emod_of_nonneg HOK.out.d.1]; omega
  have d2 : o'.d % 11 = dm := by rw [hdd]; omega
  have n4 : (dm == 4) = false := beq_false_of_ne (by omega)
  have n5 : (dm == 5) = false := beq_false_of_ne (by omega)
  have n6 : (dm == 6) = false := beq_false_of_ne (by omega)
  have n7 : (dm == 7) = false := beq_false_of_ne (by omega)
  have n8 : (dm == 8) = false := beq_false_of_ne (by omega)
  have n9 : (dm == 9) = false := beq_false_of_ne (by omega)
  have n10 : (dm == 10) = false := beq_false_of_ne (by omega)
  have hro := HDU.out.lv.fits.2.1
  clear hdm hkk
  unfold opV
  clear hT3 hat3 hfr3 hb3 hfew ho' hdd
  go_upto_region 2 with fail
  obtain ⟨w4, hw4⟩ : ∃ x, x = ((((((w3.setCell ⟨q, 0, none⟩ (.int .u8 o'.d)).setCell ⟨q, 1, none⟩ (.string o'.nm)).setCell ⟨q, 2, none⟩ (.string o'.to)).setCell ⟨q, 3, none⟩ (.slice B1 o'.ns.length e1')).setCell ⟨q, 4, none⟩ (.slice B2 o'.ps.length e2')).setCell ⟨q, 5, none⟩ (.int .i64 o'.n)).setCell ⟨q, 6, none⟩ (.slice B3 o'.ks.length e3') := ⟨_, rfl⟩
  rw [← hw4]
  have hS4 := DoS.mk' HDU.out HBa.out HQ.out (by omega) HB3.out HT3.out HAT3.out HFR3.out hw4
  obtain ⟨P, hP⟩ : ∃ P : Nat → Prop, P = fun g => w.heap.size ≤ g ∧ g < w3.heap.size := ⟨_, rfl⟩
  rw [← hP] at hS4
  have HS4 := Lib.hid hS4
  obtain ⟨z0, z1, z2, z3, z4, z5, z6⟩ := hS4.cells
  clear hw4 hP hS4 y0 y1 y2 y3 y4 y5 y6 p0 p1 p2 p3 p4 p5 p6 HT3 HAT3 HFR3 HB3 HTa HFW HBa HQ HDU HAT HOK hsa
  obtain ⟨i0, hi, hz0, hz1, hz2⟩ := info_parts Try.info5
  go_wp2_with fail
  go_loopw [7, 9, 95] (fun a _ i wr => ∃ (k : Nat) (A : Option Addr) (c : Nat), k ≤ o'.ps.length ∧ i = .int .i64 k ∧ a = .slice A (o'.ps.take k).flatten.length c ∧ wr.ownsRow w4.heap.size 5 1 (.slice A (o'.ps.take k).flatten.length c) (o'.ps.take k).flatten.length (u8s (o'.ps.take k).flatten) ∧ (o'.ps.take k).flatten.length ≤ k * 200 ∧ Below w4.heap.size w4 wr) (fun _ _ i _ => o'.ps.length - (intOf i).toNat)
  case atStart => exact ⟨0, none, 0, Nat.zero_le _, rfl, by simp, (show w4.ownsRow w4.heap.size 5 1 (.slice none 0 0) 0 [] from ⟨rfl, .inl ⟨rfl, rfl⟩⟩), by simp, Below.refl _ _⟩
  case round =>
    obtain ⟨k, A, c, hk, rfl, rfl, hown, hsz, hbr⟩ := hrel
    by_cases hlt : k < o'.ps.length
    · have i1 : (k : Int) < (o'.ps.length : Int) := by omega
      obtain ⟨ad, X, cX, rfl, _, _, m0, m1, m2⟩ := (HS4.out.at'.ps.below hbr) k hlt
      have hk4 : k ≤ 4 := by have := HFEW.out.ps; omega
      have hx2 := HFEW.out.pss _ (List.getElem_mem hlt)
      have hfl := flat_take hlt
      have HNX : Hid (u8s (o'.ps.take k).flatten ++ u8s o'.ps[k] = u8s (o'.ps.take (k + 1)).flatten ∧ (o'.ps.take k).flatten.length + o'.ps[k].length = (o'.ps.take (k + 1)).flatten.length) := ⟨by rw [hfl]; simp [u8s], by rw [hfl, List.length_append]⟩
      have HX1 := Lib.hid (u8s_one o'.ps[k])
      have HXL := Lib.hid (u8s_len o'.ps[k])
      have HBR := Lib.hid hbr
      have HOWN := Lib.hid hown
      have HM2 := Lib.hid m2
      have hxc := m1
      clear hbr hown m2 hfl
      obtain ⟨fk, hfk⟩ : ∃ y, y = (o'.ps.take k).flatten := ⟨_, rfl⟩
      rw [← hfk] at HOWN HNX hsz ⊢
      obtain ⟨xk, hxk⟩ : ∃ y, y = o'.ps[k] := ⟨_, rfl⟩
      rw [← hxk] at m0 m1 hxc hx2 HX1 HXL HM2 HNX
      clear hfk hxk
      generalize fk.length = nf at *
      generalize xk.length = nx at *
      go_wp2_with (at_builtin; refine wpList_append_row _ rfl (.tmp 99) (.tmp 100) 41 rfl w4.heap.size 5 i0 (.int .u8 0) 1 Try.underlying41 hi hz0 hz1 hz2 rfl (.slice A nf c) nf (u8s fk) rfl HOWN.out _ X nx cX (u8s xk) rfl HXL.out HM2.out HX1.out ?c3 ?c4 ?c5 ?_; rotate_right; intro A' c' w' hown' hgrow hat)
      case c3 => unfold maxLen; omega
      case c4 => omega
      case c5 => exact HBR.out.size
      have HG : Hid (w'.ownsRow w4.heap.size 5 1 (.slice A' (nf + nx) c') (nf + nx) (u8s (o'.ps.take (k + 1)).flatten) ∧ Below w4.heap.size w4 w') := ⟨by rw [← HNX.out.1]; exact hown', HBR.out.grown hgrow HBR.out.size (fun g e => (own_lt HOWN.out e).1)⟩
      clear hown' hgrow hat
      go_wp2_with fail
      go_roundw
      case rel => exact ⟨k + 1, A', c', by omega, by go_num, by rw [← HNX.out.2], by rw [← HNX.out.2]; exact HG.out.1, by rw [← HNX.out.2]; omega, HG.out.2⟩
      case measure => simp [intOf]; omega
    · have i1 : ¬ (k : Int) < (o'.ps.length : Int) := by omega
      rw [List.take_of_length_le (by omega)] at hown hsz ⊢
      obtain ⟨w5, rfl⟩ : ∃ y, y = wr := ⟨wr, rfl⟩
      obtain ⟨bs, hbs⟩ : ∃ y, y = o'.ps.flatten := ⟨_, rfl⟩
      rw [← hbs] at hown hsz ⊢
      obtain ⟨P2, hP2⟩ : ∃ P2 : Nat → Prop, P2 = fun g => P g ∨ (w4.heap.size ≤ g ∧ g < w5.heap.size) := ⟨_, rfl⟩
      have hs5 := HS4.out.more hbr
      rw [← hP2] at hs5
      have hk4 : k ≤ 4 := by have := HFEW.out.ps; omega
      have hbl : bs.length ≤ 1000000 := by omega
      obtain ⟨A9, c9, e9, _, _, hrow9⟩ := Row.of_own hown
      injection e9 with e91 _ e93
      subst e91 e93
      have hq4 : q < w4.heap.size := lt_of_block HS4.out.cell
      have HROW : Hid (∀ W, Below w5.heap.size w5 W → Row (fun g => P2 g ∧ g ≠ q) W A (u8s bs)) := fun W hW => (hrow9.mono fun g hg s => (⟨by rw [hP2]; exact .inr ⟨s.1, hg⟩, by have := s.1; omega⟩ : P2 g ∧ g ≠ q)).below hW
      have HROWK : Hid (∀ W, w5.heap.size ≤ W.heap.size → (∀ g, g < w5.heap.size → P2 g → W.heap[g]? = w5.heap[g]?) → Row (fun g => P2 g ∧ g ≠ q) W A (u8s bs)) := fun W hs hk => (HROW.out w5 (Below.refl _ _)).kept hs fun g hg s => hk g hg s.1
      have hti := HT.out.write HP.out room o'.nm bs
      obtain ⟨er, her⟩ : ∃ y, y = (writeA p room (abs E) o'.nm bs).1 := ⟨_, rfl⟩
      have HTI := Lib.hid hti.2
      have HS5 := Lib.hid hs5
      have HD : Hid (∀ W pr' v' L', DoS w0 W P2 b mb x p pr' room E v' L' q o' B1 e1' B2 e2' B3 e3' → Calls Try.prog 19 #[.pointer (some ⟨b, 0, none⟩), .string o'.nm, .slice B2 o'.ps.length e2'] W fun e w' => e = .returned (.int .i64 er) ∧ ∃ E2, abs E2 = (writeA p room (abs E) o'.nm bs).2 ∧ DoS w0 w' P2 b mb x p.spent pr' room E2 v' L' q o' B1 e1' B2 e2' B3 e3' ∧ (W.heap.size ≤ w'.heap.size ∧ ∀ g, g < W.heap.size → P2 g → w'.heap[g]? = W.heap[g]?)) := fun W pr' v' L' hs => by
        rw [her, hbs]
        refine (write_lv w0 W b mb p room E o'.nm B2 e2' o'.ps hs.duo.lv (small_max HFEW.out.nm) (hs.at'.ps.mono hs.offE) (by have := HFEW.out.ps; omega) (fun t ht => by have := HFEW.out.pss t ht; omega)).mono ?_
        rintro e w' ⟨e1, hl⟩
        obtain ⟨E2, hE2, hd2, hc2⟩ := hs.duo.disk hl
        exact ⟨e1, E2, hE2, hs.go hd2 hc2.size (fun g hg hp => hc2.block g hg (hs.duo.np g hp).2.1), hc2.size, fun g hg hp => hc2.block g hg (hs.duo.np g hp).2.1⟩
      have HR : Hid (∀ W p' E', DoS w0 W P2 b mb x p' pr room E' v L q o' B1 e1' B2 e2' B3 e3' → (w5.heap.size ≤ W.heap.size ∧ ∀ g, g < w5.heap.size → P2 g → W.heap[g]? = w5.heap[g]?) → Calls Try.prog 38 #[.pointer (some ⟨x, 0, none⟩), .string o'.nm, .slice A bs.length c] W fun e w' => e = .returned (.int .i64 er) ∧ ∃ v2, DoS w0 w' P2 b mb x p' pr.spent room E' v2 (if rwriteE pr room L o'.nm bs.length = 0 then rwriteL L o'.nm bs else L) q o' B1 e1' B2 e2' B3 e3') := fun W p' E' hs hk => by
        rw [her, hti.1]
        exact writeR HL1.out HLZ.out HPO.out hs HFEW.out hro (HROWK.out W hk.1 hk.2) (fun g s => s) hbl
      have HFIN : Hid (∀ W E7 v7, abs E7 = (writeA p room (abs E) o'.nm bs).2 → Duo w0 W P2 b mb x p.spent pr.spent room E7 v7 (if rwriteE pr room L o'.nm bs.length = 0 then rwriteL L o'.nm bs else L) → DoGave w0 b mb x room p o (.returned (.bool true)) W) := fun W E7 v7 ha hs => ⟨E7, v7, _, p.spent, pr.spent, rfl, hs.less (fun _ hg => hg.elim), by rw [ha]; exact HTI.out, HP.out.spent, fun hc _ => hc.spent⟩
      have hs0 := hs5.below ((Below.refl _ w5).drew)
      have hc0 := hs0.cells
      have hk0 : w5.heap.size ≤ w5.drew.heap.size ∧ ∀ g, g < w5.heap.size → P2 g → w5.drew.heap[g]? = w5.heap[g]? := ⟨Nat.le_refl _, fun _ _ _ => rfl⟩
      clear hti her hs5 hown hrow9 hP2 hbs hbr HTI z0 z1 z2 z3 z4 z5 z6 hsz
      generalize (writeA p room (abs E) o'.nm bs).2 = da at *
      generalize (if rwriteE pr room L o'.nm bs.length = 0 then rwriteL L o'.nm bs else L) = lr at *
      generalize bs.length = nb at *
      go_wp2_with fail
      go_region_held3 (fun w' => w'.cell? ⟨q, 0, none⟩ = some (.int .u8 o'.d) ∧ w'.cell? ⟨q, 1, none⟩ = some (.string o'.nm) ∧ w'.cell? ⟨q, 2, none⟩ = some (.string o'.to) ∧ w'.cell? ⟨q, 3, none⟩ = some (.slice B1 o'.ns.length e1') ∧ w'.cell? ⟨q, 4, none⟩ = some (.slice B2 o'.ps.length e2') ∧ w'.cell? ⟨q, 5, none⟩ = some (.int .i64 o'.n) ∧ w'.cell? ⟨q, 6, none⟩ = some (.slice B3 o'.ks.length e3')) (first | exact hc0 | exact hc5 | exact hc6 | exact hc7 | fail)
        (first
          | (go_at_call 19; refine (HD.out _ _ _ _ hs0).mono ?_; rintro e w6 ⟨rfl, E5, hA5, hs6, hk6⟩; have hc5 := hs6.cells)
          | (go_at_call 19; refine (HD.out _ _ _ _ hs8).mono ?_; rintro e w7 ⟨rfl, E5, hA5, hs7, _⟩; have hc7 := hs7.cells)
          | (go_at_call 38; refine (HR.out _ _ _ hs0 hk0).mono ?_; rintro e w8 ⟨rfl, v6, hs8⟩; have hc6 := hs8.cells)
          | (go_at_call 38; refine (HR.out _ _ _ hs6 ⟨Nat.le_trans hk0.1 hk6.1, fun g hg hp => (hk6.2 g hg hp).trans (hk0.2 g hg hp)⟩).mono ?_; rintro e w7 ⟨rfl, v7, hs7⟩; have hc7 := hs7.cells)
          | fail)
      all_goals
        obtain ⟨f, hflp⟩ := hs7.flp HFEW.out
        have hdu := hs7.duo
        obtain ⟨W7, rfl⟩ : ∃ y, y = w7 := ⟨w7, rfl⟩
        have HFI := Lib.hid (HFIN.out)
        have HA5 := Lib.hid hA5
        have HFL := Lib.hid hflp
        have HDU7 := Lib.hid hdu
        obtain ⟨z0, z1, z2, z3, z4, z5, z6⟩ := hc7
        clear hA5 hs7 hflp hdu hc0 hs0 hk0
        go_wp2_with fail
        go_loopw [12, 13, 118] (fun _ _ i wr => ∃ (j : Nat), j ≤ o'.ps.length ∧ i = .int .i64 j ∧ DoGave w0 b mb x room p o (.returned (.bool true)) wr ∧ (∃ E7 v7, abs E7 = da ∧ Duo w0 wr P2 b mb x p.spent pr.spent room E7 v7 lr) ∧ Flp P2 B2 o'.ps.length f wr) (fun _ _ i _ => o'.ps.length - (intOf i).toNat)
        case atStart => exact ⟨0, Nat.zero_le _, rfl, HFI.out _ _ _ HA5.out HDU7.out, ⟨_, _, HA5.out, HDU7.out⟩, HFL.out⟩
        case round =>
          obtain ⟨j, hj, rfl, hgv, ⟨E7, v9, ha7, hd7⟩, hfl7⟩ := hrel
          have HGV := Lib.hid hgv
          by_cases hlt : j < o'.ps.length
          · have i1 : (j : Int) < (o'.ps.length : Int) := by omega
            obtain ⟨ad, rfl, m0, m1, _⟩ := hfl7 j hlt
            have HD7 : Hid (∃ E7 v7, abs E7 = da ∧ Duo w0 wr P2 b mb x p.spent pr.spent room E7 v7 lr) := ⟨E7, v9, ha7, hd7⟩
            have HFL7 := Lib.hid hfl7
            obtain ⟨X, hX⟩ : ∃ y, y = (f j).1 := ⟨_, rfl⟩
            obtain ⟨m, hm⟩ : ∃ y, y = (f j).2.1 := ⟨_, rfl⟩
            obtain ⟨cX, hcX⟩ : ∃ y, y = (f j).2.2 := ⟨_, rfl⟩
            rw [← hX, ← hm, ← hcX] at m0
            rw [← hm] at m1
            have HXX := Lib.hid hX
            have HMM := Lib.hid hm
            clear hgv ha7 hd7 hfl7 hX hm hcX
            go_wp2_with fail
            go_loopw [13, 124] (fun _ i wx => ∃ (i9 : Nat), i9 ≤ m ∧ i = .int .i64 i9 ∧ DoGave w0 b mb x room p o (.returned (.bool true)) wx ∧ (∃ E7 v7, abs E7 = da ∧ Duo w0 wx P2 b mb x p.spent pr.spent room E7 v7 lr) ∧ Flp P2 (some ad) o'.ps.length f wx) (fun _ i _ => m - (intOf i).toNat)
            case atStart => exact ⟨0, Nat.zero_le _, rfl, HGV.out, HD7.out, HFL7.out⟩
            case round =>
              obtain ⟨i9, hi9, rfl, hgx, hdx, hfx⟩ := hrel
              by_cases hl9 : i9 < m
              · have i2 : (i9 : Int) < (m : Int) := by omega
                obtain ⟨ad', e', _, _, hcells⟩ := hfx j hlt
                obtain ⟨g, y, hg1, hg2, hg3, hg4⟩ := hcells i9 (by rw [← HMM.out]; exact hl9)
                rw [← HXX.out] at hg1
                subst hg1
                have HNX : Hid (∀ y', DoGave w0 b mb x room p o (.returned (.bool true)) (wr.setCell ⟨g, i9, none⟩ (.int .u8 y')) ∧ (∃ E7 v7, abs E7 = da ∧ Duo w0 (wr.setCell ⟨g, i9, none⟩ (.int .u8 y')) P2 b mb x p.spent pr.spent room E7 v7 lr) ∧ Flp P2 (some ad) o'.ps.length f (wr.setCell ⟨g, i9, none⟩ (.int .u8 y'))) := fun y' => by
                  obtain ⟨E8, v8, h81, h82⟩ := hdx
                  exact ⟨HFI.out _ _ _ h81 (h82.set hg2), ⟨E8, v8, h81, h82.set hg2⟩, hfx.set hg3⟩
                clear hgx hdx hfx hcells
                go_wp2_with fail
                go_roundw
                case rel => exact ⟨i9 + 1, by omega, by go_num, (HNX.out _).1, (HNX.out _).2.1, (HNX.out _).2.2⟩
                case measure => simp [intOf]; omega
              · have i2 : ¬ (i9 : Int) < (m : Int) := by omega
                have HGX := Lib.hid hgx
                have HDX := Lib.hid hdx
                have HFX := Lib.hid hfx
                clear hgx hdx hfx
                go_wp2_with fail
                go_roundw
                case rel => exact ⟨j + 1, by omega, by go_num, HGX.out, HDX.out, HFX.out⟩
                case measure => simp [intOf]; omega
          · have i1 : ¬ (j : Int) < (o'.ps.length : Int) := by omega
            clear hgv hfl7 hd7 ha7
            go_wp2_with fail
            go_ret
            exact HGV.out

theorem do_any (h : Duo w0 w (fun _ => False) b mb x p pr room E v L) (ht : Tied (abs E) L) (hp : PwEq p pr) (hat : OpAt S w o A1 c1 A2 c2 A3 c3) (hok : OpOk o) :
    Calls Try.prog 13 #[.pointer (some ⟨b, 0, none⟩), .pointer (some ⟨x, 0, none⟩), .agg (opV o A1 c1 A2 c2 A3 c3).toArray] w fun e w' => DoGave w0 b mb x room p o e w' := by
  have hd := hok.d
  rcases (show o.d % 11 < 4 ∨ o.d % 11 = 4 ∨ o.d % 11 = 5 ∨ o.d % 11 = 6 ∨ o.d % 11 = 7 ∨ o.d % 11 = 8 ∨ o.d % 11 = 9 ∨ o.d % 11 = 10 by omega) with hk | hk | hk | hk | hk | hk | hk | hk
  · exact do_write w0 w b mb x p pr room E v L S o A1 c1 A2 c2 A3 c3 h ht hp hat hok hk
  · exact do_firm4 w0 w b mb x p pr room E v L S o A1 c1 A2 c2 A3 c3 h ht hp hat hok hk
  · exact do_firm5 w0 w b mb x p pr room E v L S o A1 c1 A2 c2 A3 c3 h ht hp hat hok hk
  · exact do_swap w0 w b mb x p pr room E v L S o A1 c1 A2 c2 A3 c3 h ht hp hat hok hk
  · exact do_trim w0 w b mb x p pr room E v L S o A1 c1 A2 c2 A3 c3 h ht hp hat hok hk
  · exact do_drop w0 w b mb x p pr room E v L S o A1 c1 A2 c2 A3 c3 h ht hp hat hok hk
  · exact do_arm w0 w b mb x p pr room E v L S o A1 c1 A2 c2 A3 c3 h ht hp hat hok hk
  · exact do_crash w0 w b mb x p pr room E v L S o A1 c1 A2 c2 A3 c3 h ht hp hat hok hk
end

end Go.Proofs.Ytchedflfinkppaa
