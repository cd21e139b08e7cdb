/-
  The contract of ref03's Sort, of hits whose IDs are apart.
-/
import Derived.Test.YtfhnhfppamnjhaaRAdd
import Derived.Laws.OwnMore
namespace Go.Proofs.Ytfhnhfppamnjhaa
open Go.RowKit Go.Maps

/-- The cells of those hits that are laid. -/
def PartC (S : Nat → Prop) (w : World) (cs : List Value) (T : List Hit) (D : Hit → Prop) : Prop :=
  cs.length = T.length * 3 ∧ ∀ j h, T[j]? = some h → D h → cs[j * 3]? = some (.int .u64 h.1) ∧ cs[j * 3 + 1]? = some (.int .u64 h.2.1) ∧ ∃ X c, cs[j * 3 + 2]? = some (.slice X h.2.2.length c) ∧ h.2.2.length ≤ c ∧ Row S w X (i32s h.2.2)
theorem PartC.all {S : Nat → Prop} {w : World} {cs : List Value} {T : List Hit} {D : Hit → Prop} (h : PartC S w cs T D) (hD : ∀ x ∈ T, D x) : Cells3 S w cs T := ⟨h.1, fun j x hx => h.2 j x hx (hD x (List.mem_of_getElem? hx))⟩
theorem PartC.kept {S : Nat → Prop} {w w' : World} {cs : List Value} {T : List Hit} {D : Hit → Prop} (h : PartC S w cs T D) (hs : w.heap.size ≤ w'.heap.size) (hk : ∀ g, g < w.heap.size → S g → w'.heap[g]? = w.heap[g]?) : PartC S w' cs T D :=
  ⟨h.1, fun j x hx hd => by
    obtain ⟨a0, a1, X, c, a2, a3, a4⟩ := h.2 j x hx hd
    exact ⟨a0, a1, X, c, a2, a3, a4.kept hs hk⟩⟩
theorem PartC.put {S : Nat → Prop} {w : World} {cs : List Value} {T : List Hit} {D : Hit → Prop} (h : PartC S w cs T D) (hs : Srt T) {p : Nat} (hp : p < T.length) {X : Option Addr} {c : Nat} (hc : T[p].2.2.length ≤ c) (hr : Row S w X (i32s T[p].2.2)) :
    PartC S w (((cs.set (p * 3) (.int .u64 T[p].1)).set (p * 3 + 1) (.int .u64 T[p].2.1)).set (p * 3 + 2) (.slice X T[p].2.2.length c)) T (fun x => D x ∨ x = T[p]) := by
  have hl := h.1
  refine ⟨by simp only [List.length_set]; exact hl, fun j x hx hd => ?_⟩
  by_cases e : j = p
  · subst e
    rw [List.getElem?_eq_getElem hp] at hx
    injection hx with hx
    subst hx
    refine ⟨?_, ?_, X, c, ?_, hc, hr⟩
    · rw [List.getElem?_set_ne (by omega), List.getElem?_set_ne (by omega), List.getElem?_set_self (by omega)]
    · rw [List.getElem?_set_ne (by omega), List.getElem?_set_self (by simp only [List.length_set]; omega)]
    · rw [List.getElem?_set_self (by simp only [List.length_set]; omega)]
  · have hd' : D x := by
      rcases hd with hd | hd
      · exact hd
      · exfalso
        obtain ⟨hj, hje⟩ := List.getElem?_eq_some_iff.1 hx
        exact hs.ne hj hp e (by rw [hje, hd])
    obtain ⟨a0, a1, Y, d, a2, a3, a4⟩ := h.2 j x hx hd'
    refine ⟨?_, ?_, Y, d, ?_, a3, a4⟩
    · rw [List.getElem?_set_ne (by omega), List.getElem?_set_ne (by omega), List.getElem?_set_ne (by omega)]; exact a0
    · rw [List.getElem?_set_ne (by omega), List.getElem?_set_ne (by omega), List.getElem?_set_ne (by omega)]; exact a1
    · rw [List.getElem?_set_ne (by omega), List.getElem?_set_ne (by omega), List.getElem?_set_ne (by omega)]; exact a2

set_option maxRecDepth 100000 in
set_option maxHeartbeats 2000000 in
theorem sort_any (S : Nat → Prop) (A : Option Addr) (c : Nat) (L T : List Hit) (w : World) (hat : HitsAt S w A L) (hP : L.Perm T) (hs : Srt T) (hL : L.length ≤ 999999) :
    Calls Try.prog 27 #[.slice A L.length c] w fun e w' => ∃ A' c', e = .returned (.slice A' L.length c') ∧ L.length ≤ c' ∧ HitsAt (fun g => S g ∨ w.heap.size ≤ g) w' A' T ∧ Below w.heap.size w w' := by
  obtain ⟨i0, hi0, hz0, hz1, hz2⟩ := info_parts Try.info36
  obtain ⟨wm, hmk, hown0, hgr0⟩ := run_make_full (P := Try.prog) w w.heap.size 29 36 i0 _ 3 Try.underlying29 hi0 hz0 hz1 .i64 .i64 L.length (by rw [hz2]; omega) (by unfold maxLen; omega) (Nat.le_refl _)
  have hbm : Below w.heap.size w wm := ⟨hgr0.os, hgr0.tape, hgr0.output, hgr0.size, fun k hk => hgr0.block k hk (by simp)⟩
  have hTl := hP.length_eq
  have hat' : HitsAt (fun g => g < w.heap.size ∧ S g) w A L := hat.mono fun g hg s => ⟨hg, s⟩
  have HAT := Lib.hid hat'
  have H0 : Hid (∃ cs, wm.ownsRow w.heap.size 36 3 (.slice (some ⟨w.heap.size, 0, none⟩) L.length L.length) L.length cs ∧ PartC (fun g => g < w.heap.size ∧ S g) wm cs T (fun x => x ∈ L.take 0)) := ⟨_, hown0, by have := hown0.1; omega, fun j x hx hd => by simp at hd⟩
  have HTL := Lib.hid hTl
  clear hat hat' hown0 hgr0 hTl
  go_enter Try.func27, Try.ntmps27
  go_wp2_with fail
  go_loopw [4, 5, 6, 7, 8, 14, 19, 20, 21] (fun _ _ _ _ _ i _ _ _ wr => ∃ k : Nat, k ≤ L.length ∧ i = .int .i64 k ∧ (∃ cs, wr.ownsRow w.heap.size 36 3 (.slice (some ⟨w.heap.size, 0, none⟩) L.length L.length) L.length cs ∧ PartC (fun g => g < w.heap.size ∧ S g) wr cs T (fun x => x ∈ L.take k)) ∧ Below w.heap.size w wr) (fun _ _ _ _ _ i _ _ _ _ => L.length - (intOf i).toNat)
  case atStart => exact ⟨0, Nat.zero_le _, rfl, H0.out, hbm⟩
  case round =>
    obtain ⟨k, hk, rfl, hrow, hB⟩ := hrel
    by_cases hlt : k < L.length
    · have i1 : (k : Int) < (L.length : Int) := by omega
      obtain ⟨ad, rfl, _, hadl, a0, a1, X, cx, a2, hcx, hrx⟩ := (HAT.out.below hB) k hlt
      have HROW := Lib.hid hrow
      obtain ⟨wa, hwa⟩ : ∃ x, x = wr.alloc (.cells #[.int .u64 L[k].1, .int .u64 L[k].2.1, .slice X L[k].2.2.length cx] 36) := ⟨_, rfl⟩
      have hba : Below wr.heap.size wr wa := by rw [hwa]; exact (Below.refl _ _).alloc (Nat.le_refl _) _
      have HBA := Lib.hid hba
      have HBW : Hid (Below w.heap.size w wa) := hB.trans (hba.mono hB.size)
      have HBXH : Hid (wa.heap[wr.heap.size]? = some (.cells #[.int .u64 L[k].1, .int .u64 L[k].2.1, .slice X L[k].2.2.length cx] 36 (0, 0))) := by rw [hwa]; exact heap_alloc_new wr _
      have HRX := Lib.hid hrx
      have hzr := hB.size
      clear hrow hB hba hrx
      go_wp2_with fail
      rw [← hwa]
      clear hwa a0 a1 a2
      obtain ⟨xq, hxq⟩ : ∃ x : Hit, x = L[k] := ⟨_, rfl⟩
      obtain ⟨qh, hqh⟩ : ∃ x, x = wr.heap.size := ⟨_, rfl⟩
      rw [← hxq] at HBXH HRX hcx ⊢
      rw [← hqh] at HBXH ⊢
      have hcnt : ∀ m, (L.take m).countP (fun x => near x xq) ≤ m := fun m => by
        have h1 := List.countP_le_length (p := fun x => near x xq) (l := L.take m)
        rw [List.length_take] at h1
        omega
      have HCNT := Lib.hid hcnt
      have HXQ := Lib.hid hxq
      have HQH := Lib.hid hqh
      clear hcnt hxq hqh
      have hbq : qh < wa.heap.size := lt_of_block HBXH.out
      obtain ⟨wo, hwo⟩ : ∃ x, x = wr := ⟨_, rfl⟩
      subst hwo
      go_loopw [6, 7, 8, 21] (fun n _ _ i wr => ∃ j : Nat, j ≤ L.length ∧ i = .int .i64 j ∧ n = .int .i64 ((L.take j).countP (fun x => near x xq) : Nat) ∧ Below wa.heap.size wa wr) (fun _ _ _ i _ => L.length - (intOf i).toNat)
      case atStart => exact ⟨0, Nat.zero_le _, rfl, by simp, Below.refl _ _⟩
      case round =>
        obtain ⟨j, hj, rfl, rfl, hB2⟩ := hrel
        by_cases hlt2 : j < L.length
        · have j1 : (j : Int) < (L.length : Int) := by omega
          have hcj := HCNT.out j
          have hlo : ∀ g, g < w.heap.size → wr.heap[g]? = w.heap[g]? := fun g hg => (hB2.block g (by have := HBW.out.size; omega)).trans (HBW.out.block g hg)
          obtain ⟨ad', he, _, hadl2, b0, b1, Y, cy, b2, _, _⟩ := (HAT.out.kept (w' := wr) (by have := HBW.out.size; have := hB2.size; omega) (fun g hg _ => hlo g hg)) j hlt2
          injection he with he
          subst he
          have HSTEP := Lib.hid (count_step hP hs hlt hlt2)
          rw [← HXQ.out] at HSTEP
          have HTK := Lib.hid (show (L.take (j + 1)).countP (fun x => near x xq) = (L.take j).countP (fun x => near x xq) + (near L[j] xq).toNat by
            rw [List.take_succ_eq_append_getElem hlt2, List.countP_append, List.countP_singleton]
            cases near L[j] xq <;> rfl)
          obtain ⟨wb, hwb⟩ : ∃ x, x = wr.alloc (.cells #[.int .u64 L[j].1, .int .u64 L[j].2.1, .slice Y L[j].2.2.length cy] 36) := ⟨_, rfl⟩
          have hbb : Below wr.heap.size wr wb := by rw [hwb]; exact (Below.refl _ _).alloc (Nat.le_refl _) _
          have hbx : wb.heap[wr.heap.size]? = some (.cells #[.int .u64 L[j].1, .int .u64 L[j].2.1, .slice Y L[j].2.2.length cy] 36 (0, 0)) := by rw [hwb]; exact heap_alloc_new wr _
          have hb2b : Below wa.heap.size wa wb := hB2.trans (hbb.mono hB2.size)
          have HB2B := Lib.hid hb2b
          have HCELL : Hid (∀ W, Below wb.heap.size wb W → (W.cell? ⟨qh, 0, none⟩ = some (.int .u64 xq.1) ∧ W.cell? ⟨qh, 1, none⟩ = some (.int .u64 xq.2.1) ∧ W.cell? ⟨qh, 2, none⟩ = some (.slice X xq.2.2.length cx)) ∧ W.cell? ⟨wr.heap.size, 0, none⟩ = some (.int .u64 L[j].1) ∧ W.cell? ⟨wr.heap.size, 1, none⟩ = some (.int .u64 L[j].2.1) ∧ W.cell? ⟨wr.heap.size, 2, none⟩ = some (.slice Y L[j].2.2.length cy)) := fun W hW => by
            have e1 := (hW.block _ (lt_of_block hbx)).trans hbx
            have e2 := (hW.block qh (by have := hb2b.size; omega)).trans ((hb2b.block qh hbq).trans HBXH.out)
            exact ⟨⟨three_cell0 e2, three_cell1 e2, three_cell2 e2⟩, three_cell0 e1, three_cell1 e1, three_cell2 e1⟩
          have HN1 : Hid (Calls Try.prog 21 #[.agg #[.int .u64 L[j].1, .int .u64 L[j].2.1, .slice Y L[j].2.2.length cy], .agg #[.int .u64 xq.1, .int .u64 xq.2.1, .slice X xq.2.2.length cx]] wb fun e w' => e = .returned (.bool (near L[j] xq)) ∧ Below wb.heap.size wb w') := refNearer_any _ _ _ _ _ _ _ _ _ _ wb
          have HN2 : Hid (∀ W, Below wb.heap.size wb W → Calls Try.prog 21 #[.agg #[.int .u64 xq.1, .int .u64 xq.2.1, .slice X xq.2.2.length cx], .agg #[.int .u64 L[j].1, .int .u64 L[j].2.1, .slice Y L[j].2.2.length cy]] W fun e w' => e = .returned (.bool (near xq L[j])) ∧ Below wb.heap.size wb w') := fun W hW => (refNearer_any _ _ _ _ _ _ _ _ _ _ W).mono fun _ _ ⟨he, hb⟩ => ⟨he, hW.trans (hb.mono hW.size)⟩
          have hqr : qh < wr.heap.size := by have := hB2.size; omega
          have hqn : ¬ wr.heap.size = qh := by omega
          have hxr := (hB2.block qh hbq).trans HBXH.out
          have x0 := three_cell0 hxr
          have x1 := three_cell1 hxr
          have x2 := three_cell2 hxr
          clear hxr
          have HWB := Lib.hid hwb
          clear hbb hbx hb2b hlo hB2 hwb
          generalize (L.take j).countP (fun x => near x xq) = cj at *
          generalize hn1 : near L[j] xq = n1 at *
          generalize hn2 : near xq L[j] = n2 at *
          generalize L[j].1 = ki at *
          generalize L[j].2.1 = kd at *
          generalize L[j].2.2.length = kl at *
          generalize xq.1 = xi at *
          generalize xq.2.1 = xd at *
          generalize xq.2.2.length = xl at *
          clear hn1 hn2
          go_wp2_with fail
          rw [← HWB.out]
          clear b0 b1 b2 x0 x1 x2
          refine (HN1.out).mono ?_
          rintro e w7 ⟨rfl, hb7⟩
          have hb7w : Below wa.heap.size wa w7 := HB2B.out.trans (hb7.mono HB2B.out.size)
          cases n1 with
          | true =>
            go_wp2_with fail
            go_roundw
            case rel => exact ⟨j + 1, by omega, by go_num, by rw [HTK.out]; go_num, hb7w⟩
            case measure => simp [intOf]; omega
          | false =>
            obtain ⟨⟨p0, p1, p2⟩, q0, q1, q2⟩ := HCELL.out w7 hb7
            have HN3 := Lib.hid (HN2.out w7 hb7)
            clear hb7 hb7w
            go_wp2_with fail
            refine (HN3.out).mono ?_
            rintro e w8 ⟨rfl, hb8⟩
            have HB8 : Hid (Below wa.heap.size wa w8) := HB2B.out.trans (hb8.mono HB2B.out.size)
            clear hb8
            cases n2 with
            | true =>
              go_wp2_with fail
              go_roundw
              case rel => exact ⟨j + 1, by omega, by go_num, by rw [HTK.out]; go_num, HB8.out⟩
              case measure => simp [intOf]; omega
            | false =>
              have hjk : ¬ (j : Int) < (k : Int) := by
                have h1 := HSTEP.out
                simp at h1
                omega
              go_wp2_with fail
              go_roundw
              case rel => exact ⟨j + 1, by omega, by go_num, by rw [HTK.out]; go_num, HB8.out⟩
              case measure => simp [intOf]; omega
        · obtain rfl : j = L.length := by omega
          have j1 : ¬ ((L.length : Int) < (L.length : Int)) := by omega
          have HC := Lib.hid (show (L.take L.length).countP (fun x => near x xq) = L.countP (fun x => near x xq) by rw [List.take_of_length_le (Nat.le_refl _)])
          have hxr := (hB2.block qh hbq).trans HBXH.out
          have x0 := three_cell0 hxr
          have x1 := three_cell1 hxr
          have x2 := three_cell2 hxr
          obtain ⟨cs, hown, hpc⟩ := HROW.out
          have hbow : Below wo.heap.size wo wr := HBA.out.trans (hB2.mono HBA.out.size)
          have hown2 := own_below hown hbow
          have hpc2 := hpc.kept hbow.size (fun g hg _ => hbow.block g hg)
          obtain ⟨n, hn⟩ : ∃ n, n = L.countP (fun x => near x xq) := ⟨_, rfl⟩
          have hpn : ∃ hn' : n < T.length, T[n] = xq := by
            obtain ⟨hp', hpe⟩ := count_perm hP hs hlt
            have hn2 : L.countP (fun x => near x L[k]) = n := by rw [hn, HXQ.out]
            have h9 : ∀ q (hq : q < T.length), q = n → T[q] = L[k] → ∃ hn' : n < T.length, T[n] = L[k] := fun q hq e h => by subst e; exact ⟨hq, h⟩
            obtain ⟨a1, a2⟩ := h9 _ hp' hn2 hpe
            exact ⟨a1, a2.trans HXQ.out.symm⟩
          obtain ⟨hn', hTn⟩ := hpn
          have hnl : n < L.length := by rw [HTL.out]; exact hn'
          have hrow : Row (fun g => g < w.heap.size ∧ S g) wr X (i32s xq.2.2) := HRX.out.below hbow
          have hput := hpc2.put hs hn' (X := X) (c := cx) (by rw [hTn]; exact hcx) (by rw [hTn]; exact hrow)
          rw [hTn] at hput
          have hcl := hown2.1
          have hcell : ∀ m, m < 3 → ∃ v, wr.cell? ⟨w.heap.size, n * 3 + m, none⟩ = some v := fun m hm => by
            have hlt3 : n * 3 + m < cs.length := by omega
            refine ⟨cs[n * 3 + m], ?_⟩
            have := hown2.cells (g := w.heap.size) rfl (n * 3 + m) cs[n * 3 + m] (by simp)
            rw [Addr.add_lit, Nat.zero_add] at this
            exact this
          obtain ⟨v0, k0⟩ := hcell 0 (by decide)
          obtain ⟨v1, k1⟩ := hcell 1 (by decide)
          obtain ⟨v2, k2⟩ := hcell 2 (by decide)
          rw [Nat.add_zero] at k0
          have hfz : ∀ m, wr.frozen? ⟨w.heap.size, m, none⟩ = false := fun m => by
            rcases hown2.2 with ⟨e, _⟩ | ⟨g, cap, cur, e, _, hh, _⟩
            · cases e
            · injection e with e _ _
              injection e with e
              injection e with e _ _
              subst e
              simp [World.frozen?, hh]
          have f0 := hfz (n * 3)
          have f1 := hfz (n * 3 + 1)
          have f2 := hfz (n * 3 + 2)
          have s1 := hown2.stored (n * 3) (.int .u64 xq.1)
          have s2 := s1.1.stored (n * 3 + 1) (.int .u64 xq.2.1)
          have s3 := s2.1.stored (n * 3 + 2) (.slice X xq.2.2.length cx)
          have hgr := (s1.2.trans s2.2).trans s3.2
          have hB3 : Below w.heap.size w wr := HBW.out.trans (hB2.mono HBW.out.size)
          have HB3 : Hid (Below w.heap.size w (((wr.setCell ⟨w.heap.size, n * 3, none⟩ (.int .u64 xq.1)).setCell ⟨w.heap.size, n * 3 + 1, none⟩ (.int .u64 xq.2.1)).setCell ⟨w.heap.size, n * 3 + 2, none⟩ (.slice X xq.2.2.length cx))) := ((hB3.setCell (Nat.le_refl _) _).setCell (Nat.le_refl _) _).setCell (Nat.le_refl _) _
          have HR3 : Hid (∃ cs, (((wr.setCell ⟨w.heap.size, n * 3, none⟩ (.int .u64 xq.1)).setCell ⟨w.heap.size, n * 3 + 1, none⟩ (.int .u64 xq.2.1)).setCell ⟨w.heap.size, n * 3 + 2, none⟩ (.slice X xq.2.2.length cx)).ownsRow w.heap.size 36 3 (.slice (some ⟨w.heap.size, 0, none⟩) L.length L.length) L.length cs ∧ PartC (fun g => g < w.heap.size ∧ S g) (((wr.setCell ⟨w.heap.size, n * 3, none⟩ (.int .u64 xq.1)).setCell ⟨w.heap.size, n * 3 + 1, none⟩ (.int .u64 xq.2.1)).setCell ⟨w.heap.size, n * 3 + 2, none⟩ (.slice X xq.2.2.length cx)) cs T (fun x => x ∈ L.take (k + 1))) := by
            refine ⟨_, s3.1, ?_⟩
            have h5 := hput.kept hgr.size (fun g hg sg => hgr.block g hg (fun e => by injection e with e; omega))
            refine ⟨h5.1, fun q x hx hd => h5.2 q x hx ?_⟩
            rw [List.take_succ_eq_append_getElem hlt, List.mem_append, List.mem_singleton] at hd
            rcases hd with hd | hd
            · exact .inl hd
            · exact .inr (hd.trans HXQ.out.symm)
          have inl : (n : Int) < (L.length : Int) := by omega
          have HN := Lib.hid (show (L.take L.length).countP (fun x => near x xq) = n by rw [HC.out, hn])
          clear hcell hfz s1 s2 s3 hgr hB3 hput hpc2 hpc hown hown2 hbow hxr hTn hn hn' hrow hB2 hcl
          rw [HN.out]
          generalize xq.1 = xi at *
          generalize xq.2.1 = xd at *
          generalize xq.2.2.length = xl at *
          go_wp2_with fail
          exact ⟨⟨k + 1, by omega, by go_num, HR3.out, HB3.out⟩, by simp [intOf]; omega⟩
    · have i1 : ¬ (k : Int) < (L.length : Int) := by omega
      have HF : Hid (HitsAt (fun g => S g ∨ w.heap.size ≤ g) wr (some ⟨w.heap.size, 0, none⟩) T) := by
        obtain ⟨cs, h1, h2⟩ := hrow
        obtain ⟨A', c', e, _, h3⟩ := Cells3.hitsAt (T := fun g => S g ∨ w.heap.size ≤ g) h1 (h2.all (fun x hx => by
          rw [List.take_of_length_le (by omega)]
          exact hP.mem_iff.2 hx)) HTL.out (fun g s => .inl s.2) (fun g s _ => .inr s)
        injection e with e _ _
        subst e
        exact h3
      clear hrow
      go_wp2_with fail
      go_ret
      exact ⟨_, _, rfl, Nat.le_refl _, HF.out, hB⟩

set_option maxHeartbeats 400000 in
theorem refHits_any (S : Nat → Prop) (B b most : Nat) (A : Option Addr) (c : Nat) (L T : List Hit) (w : World) (R : RL w S B b most A c L) (hP : L.Perm T) (hs : Srt T) (hL : L.length ≤ 999999) :
    Calls Try.prog 15 #[.pointer (some ⟨b, 0, none⟩)] w fun e w' => ∃ A' c', e = .returned (.slice A' T.length c') ∧ T.length ≤ c' ∧ HitsAt (fun g => S g ∨ w.heap.size ≤ g) w' A' T ∧ Below w.heap.size w w' := by
  have c1 := R.cells.2
  have HS := Lib.hid (sort_any S A c L T w R.hits.2 hP hs hL)
  rw [← hP.length_eq]
  clear R
  go_enter Try.func15, Try.ntmps15
  go_wp2_with fail
  refine (HS.out).mono ?_
  rintro e w' ⟨A', c', rfl, h1, h2, h3⟩
  go_wp2_with fail
  go_ret
  exact ⟨A', c', rfl, h1, h2, h3⟩

end Go.Proofs.Ytfhnhfppamnjhaa
