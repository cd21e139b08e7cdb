/-
  The contract of put.
-/
import Derived.Test.YtfhnhfppamnjhaaPut0
import Derived.Deep.CutBlock
import Derived.Deep.DeepCutAuto
namespace Go.Proofs.Ytfhnhfppamnjhaa
open Go.RowKit Go.Maps

theorem Lst.drew {w : World} {B b mb n : Nat} {v : Value} {most : Nat} {hs : List Hit} (h : Lst w B b mb n v most hs) : Lst w.drew B b mb n v most hs := h.below ((Below.refl _ _).drew)

/-- The tail of put, as three worlds tell it: place, own and Insert; then the map. -/
structure Ready (w6 : World) (B b mb n most q : Nat) (v6 : Value) (l : List Hit) (h : Hit) (X : Option Addr) (c : Nat) (S : Nat → Prop) : Prop where
  L : Lst w6 B b mb n v6 most l
  box : w6.heap[q]? = some (.cells #[.int .u64 h.1, .int .u64 h.2.1, .slice X h.2.2.length c] 36 (0, 0))
  row : Row S w6 X (i32s h.2.2)
  order : l.Pairwise fun a b => near a b = true
  no : ∀ x ∈ l, x.1 ≠ h.1
  len : l.length ≤ 1000
  apart : v6.ownBlock ≠ some q
  hn : n ≤ 100000
  wf : (Lit.int .u64 h.1).wf = true ∧ (Lit.int .u64 h.2.1).wf = true ∧ h.2.2.length ≤ 1000

set_option maxRecDepth 100000 in
set_option maxHeartbeats 1000000 in
theorem put_any (S : Nat → Prop) (B b mb n most : Nat) (v : Value) (hs : List Hit) (h : Hit) (X : Option Addr) (c : Nat) (w : World) (L : Lst w B b mb n v most hs) (hg : Good most hs) (hm1 : 1 ≤ most) (hm : most ≤ 1000) (hn : n ≤ 100000) (hr : Row S w X (i32s h.2.2))
    (hS : ∀ g, g < w.heap.size → S g → g ≠ b ∧ g ≠ mb ∧ some g ≠ v.ownBlock) (hw : (Lit.int .u64 h.1).wf = true ∧ (Lit.int .u64 h.2.1).wf = true ∧ h.2.2.length ≤ 1000) :
    Calls Try.prog 25 #[.pointer (some ⟨b, 0, none⟩), .agg #[.int .u64 h.1, .int .u64 h.2.1, .slice X h.2.2.length c]] w fun e w' => PutGave B b mb n most v hs h w e w' := by
  have hlen := hg.len
  have hlB := L.lt
  obtain ⟨q, hq⟩ : ∃ q, q = w.heap.size := ⟨_, rfl⟩
  obtain ⟨w1, hw1⟩ : ∃ x, x = w.alloc (.cells #[.int .u64 h.1, .int .u64 h.2.1, .slice X h.2.2.length c] 36) := ⟨_, rfl⟩
  have hb1 : Below w.heap.size w w1 := by rw [hw1]; exact (Below.refl _ _).alloc (Nat.le_refl _) _
  have hq1 : w1.heap[q]? = some (.cells #[.int .u64 h.1, .int .u64 h.2.1, .slice X h.2.2.length c] 36 (0, 0)) := by rw [hw1, hq]; exact heap_alloc_new w _
  have L1 := L.below hb1
  have hr1 := hr.below hb1
  have hC1 : Chg w w1 b mb v v := Chg.of_below hb1 b mb v
  have hqv : ∀ g, v.ownBlock = some g → g < q := fun g e => by rw [hq]; exact (L.rowlt e).2
  have hbq : b < q ∧ mb < q := by rw [hq]; exact ⟨hlB.1, hlB.2.1⟩
  have hS1 : Row (fun g => g < q ∧ g ≠ b ∧ g ≠ mb ∧ some g ≠ v.ownBlock) w1 X (i32s h.2.2) := (hr.mono fun g hg s => (⟨by rw [hq]; exact hg, hS g hg s⟩ : g < q ∧ g ≠ b ∧ g ≠ mb ∧ some g ≠ v.ownBlock)).below hb1
  have hqs : q < w1.heap.size := lt_of_block hq1
  -- what a change of the List leaves of the hit
  have KEEP : Hid (∀ w6 v6 l, Lst w6 B b mb n v6 most l → Chg w1 w6 b mb v v6 → Good most l → (∀ x ∈ l, x.1 ≠ h.1) → Ready w6 B b mb n most q v6 l h X c (fun g => g < q ∧ g ≠ b ∧ g ≠ mb ∧ some g ≠ v.ownBlock)) := fun w6 v6 l L6 C6 G6 N6 =>
    ⟨L6, (C6.block q hqs (by omega) (by omega) (fun e => by have := hqv q e.symm; omega)).trans hq1, hS1.kept C6.size (fun g hg s => C6.block g hg s.2.1 s.2.2.1 s.2.2.2), G6.order, N6, by have := G6.len; omega, fun e => by
      rcases C6.new with e' | ⟨g, e', hg'⟩
      · have := hqv q (e'.symm.trans e); omega
      · rw [e] at e'; injection e' with e'; omega, hn, hw⟩
  obtain ⟨c0, c1, c2⟩ := L1.cells
  obtain ⟨D, hmap, hsay⟩ := L1.map
  have hd0 := three_cell0 hq1
  have hd1 := three_cell1 hq1
  have hd2 := three_cell2 hq1
  have HQ := Lib.hid hq
  have HW1 := Lib.hid hw1
  have HL1 := Lib.hid L1
  have HC1 := Lib.hid hC1
  have HR1 := Lib.hid hr1
  clear L hr hS hb1 hS1 hC1 hr1
  have hcases : ∃ dp th, (Instr.lookup 52 (.map (some mb)) (.int .u64 h.1) true).run Try.prog w1.drew = .ok (.tuple #[.int .u64 dp, .bool th]) w1.drew ∧
      ((th = true ∧ ∃ p, ∃ hp : p < hs.length, hs[p].1 = h.1 ∧ hs[p].2.1 = dp) ∨ (th = false ∧ ∀ x ∈ hs, x.1 ≠ h.1)) := by
    by_cases hthere : ∃ p, ∃ hp : p < hs.length, hs[p].1 = h.1
    · obtain ⟨p, hp, he⟩ := hthere
      have := look_there (hmap.drew) hsay hp (by rw [he]; exact hw.1)
      rw [he] at this
      exact ⟨_, _, this, .inl ⟨rfl, p, hp, he, rfl⟩⟩
    · have hno : ∀ x ∈ hs, x.1 ≠ h.1 := fun x hx e => by
        obtain ⟨p, hp, rfl⟩ := List.getElem_of_mem hx
        exact hthere ⟨p, hp, e⟩
      exact ⟨_, _, look_none (hmap.drew) hsay hno hw.1, .inr ⟨rfl, hno⟩⟩
  obtain ⟨dp, th, hlook, hcase⟩ := hcases
  have HCASE := Lib.hid hcase
  have HG := Lib.hid hg
  clear hmap hsay hq1 L1 hq hw1 hcase hg hqv
  go_enter Try.func25, Try.ntmps25
  go_wp2_with fail
  rw [← HW1.out, ← HQ.out]
  go_region
  clear hlook
  go_upto_block 0 with fail
  go_cut [] (fun wx => ∃ v6 l, Ready wx B b mb n most q v6 l h X c (fun g => g < q ∧ g ≠ b ∧ g ≠ mb ∧ some g ≠ v.ownBlock) ∧ base most hs h = some l ∧ Chg w wx b mb v v6)
  case first =>
    rcases HCASE.out with ⟨rfl, p, hp, he, hdp⟩ | ⟨rfl, hno⟩
    · have hg := HG.out
      have L1 := HL1.out
      have hfind := hg.find hp he
      by_cases hd : dp ≤ h.2.1
      · have HB := Lib.hid (show base most hs h = none by unfold base; rw [hfind]; simp [hdp, hd])
        clear hg L1 hfind hdp
        go_wp2_with fail
        go_ret
        refine ⟨v, by rw [HB.out]; rfl, by rw [HB.out]; exact ((HL1.out).wider (Nat.le_succ n)).drew, ?_⟩
        exact ⟨HC1.out.os, HC1.out.tape, HC1.out.output, HC1.out.size, HC1.out.block, .inl rfl⟩
      · have HB := Lib.hid (show base most hs h = some (hs.take p ++ hs.drop (p + 1)) by unfold base; rw [hfind, hg.filter hp, he]; simp [hdp, hd])
        have HPL := Lib.hid (show Calls Try.prog 30 #[.pointer (some ⟨b, 0, none⟩), .agg #[.int .u64 h.1, .int .u64 dp, .slice none 0 0]] w1.drew (fun e w' => ∃ k : Nat, e = .returned (.int .i64 k) ∧ Parts hs (h.1, dp, []) k ∧ Below w1.drew.heap.size w1.drew w') from place_any B b mb n most v hs (h.1, dp, []) none 0 w1.drew L1.drew hg.order (by omega))
        have HAT : Hid (∀ k, Parts hs (h.1, dp, []) k → k = p) := fun k hk => parts_at (h := (h.1, dp, [])) hg hp he.symm hdp.symm hk
        have HRM : Hid (∀ W, Below w1.heap.size w1 W → Calls Try.prog 29 #[.pointer (some ⟨b, 0, none⟩), .int .i64 (p : Int)] W fun e w' => e = .returned (.tuple #[]) ∧ ∃ v', Ready w' B b mb n most q v' (hs.take p ++ hs.drop (p + 1)) h X c (fun g => g < q ∧ g ≠ b ∧ g ≠ mb ∧ some g ≠ v.ownBlock) ∧ Chg w w' b mb v v') := fun W hW =>
          (remove_any B b mb n most p v hs W (L1.below hW) hg hp (by omega)).mono fun e w' ⟨e1, v', L', C'⟩ => ⟨e1, v', KEEP.out _ _ _ L' ((Chg.of_below hW b mb v).trans C') (hg.sub (by rw [hg.filter hp]; exact List.filter_sublist)) (by rw [hg.filter hp, he]; intro x hx; simpa using (List.mem_filter.1 hx).2), HC1.out.trans ((Chg.of_below hW b mb v).trans C')⟩
        clear hg L1 hfind hdp he
        go_wp2_with fail
        refine (HPL.out).mono ?_
        rintro e w5 ⟨k, rfl, hP5, hb5⟩
        obtain rfl := HAT.out k hP5
        go_wp2_with fail
        refine (HRM.out w5 ⟨hb5.os, hb5.tape, hb5.output, hb5.size, hb5.block⟩).mono ?_
        rintro e w6 ⟨rfl, v6, R6, hC6⟩
        go_wp2_with fail
        go_meet
        exact ⟨v6, _, R6, HB.out, hC6⟩
    · have hg := HG.out
      have L1 := HL1.out
      have hfind : hs.find? (fun x => x.1 == h.1) = none := List.find?_eq_none.2 fun x hx => by simpa using hno x hx
      have HFU := Lib.hid (full_any B b mb n most v hs w1.drew L1.drew hm (by omega))
      by_cases hfull : most ≤ hs.length
      · have hl1 : hs.length = most := by omega
        obtain ⟨m, hmm⟩ : ∃ m, hs.length = m + 1 := ⟨hs.length - 1, by omega⟩
        have hlast : hs.getLastD (0, 0, []) = hs[m]'(by omega) := by
          have hm' : hs.length - 1 = m := by omega
          rw [List.getLastD_eq_getLast?, List.getLast?_eq_getElem?, hm', List.getElem?_eq_getElem (by omega)]
          rfl
        rw [show decide (most ≤ hs.length) = true by simpa using hfull] at HFU
        obtain ⟨A1, ca1, hv1, hca1, hat1⟩ := L1.hits
        obtain ⟨ad, rfl, hj1, hadl, g0, g1, Y, cy, g2, hj2, hj3⟩ := hat1 m (by omega)
        clear hj1 hj2 hj3
        have HRM : Hid (∀ W, Below w1.heap.size w1 W → Calls Try.prog 29 #[.pointer (some ⟨b, 0, none⟩), .int .i64 (m : Int)] W fun e w' => e = .returned (.tuple #[]) ∧ ∃ v', Ready w' B b mb n most q v' (hs.take m ++ hs.drop (m + 1)) h X c (fun g => g < q ∧ g ≠ b ∧ g ≠ mb ∧ some g ≠ v.ownBlock) ∧ Chg w w' b mb v v') := fun W hW =>
          (remove_any B b mb n most m v hs W (L1.below hW) hg (by omega) (by omega)).mono fun e w' ⟨e1, v', L', C'⟩ => ⟨e1, v', KEEP.out _ _ _ L' ((Chg.of_below hW b mb v).trans C') (hg.sub (by rw [hg.filter (by omega)]; exact List.filter_sublist)) (by intro x hx; refine hno x ?_; rcases List.mem_append.1 hx with hx | hx; exact List.mem_of_mem_take hx; exact List.mem_of_mem_drop hx), HC1.out.trans ((Chg.of_below hW b mb v).trans C')⟩
        have hdrop : hs.take m ++ hs.drop (m + 1) = hs.dropLast := by rw [List.drop_eq_nil_of_le (by omega), List.append_nil, List.dropLast_eq_take, hmm]; rfl
        have HN : Hid (∀ W, Below w1.heap.size w1 W → Calls Try.prog 31 #[.agg #[.int .u64 h.1, .int .u64 h.2.1, .slice X h.2.2.length c], .agg #[.int .u64 (hs[m]'(by omega)).1, .int .u64 (hs[m]'(by omega)).2.1, .slice Y (hs[m]'(by omega)).2.2.length cy]] W fun e w' => e = .returned (.bool (near h (hs[m]'(by omega)))) ∧ Below w1.heap.size w1 w') := fun W hW =>
          (nearer_any _ _ _ _ _ _ _ _ _ _ W).mono fun _ _ ⟨he, hb⟩ => ⟨he, hW.trans (hb.mono hW.size)⟩
        have HBN : Hid (near h (hs[m]'(by omega)) = false → base most hs h = none) := fun e => by unfold base; rw [hfind, hlast]; simp [e]; omega
        have HBS : Hid (near h (hs[m]'(by omega)) = true → base most hs h = some (hs.take m ++ hs.drop (m + 1))) := fun e => by unfold base; rw [hfind, hlast, hdrop]; simp [e]; omega
        rw [hmm] at hv1
        have hlm : m < hs.length := by omega
        generalize near h (hs[m]'(by omega)) = nr at *
        generalize (hs[m]'(by omega)).1 = xi at *
        generalize (hs[m]'(by omega)).2.1 = xd at *
        generalize (hs[m]'(by omega)).2.2.length = xl at *
        have hm64 : (m : Int) ≤ 1000 := by omega
        have hmi : (m : Int) < (m : Int) + 1 := by omega
        clear hg L1 hfind hno hlast hdrop hat1 hmm hl1 hfull hlm
        subst hv1
        go_wp2_with fail
        refine (HFU.out).mono ?_
        rintro e w5 ⟨rfl, hb5⟩
        have hb5' : Below w1.heap.size w1 w5 := ⟨hb5.os, hb5.tape, hb5.output, hb5.size, hb5.block⟩
        have hbl1 := lt_of_cell c1
        have hql1 := lt_of_cell hd0
        have p0 := (hb5'.cell (p := ⟨b, 1, none⟩) hbl1).trans c1
        have p1 := (hb5'.cell (p := ad.add (m * 3)) (by rw [block_add]; exact hadl)).trans g0
        have p2 := (hb5'.cell (p := ⟨(ad.add (m * 3)).block, (ad.add (m * 3)).off + 1, none⟩) (by show (ad.add (m * 3)).block < _; rw [block_add]; exact hadl)).trans g1
        have p3 := (hb5'.cell (p := ⟨(ad.add (m * 3)).block, (ad.add (m * 3)).off + 2, none⟩) (by show (ad.add (m * 3)).block < _; rw [block_add]; exact hadl)).trans g2
        have p4 := (hb5'.cell (p := ⟨q, 0, none⟩) hql1).trans hd0
        have p5 := (hb5'.cell (p := ⟨q, 1, none⟩) hql1).trans hd1
        have p6 := (hb5'.cell (p := ⟨q, 2, none⟩) hql1).trans hd2
        have hb5d : Below w1.heap.size w1 w5.drew := hb5'.drew
        go_wp2_with fail
        go_region_held3 (fun w' => w'.cell? ⟨b, 1, none⟩ = some (.slice (some ad) (m + 1) ca1) ∧ w'.cell? (ad.add (m * 3)) = some (.int .u64 xi) ∧ w'.cell? ⟨(ad.add (m * 3)).block, (ad.add (m * 3)).off + 1, none⟩ = some (.int .u64 xd) ∧ w'.cell? ⟨(ad.add (m * 3)).block, (ad.add (m * 3)).off + 2, none⟩ = some (.slice Y xl cy) ∧ w'.cell? ⟨q, 0, none⟩ = some (.int .u64 h.1) ∧ w'.cell? ⟨q, 1, none⟩ = some (.int .u64 h.2.1) ∧ w'.cell? ⟨q, 2, none⟩ = some (.slice X h.2.2.length c)) (first | exact ⟨p0, p1, p2, p3, p4, p5, p6⟩ | exact hS6)
          (first | (go_at_call 31; refine (HN.out _ hb5d).mono ?_; rintro e w7 ⟨rfl, hb7⟩; have hS6 := (⟨(hb7.cell (p := ⟨b, 1, none⟩) hbl1).trans c1, (hb7.cell (p := ad.add (m * 3)) (by rw [block_add]; exact hadl)).trans g0, (hb7.cell (p := ⟨(ad.add (m * 3)).block, (ad.add (m * 3)).off + 1, none⟩) (by show (ad.add (m * 3)).block < _; rw [block_add]; exact hadl)).trans g1, (hb7.cell (p := ⟨(ad.add (m * 3)).block, (ad.add (m * 3)).off + 2, none⟩) (by show (ad.add (m * 3)).block < _; rw [block_add]; exact hadl)).trans g2, (hb7.cell (p := ⟨q, 0, none⟩) hql1).trans hd0, (hb7.cell (p := ⟨q, 1, none⟩) hql1).trans hd1, (hb7.cell (p := ⟨q, 2, none⟩) hql1).trans hd2⟩ : _ ∧ _ ∧ _ ∧ _ ∧ _ ∧ _ ∧ _)))
        cases nr with
        | false =>
          have HB := Lib.hid (HBN.out rfl)
          go_wp2_with fail
          go_ret
          refine ⟨_, by rw [HB.out]; rfl, by rw [HB.out]; exact (HL1.out.below hb7).wider (Nat.le_succ n), HC1.out.trans (Chg.of_below hb7 b mb _)⟩
        | true =>
          have HB := Lib.hid (HBS.out rfl)
          go_wp2_with fail
          refine (HRM.out w7 hb7).mono ?_
          rintro e w6 ⟨rfl, v6, R6, hC6⟩
          go_wp2_with fail
          go_meet
          exact ⟨v6, _, R6, HB.out, hC6⟩
      · have HB := Lib.hid (show base most hs h = some hs by unfold base; rw [hfind]; simp; omega)
        rw [show decide (most ≤ hs.length) = false by simpa using hfull] at HFU
        have hR := fun (W : World) (hW : Below w1.heap.size w1 W) => KEEP.out W v hs (L1.below hW) (Chg.of_below hW b mb v) hg hno
        have HRD := Lib.hid hR
        clear hR hg L1 hfind hno
        go_wp2_with fail
        refine (HFU.out).mono ?_
        rintro e w5 ⟨rfl, hb5⟩
        go_wp2_with fail
        go_meet
        have hb5' : Below w1.heap.size w1 w5 := ⟨hb5.os, hb5.tape, hb5.output, hb5.size, hb5.block⟩
        exact ⟨v, hs, HRD.out w5 hb5', HB.out, HC1.out.trans (Chg.of_below hb5' b mb v)⟩
  case rest =>
    obtain ⟨v6, l, R6, hbase, hC6⟩ := hcut
    have HB := Lib.hid hbase
    clear hbase HCASE HG
    generalize wc = w6 at *
    have hwf := R6.wf
    obtain ⟨m0, m1, m2⟩ := R6.L.cells
    have hbx := R6.box
    have x0 := three_cell0 hbx
    have x1 := three_cell1 hbx
    have x2 := three_cell2 hbx
    have hlt6 := R6.L.lt
    have hql6 : q < w6.heap.size := lt_of_block hbx
    obtain ⟨hne1, hne2, hne3⟩ := R6.L.ne
    obtain ⟨cs, hrow6, hcell6⟩ := R6.L.row
    obtain ⟨D6, hmap6, hsay6⟩ := R6.L.map
    obtain ⟨A6, ca6, hv6, hca6, _⟩ := R6.L.hits
    have HP := Lib.hid (place_any B b mb n most v6 l h X c w6.drew R6.L.drew R6.order R6.len)
    have HO : Hid (∀ W, Below w6.heap.size w6 W → Calls Try.prog 28 #[.agg #[.int .u64 h.1, .int .u64 h.2.1, .slice X h.2.2.length c]] W fun e w' => GaveHit W h e w') := fun W hW => own_any _ h X c W (R6.row.below hW) hwf.2.2
    have HI : Hid (∀ (W : World) (k c8 : Nat) (A8 : Option Addr), Below w6.heap.size w6 W → k ≤ l.length → Calls Try.prog 32 #[v6, .int .i64 (k : Int), .slice (some ⟨W.heap.size, 0, none⟩) 1 1] (W.alloc (.cells #[.int .u64 h.1, .int .u64 h.2.1, .slice A8 h.2.2.length c8] 36)) fun e w' => ∃ A9 c9, e = .returned (.slice A9 (l.length + 1) c9) ∧ w'.ownsRow B 36 3 (.slice A9 (l.length + 1) c9) (l.length + 1) (cs.take (k * 3) ++ [.int .u64 h.1, .int .u64 h.2.1, .slice A8 h.2.2.length c8] ++ cs.drop (k * 3)) ∧ (W.alloc (.cells #[.int .u64 h.1, .int .u64 h.2.1, .slice A8 h.2.2.length c8] 36)).grownBy w' v6.ownBlock ∧ ((Value.slice A9 (l.length + 1) c9).ownBlock = v6.ownBlock ∨ (Value.slice A9 (l.length + 1) c9).ownBlock = some (W.alloc (.cells #[.int .u64 h.1, .int .u64 h.2.1, .slice A8 h.2.2.length c8] 36)).heap.size)) := fun W k c8 A8 hW hk => by
      have hbW : Below w6.heap.size w6 (W.alloc (.cells #[.int .u64 h.1, .int .u64 h.2.1, .slice A8 h.2.2.length c8] 36)) := hW.alloc hW.size _
      refine (insert_any B v6 l.length k W.heap.size cs _ _ _ _ (own_below hrow6 hbW) (by have := hbW.size; omega) hk hcell6.oneCell (fun e => by have := (R6.L.rowlt e).2; have := hW.size; omega) (heap_alloc_new W _) (by simp [Value.oneCell']) R6.len).mono ?_
      rintro e w' ⟨v9, rfl, h1, h2, h3⟩
      obtain ⟨A9, c9, rfl⟩ := own_slice h1
      exact ⟨A9, c9, rfl, h1, h2, h3⟩
    have HFIN : Hid (∀ (w8 w9 w11 : World) (k c8 c9 : Nat) (A8 A9 : Option Addr), Parts l h k → Below w6.heap.size w6 w8 → h.2.2.length ≤ c8 → Row (fun g => w6.heap.size ≤ g) w8 A8 (i32s h.2.2) → w9.ownsRow B 36 3 (.slice A9 (l.length + 1) c9) (l.length + 1) (cs.take (k * 3) ++ [.int .u64 h.1, .int .u64 h.2.1, .slice A8 h.2.2.length c8] ++ cs.drop (k * 3)) → (w8.alloc (.cells #[.int .u64 h.1, .int .u64 h.2.1, .slice A8 h.2.2.length c8] 36)).grownBy w9 v6.ownBlock → ((Value.slice A9 (l.length + 1) c9).ownBlock = v6.ownBlock ∨ (Value.slice A9 (l.length + 1) c9).ownBlock = some (w8.alloc (.cells #[.int .u64 h.1, .int .u64 h.2.1, .slice A8 h.2.2.length c8] 36)).heap.size) → w11.ownsMap Try.prog 33 (plainElem Try.prog 33) mb (n + 1) (D6.put (.int .u64 h.1) (.lit (.int .u64 h.2.1))) → (w9.setCell ⟨b, 1, none⟩ (.slice A9 (l.length + 1) c9)).drew.mapTurned w11 mb → PutGave B b mb n most v hs h w (.returned (.bool true)) w11) := fun w8 w9 w11 k c8 c9 A8 A9 hP hb8 hc8 hr8 ho9 hgr9 hat9 hm11 hturn => by
      have := put_fin R6.L hC6 hP.1 hb8 hc8 hr8 hcell6 ho9 hgr9 hat9 hm11 hturn hmap6.isMap hsay6 R6.no
      rw [parts_ins hP] at this
      exact ⟨_, by rw [HB.out]; rfl, by rw [HB.out]; exact this.1, this.2⟩
    have HQ6 := Lib.hid R6.apart
    have HBLK := Lib.hid R6.L.blk
    have HBOX := Lib.hid R6.box
    have hnn := R6.hn
    have HM6 := Lib.hid hmap6
    have HNE := Lib.hid hne3
    clear R6 hC6 hcell6 hrow6 hmap6 hsay6 hbx HB HL1 HC1 HR1 HW1 HQ KEEP
    subst hv6
    go_upto_region 11 with fail
    go_cut [] (fun wx => ∃ (w8 w9 : World) (k c8 c9 : Nat) (A8 A9 : Option Addr), Parts l h k ∧ Below w6.heap.size w6 w8 ∧ h.2.2.length ≤ c8 ∧ Row (fun g => w6.heap.size ≤ g) w8 A8 (i32s h.2.2) ∧ w9.ownsRow B 36 3 (.slice A9 (l.length + 1) c9) (l.length + 1) (cs.take (k * 3) ++ [.int .u64 h.1, .int .u64 h.2.1, .slice A8 h.2.2.length c8] ++ cs.drop (k * 3)) ∧ (w8.alloc (.cells #[.int .u64 h.1, .int .u64 h.2.1, .slice A8 h.2.2.length c8] 36)).grownBy w9 (Value.slice A6 l.length ca6).ownBlock ∧ ((Value.slice A9 (l.length + 1) c9).ownBlock = (Value.slice A6 l.length ca6).ownBlock ∨ (Value.slice A9 (l.length + 1) c9).ownBlock = some (w8.alloc (.cells #[.int .u64 h.1, .int .u64 h.2.1, .slice A8 h.2.2.length c8] 36)).heap.size) ∧ wx = w9.setCell ⟨b, 1, none⟩ (.slice A9 (l.length + 1) c9))
    case first =>
      go_region_law (first
          | (go_simp; go_at_call 30; refine (HP.out).mono ?_; rintro e w7 ⟨k7, rfl, hP7, hb7'⟩;
             have hb7 : Below w6.heap.size w6 w7 := ⟨hb7'.os, hb7'.tape, hb7'.output, hb7'.size, hb7'.block⟩;
             have a0 := (hb7.cell (p := ⟨b, 1, none⟩) hlt6.1).trans m1; have a1 := (hb7.cell (p := ⟨q, 0, none⟩) hql6).trans x0; have a2 := (hb7.cell (p := ⟨q, 1, none⟩) hql6).trans x1; have a3 := (hb7.cell (p := ⟨q, 2, none⟩) hql6).trans x2)
          | (go_simp; go_at_call 28; refine (HO.out w7 hb7).mono ?_; rintro e w8 ⟨A8, c8, rfl, hc8, hr8, hb8'⟩;
             have hb8 : Below w6.heap.size w6 w8 := hb7.trans (hb8'.mono hb7.size);
             have d0 := (hb8.cell (p := ⟨b, 1, none⟩) hlt6.1).trans m1; have d1 := (hb8.cell (p := ⟨q, 0, none⟩) hql6).trans x0; have d2 := (hb8.cell (p := ⟨q, 1, none⟩) hql6).trans x1; have d3 := (hb8.cell (p := ⟨q, 2, none⟩) hql6).trans x2;
             have hba : Below w6.heap.size w6 (w8.alloc (.cells #[.int .u64 h.1, .int .u64 h.2.1, .slice A8 h.2.2.length c8] 36)) := hb8.alloc hb8.size _;
             have e0 := (hba.cell (p := ⟨b, 1, none⟩) hlt6.1).trans m1)
          | (go_simp; go_at_call 32; refine (HI.out w8 k7 c8 A8 hb8 hP7.1).mono ?_; rintro e w9 ⟨A9, c9, rfl, ho9, hgr9, hat9⟩;
             have hblk9 := (hgr9.block b (Nat.lt_of_lt_of_le hlt6.1 hba.size) (fun e => hne2 e.symm)).trans ((hba.block b hlt6.1).trans HBLK.out);
             have f0 := three_cell1 hblk9; have hf9 : w9.frozen? ⟨b, 1, none⟩ = false := three_free hblk9))
      all_goals (go_wp2_with fail; go_meet; exact ⟨w8, w9, k7, c8, c9, A8, A9, hP7, hb8, hc8, hr8.mono (fun g _ s => Nat.le_trans hb7.size s), ho9, hgr9, hat9, rfl⟩)
    case rest =>
      obtain ⟨w8, w9, k, c8, c9, A8, A9, hP, hb8, hc8, hr8, ho9, hgr9, hat9, rfl⟩ := hcut
      have hba : Below w6.heap.size w6 (w8.alloc (.cells #[.int .u64 h.1, .int .u64 h.2.1, .slice A8 h.2.2.length c8] 36)) := hb8.alloc hb8.size _
      have hblk9 := (hgr9.block b (Nat.lt_of_lt_of_le hlt6.1 hba.size) (fun e => hne2 e.symm)).trans ((hba.block b hlt6.1).trans HBLK.out)
      have hbox9 := (hgr9.block q (Nat.lt_of_lt_of_le hql6 hba.size) (fun e => HQ6.out e.symm)).trans ((hba.block q hql6).trans HBOX.out)
      have hm9 := ((HM6.out.kept (row := none) ⟨hba.os, hba.tape, hba.output, hba.size, fun i hi _ => hba.block i hi⟩ (by simp)).kept hgr9 (fun e => hne3 e.symm)).setCell (a := ⟨b, 1, none⟩) hne1.symm (.slice A9 (l.length + 1) c9)
      obtain ⟨w11, hrun, hown11, hturn⟩ := hm9.drew.store law33 Try.underlying52 (by unfold maxLen; omega) (keyOf_int_mk Try.underlying33 hwf.1) (plainElem_int Try.underlying33 hwf.2.1)
      have HF := Lib.hid (HFIN.out w8 w9 w11 k c8 c9 A8 A9 hP hb8 hc8 hr8 ho9 hgr9 hat9 hown11 hturn)
      have HR := Lib.hid hrun
      have hbox10 : (w9.setCell ⟨b, 1, none⟩ (.slice A9 (l.length + 1) c9)).heap[q]? = some (.cells #[.int .u64 h.1, .int .u64 h.2.1, .slice X h.2.2.length c] 36 (0, 0)) := by rw [Below.heap_setCell _ _ _ _ (show q ≠ b by omega)]; exact hbox9
      have y0 := three_cell0 hbox10
      have y1 := three_cell1 hbox10
      have y2 := three_cell2 (three_set1 (a := .slice A9 (l.length + 1) c9) hblk9)
      clear hrun hown11 hturn hm9 hbox9 hbox10 hblk9 hba hP hb8 hc8 hr8 ho9 hgr9 hat9 HFIN HI HO HP m0 m1 m2 x0 x1 x2 HBLK HBOX HM6 HQ6
      generalize w9.setCell ⟨b, 1, none⟩ (.slice A9 (l.length + 1) c9) = w10 at *
      go_wp2_with fail
      have hup := HR.out
      go_region
      all_goals (go_wp2_with fail; go_ret; exact HF.out)

end Go.Proofs.Ytfhnhfppamnjhaa
