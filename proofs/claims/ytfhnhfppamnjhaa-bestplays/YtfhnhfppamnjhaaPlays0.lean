/-
  Len and Worst; Lists that are nil; vectors that are written over.
-/
import Derived.Test.YtfhnhfppamnjhaaNilL
import Derived.Test.YtfhnhfppamnjhaaFreeV
namespace Go.Proofs.Ytfhnhfppamnjhaa
open Go.RowKit Go.Maps

set_option maxHeartbeats 400000 in
theorem refAdd_nil (u : Value) (i d : Int) (A : Option Addr) (n c : Nat) (w : World) (hu : u = .agg #[.int .u64 i, .int .u64 d, .slice A n c]) : Calls Try.prog 12 #[.pointer none, u] w fun e w' => e = .returned (.bool false) ∧ Below w.heap.size w w' := by
  subst hu
  go_enter Try.func12, Try.ntmps12
  go_wp2_with fail
  go_ret
  exact ⟨rfl, (Below.refl _ _).alloc (Nat.le_refl _) _⟩
set_option maxHeartbeats 400000 in
theorem refHits_nil (w : World) : Calls Try.prog 15 #[.pointer none] w fun e w' => e = .returned (.slice none 0 0) ∧ w = w' := by
  go_enter Try.func15, Try.ntmps15
  go_wp2_with fail
  go_ret
  exact ⟨rfl, rfl⟩
set_option maxHeartbeats 400000 in
theorem len_nil (w : World) : Calls Try.prog 18 #[.pointer none] w fun e w' => e = .returned (.int .i64 0) ∧ w = w' := by
  go_enter Try.func18, Try.ntmps18
  go_wp2_with fail
  go_ret
  exact ⟨rfl, rfl⟩
set_option maxHeartbeats 400000 in
theorem len_any (B b mb n most : Nat) (v : Value) (hs : List Hit) (w : World) (L : Lst w B b mb n v most hs) : Calls Try.prog 18 #[.pointer (some ⟨b, 0, none⟩)] w fun e w' => e = .returned (.int .i64 (hs.length : Int)) ∧ w = w' := by
  obtain ⟨c0, c1, c2⟩ := L.cells
  obtain ⟨A, ca, rfl, _, _⟩ := L.hits
  clear L
  go_enter Try.func18, Try.ntmps18
  go_wp2_with fail
  go_ret
  exact ⟨rfl, rfl⟩
set_option maxHeartbeats 400000 in
theorem full_nil (w : World) : Calls Try.prog 19 #[.pointer none] w fun e w' => e = .returned (.bool false) ∧ Below w.heap.size w w' := by
  go_enter Try.func19, Try.ntmps19
  go_wp2_with fail
  go_quiet (fail)
  go_wp2_with fail
  go_ret
  exact ⟨rfl, ⟨rfl, rfl, rfl, Nat.le_refl _, fun _ _ => rfl⟩⟩

/-- What Worst answers where there is none. -/
def NoWorst (w : World) (e : Ending) (w' : World) : Prop := e = .returned (.tuple #[.agg #[.int .u64 0, .int .u64 0, .slice none 0 0], .bool false]) ∧ Below w.heap.size w w'
set_option maxHeartbeats 400000 in
theorem worst_nil (w : World) : Calls Try.prog 17 #[.pointer none] w fun e w' => NoWorst w e w' := by
  have HL : Hid (∀ W, Calls Try.prog 18 #[.pointer none] W fun e w' => e = .returned (.int .i64 0) ∧ W = w') := fun W => len_nil W
  go_enter Try.func17, Try.ntmps17
  go_wp2_with fail
  refine (HL.out _).mono ?_
  rintro e w' ⟨rfl, rfl⟩
  go_wp2_with fail
  exact bodyPost_ret (v := .tuple #[.agg #[.int .u64 0, .int .u64 0, .slice none 0 0], .bool false]) (by simp [results, Try.results17, go_sem]) rfl ⟨rfl, (Below.refl _ _).alloc (Nat.le_refl _) _⟩
set_option maxHeartbeats 400000 in
theorem worst_none (B b mb n most : Nat) (v : Value) (w : World) (L : Lst w B b mb n v most []) : Calls Try.prog 17 #[.pointer (some ⟨b, 0, none⟩)] w fun e w' => NoWorst w e w' := by
  obtain ⟨w1, hw1⟩ : ∃ x, x = w.alloc (.cells #[.int .u64 0, .int .u64 0, .slice none 0 0] 36) := ⟨_, rfl⟩
  have HL := Lib.hid (len_any B b mb n most v [] w1 (by rw [hw1]; exact L.below ((Below.refl _ _).alloc (Nat.le_refl _) _)))
  have HW := Lib.hid hw1
  simp only [List.length_nil, Int.natCast_zero] at HL
  clear L hw1
  go_enter Try.func17, Try.ntmps17
  go_wp2_with fail
  rw [← HW.out]
  refine (HL.out).mono ?_
  rintro e w' ⟨rfl, rfl⟩
  rw [HW.out]
  go_wp2_with fail
  exact bodyPost_ret (v := .tuple #[.agg #[.int .u64 0, .int .u64 0, .slice none 0 0], .bool false]) (by simp [results, Try.results17, go_sem]) rfl ⟨rfl, (Below.refl _ _).alloc (Nat.le_refl _) _⟩

set_option maxRecDepth 100000 in
set_option maxHeartbeats 1000000 in
theorem worst_some (B b mb n most : Nat) (v : Value) (hs : List Hit) (w : World) (L : Lst w B b mb n v most hs) (h0 : 0 < hs.length) (hl : hs.length ≤ 1000) (hw : ∀ x ∈ hs, Wf x) :
    Calls Try.prog 17 #[.pointer (some ⟨b, 0, none⟩)] w fun e w' => ∃ A c, e = .returned (.tuple #[.agg #[.int .u64 (hs[hs.length - 1]'(by omega)).1, .int .u64 (hs[hs.length - 1]'(by omega)).2.1, .slice A (hs[hs.length - 1]'(by omega)).2.2.length c], .bool true]) ∧ (hs[hs.length - 1]'(by omega)).2.2.length ≤ c ∧ Row (fun g => w.heap.size ≤ g) w' A (i32s (hs[hs.length - 1]'(by omega)).2.2) ∧ Below w.heap.size w w' := by
  obtain ⟨m, hm⟩ : ∃ m, hs.length = m + 1 := ⟨hs.length - 1, by omega⟩
  have hml : m < hs.length := by omega
  have hlast : ∀ (k : Nat) (hk : k < hs.length), k = m → hs[k] = hs[m] := fun k hk e => by subst e; rfl
  rw [hlast (hs.length - 1) (by omega) (by omega)]
  obtain ⟨w1, hw1⟩ : ∃ x, x = w.alloc (.cells #[.int .u64 0, .int .u64 0, .slice none 0 0] 36) := ⟨_, rfl⟩
  have hb1 : Below w.heap.size w w1 := by rw [hw1]; exact (Below.refl _ _).alloc (Nat.le_refl _) _
  have hs1 : w1.heap.size = w.heap.size + 1 := by rw [hw1]; simp
  have hbox : w1.heap[w.heap.size]? = some (.cells #[.int .u64 0, .int .u64 0, .slice none 0 0] 36 (0, 0)) := by rw [hw1]; exact heap_alloc_new w _
  have L1 := L.below hb1
  have hlen := len_any B b mb n most v hs w1 L1
  rw [hm] at hlen
  have HL := Lib.hid hlen
  obtain ⟨c0, c1, c2⟩ := L1.cells
  obtain ⟨A, ca, rfl, hca, hat0⟩ := L.hits
  have hat1 : HitsAt (fun g => g < w.heap.size) w A hs := hat0.mono fun g hg _ => hg
  have hat := hat1.below hb1
  obtain ⟨ad, rfl, hadw, hadl, a0, a1, X, cx, a2, _, hrow⟩ := hat m hml
  have hv := (hw _ (List.getElem_mem hml)).2.2
  rw [hm] at c1
  have HO : Hid (Calls Try.prog 28 #[.agg #[.int .u64 hs[m].1, .int .u64 hs[m].2.1, .slice X hs[m].2.2.length cx]] w1.drew fun e w' => ∃ A5 c5, e = .returned (.agg #[.int .u64 hs[m].1, .int .u64 hs[m].2.1, .slice A5 hs[m].2.2.length c5]) ∧ hs[m].2.2.length ≤ c5 ∧ Row (fun g => w1.heap.size ≤ g) w' A5 (i32s hs[m].2.2) ∧ Below w1.heap.size w1 w') := (own_any _ hs[m] X cx w1.drew hrow.drew hv).mono fun e w' ⟨A5, c5, e1, e2, e3, e4⟩ => ⟨A5, c5, e1, e2, e3, ((Below.refl _ _).drew).trans e4⟩
  have i1 : IntKind.i64.wrap ((m : Int) + 1 - 1) = (m : Int) := by rw [IntKind.wrap_i64]; omega
  have i1' : IntKind.i64.wrap (m : Int) = (m : Int) := by rw [IntKind.wrap_i64]; omega
  have i2 : (m : Int) < (m : Int) + 1 := by omega
  have i2' : (0 : Int) ≤ (m : Int) := by omega
  have i2'' : m < m + 1 := by omega
  have i3 : ((m : Int) + 1 == 0) = false := by simp; omega
  have hbl := L.lt.1
  have HB1 := Lib.hid hb1
  have HBOX := Lib.hid hbox
  have HW := Lib.hid hw1
  clear L L1 hat hat0 hat1 hrow hw hlen hb1 hbox hw1 hlast
  generalize hs[m].1 = xi at *
  generalize hs[m].2.1 = xd at *
  generalize hs[m].2.2 = xv at *
  go_enter Try.func17, Try.ntmps17
  go_wp2_with fail
  rw [← HW.out]
  refine (HL.out).mono ?_
  rintro e w' ⟨rfl, rfl⟩
  clear HL
  go_wp2_with fail
  have hblb : b < w1.heap.size := by omega
  have hadb : (ad.add (m * 3)).block < w1.heap.size := by rw [block_add]; exact hadl
  have hadn : (ad.add (m * 3)).block ≠ w.heap.size := by rw [block_add]; omega
  have hbn : b ≠ w.heap.size := by omega
  have KEEP : Hid (∀ (W : World) (x y z : Value) (a : Addr), a.block ≠ w.heap.size → (((W.setCell ⟨w.heap.size, 0, none⟩ x).setCell ⟨w.heap.size, 1, none⟩ y).setCell ⟨w.heap.size, 2, none⟩ z).cell? a = W.cell? a) := fun W x y z a ha => by
    rw [World.cell?_setCell_far _ _ _ _ (fun e => ha e.symm), World.cell?_setCell_far _ _ _ _ (fun e => ha e.symm), World.cell?_setCell_far _ _ _ _ (fun e => ha e.symm)]
  go_region_held3 (fun w' => w'.cell? ⟨b, 1, none⟩ = some (.slice (some ad) (m + 1) ca) ∧ w'.cell? (ad.add (m * 3)) = some (.int .u64 xi) ∧ w'.cell? ⟨(ad.add (m * 3)).block, (ad.add (m * 3)).off + 1, none⟩ = some (.int .u64 xd) ∧ w'.cell? ⟨(ad.add (m * 3)).block, (ad.add (m * 3)).off + 2, none⟩ = some (.slice X xv.length cx)) (first | exact ⟨c1, a0, a1, a2⟩ | exact hS6 | exact hS7)
    (first
      | (go_at_call 28; refine (HO.out).mono ?_; rintro e w5 ⟨A5, c5, rfl, hc5, hr5, hb5⟩; have hS6 := (⟨(hb5.cell (p := ⟨b, 1, none⟩) hblb).trans c1, (hb5.cell (p := ad.add (m * 3)) hadb).trans a0, (hb5.cell (p := ⟨(ad.add (m * 3)).block, (ad.add (m * 3)).off + 1, none⟩) hadb).trans a1, (hb5.cell (p := ⟨(ad.add (m * 3)).block, (ad.add (m * 3)).off + 2, none⟩) hadb).trans a2⟩ : _ ∧ _ ∧ _ ∧ _); have hS7 := (⟨(KEEP.out w5 (.int .u64 xi) (.int .u64 xd) (.slice A5 xv.length c5) ⟨b, 1, none⟩ hbn).trans hS6.1, (KEEP.out w5 (.int .u64 xi) (.int .u64 xd) (.slice A5 xv.length c5) (ad.add (m * 3)) hadn).trans hS6.2.1, (KEEP.out w5 (.int .u64 xi) (.int .u64 xd) (.slice A5 xv.length c5) ⟨(ad.add (m * 3)).block, (ad.add (m * 3)).off + 1, none⟩ hadn).trans hS6.2.2.1, (KEEP.out w5 (.int .u64 xi) (.int .u64 xd) (.slice A5 xv.length c5) ⟨(ad.add (m * 3)).block, (ad.add (m * 3)).off + 2, none⟩ hadn).trans hS6.2.2.2⟩ : _ ∧ _ ∧ _ ∧ _); have hbx := (hb5.block w.heap.size (by omega)).trans HBOX.out; have y0 := three_cell0 hbx; have y1 := three_cell1 hbx; have y2 := three_cell2 hbx; have p0 := three_free (k := 0) hbx; have p1 := three_free (k := 1) hbx; have p2 := three_free (k := 2) hbx)
      | fail)
  obtain ⟨w9, hw9⟩ : ∃ x, x = ((w5.setCell ⟨w.heap.size, 0, none⟩ (.int .u64 xi)).setCell ⟨w.heap.size, 1, none⟩ (.int .u64 xd)).setCell ⟨w.heap.size, 2, none⟩ (.slice A5 xv.length c5) := ⟨_, rfl⟩
  have hY9 : w9.heap[w.heap.size]? = some (.cells #[.int .u64 xi, .int .u64 xd, .slice A5 xv.length c5] 36 (0, 0)) := by rw [hw9]; exact three_set2 (three_set1 (three_set0 hbx))
  have z0 := three_cell0 hY9
  have z1 := three_cell1 hY9
  have z2 := three_cell2 hY9
  have HF : Hid (xv.length ≤ c5 ∧ Row (fun g => w.heap.size ≤ g) w9 A5 (i32s xv) ∧ Below w.heap.size w w9) := by
    refine ⟨hc5, ?_, ?_⟩
    · rw [hw9]
      exact (hr5.kept (by simp only [set_size]; exact Nat.le_refl _) fun g _ s => by rw [Below.heap_setCell _ _ _ _ (show g ≠ w.heap.size by omega), Below.heap_setCell _ _ _ _ (show g ≠ w.heap.size by omega), Below.heap_setCell _ _ _ _ (show g ≠ w.heap.size by omega)]).mono fun g _ s => by omega
    · rw [hw9]
      exact (((HB1.out.trans (hb5.mono (by omega))).setCell (Nat.le_refl _) _).setCell (Nat.le_refl _) _).setCell (Nat.le_refl _) _
  rw [← hw9]
  clear hS6 hS7 hbx y0 y1 y2 p0 p1 p2 hr5 hb5 hw9 hY9 c0 c1 c2 a0 a1 a2
  go_wp2_with fail
  exact bodyPost_ret (v := .tuple #[.agg #[.int .u64 xi, .int .u64 xd, .slice A5 xv.length c5], .bool true]) (by simp [results, Try.results17, go_sem, z0, z1, z2]) rfl ⟨A5, c5, rfl, HF.out.1, HF.out.2.1, HF.out.2.2⟩

end Go.Proofs.Ytfhnhfppamnjhaa
