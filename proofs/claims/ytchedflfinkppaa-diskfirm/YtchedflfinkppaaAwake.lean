/-
  The contract of awake: the document's example.
-/
import Derived.Test.YtchedflfinkppaaLv
namespace Go.Proofs.Ytchedflfinkppaa
open Go.RowKit Go.Maps Go.Sort Go.Shelf

abbrev sA : ByteArray := ⟨#[97]⟩
abbrev sB : ByteArray := ⟨#[98]⟩
theorem sA_name : IsName sA := ⟨by decide, by decide, fun j h => by
  have : j < 1 := h
  obtain rfl : j = 0 := by omega
  rfl⟩
theorem sB_name : IsName sB := ⟨by decide, by decide, fun j h => by
  have : j < 1 := h
  obtain rfl : j = 0 := by omega
  rfl⟩

theorem new_at {w : World} {o : Obj} {g : Nat} (h : w.heap.size = g) : (w.alloc o).heap[g]? = some o := by subst h; exact heap_alloc_new w o
theorem Row.of_cells {S : Nat → Prop} {w : World} {g : Nat} {cs : Array Value} {xs : List Value} {t : TypeId} {fr : Nat × Nat} (h : w.heap[g]? = some (.cells cs t fr)) (e : cs.toList = xs) (hS : S g) : Row S w (some ⟨g, 0, none⟩) xs := by
  subst e
  exact Row.of_block (xs := cs.toList) (by simpa using h) hS
/-- one text in a row -/
theorem TxtAt.one {S : Nat → Prop} {w : World} {g : Nat} {X : Option Addr} {c : Nat} {t : TypeId} {fr : Nat × Nat} {xs : List Int} (h : w.heap[g]? = some (.cells #[.slice X xs.length c] t fr)) (hc : xs.length ≤ c) (hS : S g) (hr : Row S w X (u8s xs)) : TxtAt S w (some ⟨g, 0, none⟩) [xs] := fun j hj => by
  obtain rfl : j = 0 := by simpa using hj
  exact ⟨_, X, c, rfl, hS, lt_of_block h, by simp [World.cell?, h, Addr.add], hc, hr⟩
theorem TxtAt.two {S : Nat → Prop} {w : World} {g : Nat} {X Y : Option Addr} {c d : Nat} {t : TypeId} {fr : Nat × Nat} {xs ys : List Int} (h : w.heap[g]? = some (.cells #[.slice X xs.length c, .slice Y ys.length d] t fr)) (hc : xs.length ≤ c) (hd : ys.length ≤ d) (hS : S g) (hr : Row S w X (u8s xs)) (hy : Row S w Y (u8s ys)) : TxtAt S w (some ⟨g, 0, none⟩) [xs, ys] := fun j hj => by
  have hj' : j < 2 := by simpa using hj
  rcases j with _ | _ | j
  · exact ⟨_, X, c, rfl, hS, lt_of_block h, by simp [World.cell?, h, Addr.add], hc, hr⟩
  · exact ⟨_, Y, d, rfl, hS, lt_of_block h, by simp [World.cell?, h, Addr.add], hd, hy⟩
  · omega
theorem Lv.notOf {w0 w : World} {b mb : Nat} {p : Pw} {room : Nat} {E : List Ent} (h : Lv w0 w b mb p room E) {g : Nat} (hg : w.heap.size ≤ g) : ¬ Of b mb E g := fun ho => by
  obtain ⟨D, hD⟩ := h.dsk
  have := hD.of_lt ho
  omega
theorem Lv.alloc {w0 w : World} {b mb : Nat} {p : Pw} {room : Nat} {E : List Ent} (h : Lv w0 w b mb p room E) (o : Obj) : Lv w0 (w.alloc o) b mb p room E := h.below ((Below.refl _ _).alloc (Nat.le_refl _) o)

theorem crash_one (x : List UInt8) (bs : List Int) (f : Nat) (keep : List Int) : crashA [(x, bs, f)] keep = [cr0 0 keep (x, bs, f)] := by
  have h : srtA [(x, bs, f)] = [x] := by simp [srtA]
  rw [crashA, h, List.length_singleton, crT_succ]
  simp [crT, cr1]
theorem fresh_down : Pw.fresh.spent.down = false := rfl
theorem fresh_spent : Pw.fresh.spent = Pw.fresh := rfl

set_option maxRecDepth 100000 in
set_option maxHeartbeats 1000000 in
theorem awake_any (w : World) : Calls Try.prog 10 #[] w fun e w' => e = .returned (.bool true) ∧ Below w.heap.size w w' := by
  go_enter Try.func10, Try.ntmps10
  go_wp2_with fail
  refine (new_lv w w 100 (Below.refl _ _) (by decide)).mono ?_
  rintro e w1 ⟨rfl, h1, _⟩
  obtain ⟨b, hb⟩ : ∃ b, b = w.heap.size + 1 := ⟨_, rfl⟩
  obtain ⟨mb, hmb⟩ : ∃ mb, mb = w.heap.size := ⟨_, rfl⟩
  have H1 : Hid (Lv w w1 b mb Pw.fresh 100 []) := by rw [hb, hmb]; exact h1
  rw [← hb]
  clear h1 hb hmb
  go_wp2_with fail
  obtain ⟨w2, hw2⟩ : ∃ x, x = ((w1.alloc (.cells #[.int .u8 1, .int .u8 2] 5)).alloc (.cells #[.int .u8 3] 5)).alloc (.cells #[.slice (some ⟨w1.heap.size, 0, none⟩) 2 2, .slice (some ⟨w1.heap.size + 1, 0, none⟩) 1 1] 41) := ⟨_, rfl⟩
  have hL2 : Lv w w2 b mb Pw.fresh 100 [] := by rw [hw2]; exact ((H1.out.alloc _).alloc _).alloc _
  have hT2 : TxtAt (fun g => ¬ Of b mb [] g) w2 (some ⟨w1.heap.size + 2, 0, none⟩) [[1, 2], [3]] := by
    rw [hw2]
    refine .two (new_at (by simp)) (Nat.le_refl _) (Nat.le_refl _) (H1.out.notOf (by omega)) ?_ ?_
    · exact ((Row.of_cells (new_at rfl) rfl (H1.out.notOf (Nat.le_refl _))).alloc _).alloc _
    · exact (Row.of_cells (new_at (by simp)) rfl (H1.out.notOf (by omega))).alloc _
  rw [← hw2]
  clear hw2
  refine (wnew_lv w w2 b mb Pw.fresh 100 [] sA (some ⟨w1.heap.size + 2, 0, none⟩) 2 [[1, 2], [3]] hL2 rfl sA_name hT2 (by decide) (by decide) (by simp [abs]) (by decide) (by decide)).mono ?_
  rintro e w3 ⟨rfl, E3, hL3, _, hA3⟩
  have H3 : Hid (Lv w w3 b mb Pw.fresh 100 E3) := hL3
  have HA3 : Hid (abs E3 = [([97], [1, 2, 3], 0)]) := hA3
  clear hL2 hT2 hL3 hA3
  go_wp2_with fail
  obtain ⟨w4, hw4⟩ : ∃ x, x = w3.alloc (.cells #[.string sA] 9) := ⟨_, rfl⟩
  have hL4 : Lv w w4 b mb Pw.fresh 100 E3 := by rw [hw4]; exact H3.out.alloc _
  have hT4 : Row (fun g => ¬ Of b mb E3 g) w4 (some ⟨w3.heap.size, 0, none⟩) (strs [sA]) := by
    rw [hw4]
    exact Row.of_cells (new_at rfl) rfl (H3.out.notOf (Nat.le_refl _))
  rw [← hw4]
  clear hw4
  refine (firm_lv w w4 b mb Pw.fresh 100 E3 (some ⟨w3.heap.size, 0, none⟩) 1 [sA] hL4 rfl hT4 (by decide) (fun s hs => ?_) (fun s hs => ?_)).mono ?_
  · rw [List.mem_singleton.1 hs]
    exact name_max sA_name
  · rw [List.mem_singleton.1 hs, HA3.out]
    exact ⟨_, List.mem_cons_self, rfl⟩
  rintro e w5 ⟨rfl, E5, hL5, _, hA5⟩
  have H5 : Hid (Lv w w5 b mb Pw.fresh 100 E5) := hL5
  have HA5 : Hid (abs E5 = [([97], [1, 2, 3], 3)]) := by
    show _ = _
    rw [hA5, HA3.out]
    rfl
  clear hL4 hT4 hL5 hA5
  go_wp2_with fail
  obtain ⟨w6, hw6⟩ : ∃ x, x = (w5.alloc (.cells #[.int .u8 4, .int .u8 5] 5)).alloc (.cells #[.slice (some ⟨w5.heap.size, 0, none⟩) 2 2] 41) := ⟨_, rfl⟩
  have hL6 : Lv w w6 b mb Pw.fresh 100 E5 := by rw [hw6]; exact (H5.out.alloc _).alloc _
  have hT6 : TxtAt (fun g => ¬ Of b mb E5 g) w6 (some ⟨w5.heap.size + 1, 0, none⟩) [[4, 5]] := by
    rw [hw6]
    exact .one (new_at (by simp)) (Nat.le_refl _) (H5.out.notOf (by omega)) ((Row.of_cells (new_at rfl) rfl (H5.out.notOf (Nat.le_refl _))).alloc _)
  rw [← hw6]
  clear hw6
  refine (wadd_lv w w6 b mb Pw.fresh 100 E5 sA (some ⟨w5.heap.size + 1, 0, none⟩) 1 [[4, 5]] ([97], [1, 2, 3], 3) hL6 rfl sA_name hT6 (by decide) (by decide) (by rw [HA5.out]; exact List.mem_cons_self) rfl (by rw [HA5.out]; decide)).mono ?_
  rintro e w7 ⟨rfl, E7, hL7, _, hA7⟩
  have H7 : Hid (Lv w w7 b mb Pw.fresh 100 E7) := hL7
  have HA7 : Hid (abs E7 = [([97], [1, 2, 3, 4, 5], 3)]) := by
    show _ = _
    rw [hA7, HA5.out]
    rfl
  clear hL6 hT6 hL7 hA7
  go_wp2_with fail
  obtain ⟨w8, hw8⟩ : ∃ x, x = w7.alloc (.cells #[.int .i64 1] 3) := ⟨_, rfl⟩
  have hL8 : Lv w w8 b mb Pw.fresh 100 E7 := by rw [hw8]; exact H7.out.alloc _
  have hT8 : Row (fun g => ¬ Of b mb E7 g) w8 (some ⟨w7.heap.size, 0, none⟩) (i64s [1]) := by
    rw [hw8]
    exact Row.of_cells (new_at rfl) rfl (H7.out.notOf (Nat.le_refl _))
  rw [← hw8]
  clear hw8
  refine (crash_lv w w8 b mb Pw.fresh 100 E7 (some ⟨w7.heap.size, 0, none⟩) 1 [1] hL8 hT8 (by decide)).mono ?_
  rintro e w9 ⟨rfl, E9, hL9, _, hA9⟩
  have H9 := Lib.hid hL9
  have HA9 : Hid (abs E9 = [([97], [1, 2, 3, 4], 4)]) := by
    show _ = _
    rw [hA9, HA7.out, crash_one]
    rfl
  clear hL8 hT8 hL9 hA9
  go_wp2_with fail
  refine (read_lv w w9 b mb Pw.fresh 100 E9 sA ([97], [1, 2, 3, 4], 4) H9.out rfl (name_max sA_name) (by rw [HA9.out]; exact List.mem_cons_self) rfl).mono ?_
  rintro e w10 ⟨A10, c10, rfl, hc10, hr10, hb10⟩
  have HR10 := Lib.hid hr10
  have HB10 : Hid (Below w.heap.size w w10) := H9.out.bel.trans (hb10.mono H9.out.bel.size)
  clear hr10 hb10
  go_wp2_with fail
  refine (same_any _ _ A10 (some ⟨w10.heap.size, 0, none⟩) c10 4 [1, 2, 3, 4] [1, 2, 3, 4] (w10.alloc (.cells #[.int .u8 1, .int .u8 2, .int .u8 3, .int .u8 4] 5)) (HR10.out.alloc _) (Row.of_cells (S := fun _ => True) (new_at rfl) rfl trivial) (by simp [Bytes8]) (by simp [Bytes8])).mono ?_
  rintro e w11 ⟨rfl, rfl⟩
  go_wp2_with fail
  go_ret
  exact ⟨rfl, HB10.out.alloc HB10.out.size _⟩

end Go.Proofs.Ytchedflfinkppaa
