/-
  A call on both graphs.
-/
import Derived.Test.YtdfmgfclcbeeiaaGTwo
namespace Go.Proofs.Ytdfmgfclcbeeiaa
open Go.RowKit Go.Maps Go.Sort
set_option linter.unusedSimpArgs false
set_option linter.unusedVariables false

theorem addN_len (N : List Int) (y : Int) : (addN N y).length ≤ N.length + 1 := by
  unfold addN
  split
  · omega
  · rw [putL_len]; omega
theorem addN_rise {N : List Int} (h : N.Pairwise (fun x y => x < y)) (y : Int) : (addN N y).Pairwise (fun x y => x < y) := by
  unfold addN
  split
  · exact h
  · rename_i hh
    exact putL_rise h (hasN_not.1 (by simpa using hh))

/-- the call's cell -/
def Bx (q : Nat) (d A C : Int) (W : World) : Prop := W.heap[q]? = some (.cells #[.int .u8 d, .int .u64 A, .int .u64 C] 34 (0, 0))
theorem Bx.cells {q : Nat} {d A C : Int} {W : World} (h : Bx q d A C W) : W.cell? ⟨q, 1, none⟩ = some (.int .u64 A) ∧ W.cell? ⟨q, 2, none⟩ = some (.int .u64 C) := by
  unfold Bx at h
  simp [World.cell?, h]
theorem Bx.tk {q : Nat} {d A C : Int} {W W' : World} {B : Nat} (h : Bx q d A C W) (k : TK B W W') : Bx q d A C W' := k.cells _ _ _ _ h (by decide) (by decide)

/-- both graphs, and the call -/
structure St (B b mb x q : Nat) (d A C : Int) (w W : World) (Ng : List Int) (f : Int → Int → Int) (L : Nat) (Nr : List Int) (E : List Edg) : Prop where
  g : GS W B b mb Ng f L
  r : RS W B x Nr E
  bx : Bx q d A C W
  low : B ≤ W.heap.size
  tk : TK B w W

/-- what do leaves -/
def DoG (w : World) (B b mb x L : Nat) (N : List Int) (E : List Edg) (e : Ending) (w' : World) : Prop :=
  e = .returned (.bool true) ∧ ∃ N' E', GS w' B b mb N' (fE E') (L + 2) ∧ RS w' B x N' E' ∧ GoodE N' E' ∧ N'.Pairwise (fun x y => x < y) ∧ N'.length ≤ N.length + 1 ∧ E'.length ≤ E.length + 1 ∧ (∀ z ∈ N', U64 z) ∧ TK B w w'

section
variable {w : World} {B b mb x L : Nat} {N : List Int} {E : List Edg} {A C d : Int}

set_option maxRecDepth 100000 in
set_option maxHeartbeats 4000000 in
theorem do_bind (hg : GS w B b mb N (fE E) L) (hr : RS w B x N E) (hG : GoodE N E) (hs : N.Pairwise (fun x y => x < y)) (hB : B ≤ w.heap.size) (hNl : N.length ≤ 900) (hEl : E.length ≤ 900) (hL : L ≤ 100000) (hA : U64 A) (hC : U64 C) (hU : ∀ z ∈ N, U64 z) (hd0 : 0 ≤ d) (hd1 : d < 256) (hd : d % 6 = 2) :
    Calls Try.prog 12 #[.pointer (some ⟨b, 0, none⟩), .pointer (some ⟨x, 0, none⟩), .agg #[.int .u8 d, .int .u64 A, .int .u64 C]] w (DoG w B b mb x L N E) := by
  obtain ⟨m, hm⟩ : ∃ m, m = d % 6 := ⟨_, rfl⟩
  have d1 : d.tmod 6 = m := by rw [hm, Int.tmod_eq_emod_of_nonneg hd0]
  have d2 : d % 6 = m := hm.symm
  rw [← hm] at hd
  clear hm
  obtain ⟨q, hq⟩ : ∃ q, q = w.heap.size := ⟨_, rfl⟩
  have hbb : Below w.heap.size w ((w.alloc (.cells #[.int .u8 d, .int .u64 A, .int .u64 C] 34)).drew) := ((Below.refl _ w).alloc (Nat.le_refl _) _).drew
  have HS0 : Hid (St B b mb x q d A C w ((w.alloc (.cells #[.int .u8 d, .int .u64 A, .int .u64 C] 34)).drew) N (fE E) L N E) :=
    ⟨hg.below hbb, hr.below hbb, by rw [hq]; exact heap_alloc_new w _, Nat.le_trans hB hbb.size, TK.of_below hbb hB⟩
  obtain ⟨r, hrr⟩ : ∃ r, r = bindR N E A C := ⟨_, rfl⟩
  have HC1 : Hid (∀ W Nr E1, St B b mb x q d A C w W N (fE E) L Nr E1 → Calls Try.prog 25 #[.pointer (some ⟨b, 0, none⟩), .int .u64 A, .int .u64 C] W fun e W' => e = .returned (.int .i64 r) ∧ St B b mb x q d A C w W' (N) (if bindR N E A C = 0 then both (fE E) A C 2 else fE E) (L + 2) Nr E1) := fun W Nr E1 h => by
    rw [hrr]
    refine (cbind_any h.g hA hC (by omega)).mono ?_
    rintro e W' ⟨rfl, h1, h2⟩
    exact ⟨rfl, h1, h.r.ck h2, h.bx.tk h2.tk, Nat.le_trans h.low h2.below.size, h.tk.trans h2.tk⟩
  have HD1 : Hid (∀ W Ng f L1, St B b mb x q d A C w W Ng f L1 N E → Calls Try.prog 29 #[.pointer (some ⟨x, 0, none⟩), .int .u64 A, .int .u64 C] W fun e W' => e = .returned (.int .i64 r) ∧ ∃ E', St B b mb x q d A C w W' Ng f L1 (N) E' ∧ GoodE (N) E' ∧ E'.length ≤ E.length + 1 ∧ fE E' = if bindR N E A C = 0 then both (fE E) A C 2 else fE E) := fun W Ng f L1 h => by
    rw [hrr]
    refine (dbind_any h.r hG h.low (by omega) (by omega)).mono ?_
    rintro e W' ⟨rfl, ⟨E', h1, h2, h3, h4⟩, h5⟩
    exact ⟨rfl, E', ⟨h.g.rkept h5, h1, h.bx.tk h5.tk, Nat.le_trans h.low h5.below.size, h.tk.trans h5.tk⟩, h2, h3, h4⟩
  have HEND : Hid (∀ W, (∃ E', St B b mb x q d A C w W (N) (if bindR N E A C = 0 then both (fE E) A C 2 else fE E) (L + 2) (N) E' ∧ GoodE (N) E' ∧ E'.length ≤ E.length + 1 ∧ fE E' = if bindR N E A C = 0 then both (fE E) A C 2 else fE E) → DoG w B b mb x L N E (.returned (.bool true)) W) := fun W ⟨E', h1, h2, h3, h4⟩ =>
    ⟨rfl, _, E', by rw [h4]; exact h1.g, h1.r, h2, hs, Nat.le_succ _, h3, hU, h1.tk⟩
  have b0 := HS0.out.bx.cells
  obtain ⟨b1, b2⟩ := b0
  have HQ : Hid (w.heap.size = q) := hq.symm
  clear hg hr hG hs hB hNl hEl hL hA hC hbb hrr hU
  subst hq
  subst hd
  go_enter Try.func12, Try.ntmps12
  go_wp2_with fail
  go_region_held3 (fun W => W.cell? ⟨w.heap.size, 1, none⟩ = some (.int .u64 A) ∧ W.cell? ⟨w.heap.size, 2, none⟩ = some (.int .u64 C)) (first | exact ⟨b1, b2⟩ | exact hS5 | exact hS7 | fail)
    (first
      | (go_at_call 25; refine Calls.mono (HC1.out _ _ _ HS0.out) ?_; rintro e w5 ⟨rfl, h5⟩; have hS5 := h5.bx.cells)
      | (go_at_call 29; refine Calls.mono (HD1.out _ _ _ _ h5) ?_; rintro e w7 ⟨rfl, h7⟩; have hS7 := Exists.elim h7 (fun _ k => k.1.bx.cells))
      | (go_at_call 29; refine Calls.mono (HD1.out _ _ _ _ HS0.out) ?_; rintro e w5 ⟨rfl, E6, h6, h6a, h6b, h6c⟩; have hS5 := h6.bx.cells)
      | (go_at_call 25; refine Calls.mono (HC1.out _ _ _ h6) ?_; rintro e w7 ⟨rfl, h7'⟩; have h7 := (⟨E6, h7', h6a, h6b, h6c⟩ : ∃ E', St B b mb x _ d A C w w7 (N) (if bindR N E A C = 0 then both (fE E) A C 2 else fE E) (L + 2) (N) E' ∧ GoodE (N) E' ∧ E'.length ≤ E.length + 1 ∧ fE E' = if bindR N E A C = 0 then both (fE E) A C 2 else fE E); have hS7 := h7'.bx.cells)
      | fail)
  all_goals
    have HF := Lib.hid (HEND.out _ h7)
    clear h7
    go_wp2_with fail
    go_ret
    exact HF.out

set_option maxRecDepth 100000 in
set_option maxHeartbeats 4000000 in
theorem do_link (hg : GS w B b mb N (fE E) L) (hr : RS w B x N E) (hG : GoodE N E) (hs : N.Pairwise (fun x y => x < y)) (hB : B ≤ w.heap.size) (hNl : N.length ≤ 900) (hEl : E.length ≤ 900) (hL : L ≤ 100000) (hA : U64 A) (hC : U64 C) (hU : ∀ z ∈ N, U64 z) (hd0 : 0 ≤ d) (hd1 : d < 256) (hd : d % 6 = 3 ∨ d % 6 = 4) :
    Calls Try.prog 12 #[.pointer (some ⟨b, 0, none⟩), .pointer (some ⟨x, 0, none⟩), .agg #[.int .u8 d, .int .u64 A, .int .u64 C]] w (DoG w B b mb x L N E) := by
  obtain ⟨m, hm⟩ : ∃ m, m = d % 6 := ⟨_, rfl⟩
  have d1 : d.tmod 6 = m := by rw [hm, Int.tmod_eq_emod_of_nonneg hd0]
  have d2 : d % 6 = m := hm.symm
  rw [← hm] at hd
  clear hm
  obtain ⟨q, hq⟩ : ∃ q, q = w.heap.size := ⟨_, rfl⟩
  have hbb : Below w.heap.size w ((w.alloc (.cells #[.int .u8 d, .int .u64 A, .int .u64 C] 34)).drew) := ((Below.refl _ w).alloc (Nat.le_refl _) _).drew
  have HS0 : Hid (St B b mb x q d A C w ((w.alloc (.cells #[.int .u8 d, .int .u64 A, .int .u64 C] 34)).drew) N (fE E) L N E) :=
    ⟨hg.below hbb, hr.below hbb, by rw [hq]; exact heap_alloc_new w _, Nat.le_trans hB hbb.size, TK.of_below hbb hB⟩
  obtain ⟨r, hrr⟩ : ∃ r, r = linkR N E A C := ⟨_, rfl⟩
  have HC1 : Hid (∀ W Nr E1, St B b mb x q d A C w W N (fE E) L Nr E1 → Calls Try.prog 27 #[.pointer (some ⟨b, 0, none⟩), .int .u64 A, .int .u64 C] W fun e W' => e = .returned (.int .i64 r) ∧ St B b mb x q d A C w W' (N) (if linkR N E A C = 0 then both (fE E) A C 1 else fE E) (L + 2) Nr E1) := fun W Nr E1 h => by
    rw [hrr]
    refine (clink_any h.g hA hC (by omega)).mono ?_
    rintro e W' ⟨rfl, h1, h2⟩
    exact ⟨rfl, h1, h.r.ck h2, h.bx.tk h2.tk, Nat.le_trans h.low h2.below.size, h.tk.trans h2.tk⟩
  have HD1 : Hid (∀ W Ng f L1, St B b mb x q d A C w W Ng f L1 N E → Calls Try.prog 30 #[.pointer (some ⟨x, 0, none⟩), .int .u64 A, .int .u64 C] W fun e W' => e = .returned (.int .i64 r) ∧ ∃ E', St B b mb x q d A C w W' Ng f L1 (N) E' ∧ GoodE (N) E' ∧ E'.length ≤ E.length + 1 ∧ fE E' = if linkR N E A C = 0 then both (fE E) A C 1 else fE E) := fun W Ng f L1 h => by
    rw [hrr]
    refine (dlink_any h.r hG h.low (by omega) (by omega)).mono ?_
    rintro e W' ⟨rfl, ⟨E', h1, h2, h3, h4⟩, h5⟩
    exact ⟨rfl, E', ⟨h.g.rkept h5, h1, h.bx.tk h5.tk, Nat.le_trans h.low h5.below.size, h.tk.trans h5.tk⟩, h2, h3, h4⟩
  have HEND : Hid (∀ W, (∃ E', St B b mb x q d A C w W (N) (if linkR N E A C = 0 then both (fE E) A C 1 else fE E) (L + 2) (N) E' ∧ GoodE (N) E' ∧ E'.length ≤ E.length + 1 ∧ fE E' = if linkR N E A C = 0 then both (fE E) A C 1 else fE E) → DoG w B b mb x L N E (.returned (.bool true)) W) := fun W ⟨E', h1, h2, h3, h4⟩ =>
    ⟨rfl, _, E', by rw [h4]; exact h1.g, h1.r, h2, hs, Nat.le_succ _, h3, hU, h1.tk⟩
  have b0 := HS0.out.bx.cells
  obtain ⟨b1, b2⟩ := b0
  have HQ : Hid (w.heap.size = q) := hq.symm
  clear hg hr hG hs hB hNl hEl hL hA hC hbb hrr hU
  subst hq
  rcases hd with rfl | rfl
  all_goals
    go_enter Try.func12, Try.ntmps12
    go_wp2_with fail
    go_region_held3 (fun W => W.cell? ⟨w.heap.size, 1, none⟩ = some (.int .u64 A) ∧ W.cell? ⟨w.heap.size, 2, none⟩ = some (.int .u64 C)) (first | exact ⟨b1, b2⟩ | exact hS5 | exact hS7 | fail)
      (first
        | (go_at_call 27; refine Calls.mono (HC1.out _ _ _ HS0.out) ?_; rintro e w5 ⟨rfl, h5⟩; have hS5 := h5.bx.cells)
        | (go_at_call 30; refine Calls.mono (HD1.out _ _ _ _ h5) ?_; rintro e w7 ⟨rfl, h7⟩; have hS7 := Exists.elim h7 (fun _ k => k.1.bx.cells))
        | (go_at_call 30; refine Calls.mono (HD1.out _ _ _ _ HS0.out) ?_; rintro e w5 ⟨rfl, E6, h6, h6a, h6b, h6c⟩; have hS5 := h6.bx.cells)
        | (go_at_call 27; refine Calls.mono (HC1.out _ _ _ h6) ?_; rintro e w7 ⟨rfl, h7'⟩; have h7 := (⟨E6, h7', h6a, h6b, h6c⟩ : ∃ E', St B b mb x _ d A C w w7 (N) (if linkR N E A C = 0 then both (fE E) A C 1 else fE E) (L + 2) (N) E' ∧ GoodE (N) E' ∧ E'.length ≤ E.length + 1 ∧ fE E' = if linkR N E A C = 0 then both (fE E) A C 1 else fE E); have hS7 := h7'.bx.cells)
        | fail)
    all_goals
      have HF := Lib.hid (HEND.out _ h7)
      clear h7
      go_wp2_with fail
      go_ret
      exact HF.out

set_option maxRecDepth 100000 in
set_option maxHeartbeats 4000000 in
theorem do_cut (hg : GS w B b mb N (fE E) L) (hr : RS w B x N E) (hG : GoodE N E) (hs : N.Pairwise (fun x y => x < y)) (hB : B ≤ w.heap.size) (hNl : N.length ≤ 900) (hEl : E.length ≤ 900) (hL : L ≤ 100000) (hA : U64 A) (hC : U64 C) (hU : ∀ z ∈ N, U64 z) (hd0 : 0 ≤ d) (hd1 : d < 256) (hd : d % 6 = 5) :
    Calls Try.prog 12 #[.pointer (some ⟨b, 0, none⟩), .pointer (some ⟨x, 0, none⟩), .agg #[.int .u8 d, .int .u64 A, .int .u64 C]] w (DoG w B b mb x L N E) := by
  obtain ⟨m, hm⟩ : ∃ m, m = d % 6 := ⟨_, rfl⟩
  have d1 : d.tmod 6 = m := by rw [hm, Int.tmod_eq_emod_of_nonneg hd0]
  have d2 : d % 6 = m := hm.symm
  rw [← hm] at hd
  clear hm
  obtain ⟨q, hq⟩ : ∃ q, q = w.heap.size := ⟨_, rfl⟩
  have hbb : Below w.heap.size w ((w.alloc (.cells #[.int .u8 d, .int .u64 A, .int .u64 C] 34)).drew) := ((Below.refl _ w).alloc (Nat.le_refl _) _).drew
  have HS0 : Hid (St B b mb x q d A C w ((w.alloc (.cells #[.int .u8 d, .int .u64 A, .int .u64 C] 34)).drew) N (fE E) L N E) :=
    ⟨hg.below hbb, hr.below hbb, by rw [hq]; exact heap_alloc_new w _, Nat.le_trans hB hbb.size, TK.of_below hbb hB⟩
  obtain ⟨r, hrr⟩ : ∃ r, r = cutR N E A C := ⟨_, rfl⟩
  have HC1 : Hid (∀ W Nr E1, St B b mb x q d A C w W N (fE E) L Nr E1 → Calls Try.prog 24 #[.pointer (some ⟨b, 0, none⟩), .int .u64 A, .int .u64 C] W fun e W' => e = .returned (.int .i64 r) ∧ St B b mb x q d A C w W' (N) (if cutR N E A C = 0 then both (fE E) A C 0 else fE E) (L + 2) Nr E1) := fun W Nr E1 h => by
    rw [hrr]
    refine (ccut_any h.g hA hC).mono ?_
    rintro e W' ⟨rfl, h1, h2⟩
    exact ⟨rfl, h1, h.r.ck h2, h.bx.tk h2.tk, Nat.le_trans h.low h2.below.size, h.tk.trans h2.tk⟩
  have HD1 : Hid (∀ W Ng f L1, St B b mb x q d A C w W Ng f L1 N E → Calls Try.prog 31 #[.pointer (some ⟨x, 0, none⟩), .int .u64 A, .int .u64 C] W fun e W' => e = .returned (.int .i64 r) ∧ ∃ E', St B b mb x q d A C w W' Ng f L1 (N) E' ∧ GoodE (N) E' ∧ E'.length ≤ E.length + 1 ∧ fE E' = if cutR N E A C = 0 then both (fE E) A C 0 else fE E) := fun W Ng f L1 h => by
    rw [hrr]
    refine (dcut_any h.r hG h.low (by omega) (by omega)).mono ?_
    rintro e W' ⟨rfl, ⟨E', h1, h2, h3, h4⟩, h5⟩
    exact ⟨rfl, E', ⟨h.g.rkept h5, h1, h.bx.tk h5.tk, Nat.le_trans h.low h5.below.size, h.tk.trans h5.tk⟩, h2, h3, h4⟩
  have HEND : Hid (∀ W, (∃ E', St B b mb x q d A C w W (N) (if cutR N E A C = 0 then both (fE E) A C 0 else fE E) (L + 2) (N) E' ∧ GoodE (N) E' ∧ E'.length ≤ E.length + 1 ∧ fE E' = if cutR N E A C = 0 then both (fE E) A C 0 else fE E) → DoG w B b mb x L N E (.returned (.bool true)) W) := fun W ⟨E', h1, h2, h3, h4⟩ =>
    ⟨rfl, _, E', by rw [h4]; exact h1.g, h1.r, h2, hs, Nat.le_succ _, h3, hU, h1.tk⟩
  have b0 := HS0.out.bx.cells
  obtain ⟨b1, b2⟩ := b0
  have HQ : Hid (w.heap.size = q) := hq.symm
  clear hg hr hG hs hB hNl hEl hL hA hC hbb hrr hU
  subst hq
  subst hd
  go_enter Try.func12, Try.ntmps12
  go_wp2_with fail
  go_region_held3 (fun W => W.cell? ⟨w.heap.size, 1, none⟩ = some (.int .u64 A) ∧ W.cell? ⟨w.heap.size, 2, none⟩ = some (.int .u64 C)) (first | exact ⟨b1, b2⟩ | exact hS5 | exact hS7 | fail)
    (first
      | (go_at_call 24; refine Calls.mono (HC1.out _ _ _ HS0.out) ?_; rintro e w5 ⟨rfl, h5⟩; have hS5 := h5.bx.cells)
      | (go_at_call 31; refine Calls.mono (HD1.out _ _ _ _ h5) ?_; rintro e w7 ⟨rfl, h7⟩; have hS7 := Exists.elim h7 (fun _ k => k.1.bx.cells))
      | (go_at_call 31; refine Calls.mono (HD1.out _ _ _ _ HS0.out) ?_; rintro e w5 ⟨rfl, E6, h6, h6a, h6b, h6c⟩; have hS5 := h6.bx.cells)
      | (go_at_call 24; refine Calls.mono (HC1.out _ _ _ h6) ?_; rintro e w7 ⟨rfl, h7'⟩; have h7 := (⟨E6, h7', h6a, h6b, h6c⟩ : ∃ E', St B b mb x _ d A C w w7 (N) (if cutR N E A C = 0 then both (fE E) A C 0 else fE E) (L + 2) (N) E' ∧ GoodE (N) E' ∧ E'.length ≤ E.length + 1 ∧ fE E' = if cutR N E A C = 0 then both (fE E) A C 0 else fE E); have hS7 := h7'.bx.cells)
      | fail)
  all_goals
    have HF := Lib.hid (HEND.out _ h7)
    clear h7
    go_wp2_with fail
    go_ret
    exact HF.out

set_option maxRecDepth 100000 in
set_option maxHeartbeats 4000000 in
theorem do_add (hg : GS w B b mb N (fE E) L) (hr : RS w B x N E) (hG : GoodE N E) (hs : N.Pairwise (fun x y => x < y)) (hB : B ≤ w.heap.size) (hNl : N.length ≤ 900) (hEl : E.length ≤ 900) (hL : L ≤ 100000) (hA : U64 A) (hC : U64 C) (hU : ∀ z ∈ N, U64 z) (hd0 : 0 ≤ d) (hd1 : d < 256) (hd : d % 6 = 0 ∨ d % 6 = 1) :
    Calls Try.prog 12 #[.pointer (some ⟨b, 0, none⟩), .pointer (some ⟨x, 0, none⟩), .agg #[.int .u8 d, .int .u64 A, .int .u64 C]] w (DoG w B b mb x L N E) := by
  obtain ⟨m, hm⟩ : ∃ m, m = d % 6 := ⟨_, rfl⟩
  have d1 : d.tmod 6 = m := by rw [hm, Int.tmod_eq_emod_of_nonneg hd0]
  have d2 : d % 6 = m := hm.symm
  rw [← hm] at hd
  clear hm
  obtain ⟨q, hq⟩ : ∃ q, q = w.heap.size := ⟨_, rfl⟩
  have hbb : Below w.heap.size w ((w.alloc (.cells #[.int .u8 d, .int .u64 A, .int .u64 C] 34)).drew) := ((Below.refl _ w).alloc (Nat.le_refl _) _).drew
  have HS0 : Hid (St B b mb x q d A C w ((w.alloc (.cells #[.int .u8 d, .int .u64 A, .int .u64 C] 34)).drew) N (fE E) L N E) :=
    ⟨hg.below hbb, hr.below hbb, by rw [hq]; exact heap_alloc_new w _, Nat.le_trans hB hbb.size, TK.of_below hbb hB⟩
  obtain ⟨r, hrr⟩ : ∃ r, r = addR N A := ⟨_, rfl⟩
  have HC1 : Hid (∀ W Nr E1, St B b mb x q d A C w W N (fE E) L Nr E1 → Calls Try.prog 26 #[.pointer (some ⟨b, 0, none⟩), .int .u64 A] W fun e W' => e = .returned (.int .i64 r) ∧ St B b mb x q d A C w W' (addN N A) (fE E) (L + 2) Nr E1) := fun W Nr E1 h => by
    rw [hrr]
    refine (cadd_any h.g hA (by omega)).mono ?_
    rintro e W' ⟨rfl, h1, h2⟩
    exact ⟨rfl, h1, h.r.ck h2, h.bx.tk h2.tk, Nat.le_trans h.low h2.below.size, h.tk.trans h2.tk⟩
  have HD1 : Hid (∀ W Ng f L1, St B b mb x q d A C w W Ng f L1 N E → Calls Try.prog 11 #[.pointer (some ⟨x, 0, none⟩), .int .u64 A] W fun e W' => e = .returned (.int .i64 r) ∧ ∃ E', St B b mb x q d A C w W' Ng f L1 (addN N A) E' ∧ GoodE (addN N A) E' ∧ E'.length ≤ E.length + 1 ∧ fE E' = fE E) := fun W Ng f L1 h => by
    rw [hrr]
    refine (dadd_any h.r hG h.low (by omega)).mono ?_
    rintro e W' ⟨rfl, ⟨E', h1, h2, h3, h4⟩, h5⟩
    exact ⟨rfl, E', ⟨h.g.rkept h5, h1, h.bx.tk h5.tk, Nat.le_trans h.low h5.below.size, h.tk.trans h5.tk⟩, h2, h3, h4⟩
  have HEND : Hid (∀ W, (∃ E', St B b mb x q d A C w W (addN N A) (fE E) (L + 2) (addN N A) E' ∧ GoodE (addN N A) E' ∧ E'.length ≤ E.length + 1 ∧ fE E' = fE E) → DoG w B b mb x L N E (.returned (.bool true)) W) := fun W ⟨E', h1, h2, h3, h4⟩ =>
    ⟨rfl, _, E', by rw [h4]; exact h1.g, h1.r, h2, addN_rise hs A, addN_len N A, h3, fun z hz => by unfold addN at hz; split at hz; exact hU z hz; rcases (putL_mem N A z).1 hz with rfl | hz; exact hA; exact hU z hz, h1.tk⟩
  have b0 := HS0.out.bx.cells
  obtain ⟨b1, b2⟩ := b0
  have HQ : Hid (w.heap.size = q) := hq.symm
  clear hg hr hG hs hB hNl hEl hL hA hC hbb hrr hU
  subst hq
  rcases hd with rfl | rfl
  all_goals
    go_enter Try.func12, Try.ntmps12
    go_wp2_with fail
    go_region_held3 (fun W => W.cell? ⟨w.heap.size, 1, none⟩ = some (.int .u64 A)) (first | exact b1 | exact hS5.1 | exact hS7.1 | fail)
      (first
        | (go_at_call 26; refine Calls.mono (HC1.out _ _ _ HS0.out) ?_; rintro e w5 ⟨rfl, h5⟩; have hS5 := h5.bx.cells)
        | (go_at_call 11; refine Calls.mono (HD1.out _ _ _ _ h5) ?_; rintro e w7 ⟨rfl, h7⟩; have hS7 := Exists.elim h7 (fun _ k => k.1.bx.cells))
        | (go_at_call 11; refine Calls.mono (HD1.out _ _ _ _ HS0.out) ?_; rintro e w5 ⟨rfl, E6, h6, h6a, h6b, h6c⟩; have hS5 := h6.bx.cells)
        | (go_at_call 26; refine Calls.mono (HC1.out _ _ _ h6) ?_; rintro e w7 ⟨rfl, h7'⟩; have h7 := (⟨E6, h7', h6a, h6b, h6c⟩ : ∃ E', St B b mb x _ d A C w w7 (addN N A) (fE E) (L + 2) (addN N A) E' ∧ GoodE (addN N A) E' ∧ E'.length ≤ E.length + 1 ∧ fE E' = fE E); have hS7 := h7'.bx.cells)
        | fail)
    all_goals
      have HF := Lib.hid (HEND.out _ h7)
      clear h7
      go_wp2_with fail
      go_ret
      exact HF.out

theorem do_any (hg : GS w B b mb N (fE E) L) (hr : RS w B x N E) (hG : GoodE N E) (hs : N.Pairwise (fun x y => x < y)) (hB : B ≤ w.heap.size) (hNl : N.length ≤ 900) (hEl : E.length ≤ 900) (hL : L ≤ 100000) (hA : U64 A) (hC : U64 C) (hU : ∀ z ∈ N, U64 z) (hd0 : 0 ≤ d) (hd1 : d < 256) :
    Calls Try.prog 12 #[.pointer (some ⟨b, 0, none⟩), .pointer (some ⟨x, 0, none⟩), .agg #[.int .u8 d, .int .u64 A, .int .u64 C]] w (DoG w B b mb x L N E) := by
  rcases (show d % 6 = 2 ∨ (d % 6 = 3 ∨ d % 6 = 4) ∨ d % 6 = 5 ∨ (d % 6 = 0 ∨ d % 6 = 1) by omega) with h | h | h | h
  · exact do_bind hg hr hG hs hB hNl hEl hL hA hC hU hd0 hd1 h
  · exact do_link hg hr hG hs hB hNl hEl hL hA hC hU hd0 hd1 h
  · exact do_cut hg hr hG hs hB hNl hEl hL hA hC hU hd0 hd1 h
  · exact do_add hg hr hG hs hB hNl hEl hL hA hC hU hd0 hd1 h
end

end Go.Proofs.Ytdfmgfclcbeeiaa
