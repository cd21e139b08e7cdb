/-
  Rows of letters of a call's own; the contracts of ref01's Cut, Copy and Same, of Letters, of the law's back and of the document's Same.
-/
import Derived.Test.YtalifbajihkenaaNOpen
import Derived.Laws.BytesArg
import Derived.Laws.MakeOwn
namespace Go.Proofs.Ytalifbajihkenaa
open Go.RowKit Go.Maps
set_option linter.unusedSimpArgs false
set_option linter.unusedVariables false

def strOf (l : List Int) : ByteArray := ⟨(l.map fun (n : Int) => UInt8.ofNat n.toNat).toArray⟩
theorem run_strs {A : Option Addr} {l : List Int} {w : World} (c : Nat) (h : Row w A (bs l)) :
    (convert 35 9 (.slice A l.length c)).run Try.prog w = .ok (.string (strOf l)) w := by
  rw [run_convert_bytes_string w 35 9 5 A l.length c Try.underlying35 Try.underlying5 Try.underlying9]
  rcases A with _ | a
  · have hl : l = [] := by
      rcases Nat.eq_zero_or_pos l.length with h0 | h0
      · exact List.eq_nil_of_length_eq_zero h0
      · obtain ⟨ad, e, _⟩ := h 0 (by rw [bs_len]; exact h0)
        cases e
    subst hl
    simp [Conv.bytesToString, strOf]
    rfl
  · have hl := run_loadCells_list (P := Try.prog) w a (l.map (Value.int .u8)) (fun j v hj => by
      have hj' : j < (bs l).length := (List.getElem?_eq_some_iff.1 hj).1
      obtain ⟨ad, e, _, hc⟩ := h j hj'
      injection e with e
      subst e
      rw [hc]; exact hj)
    simp only [List.length_map] at hl
    rw [run_bytesToString w a l.length c l hl, foldl_push_bytes]
    simp [strOf, ByteArray.empty, ByteArray.emptyWithCapacity]
    rfl
theorem str_beq : ∀ (l m : List Int), Bytes8 l → Bytes8 m → ((strOf l).toList == (strOf m).toList) = (l == m) := by
  have h : ∀ l, (strOf l).toList = l.map fun (n : Int) => UInt8.ofNat n.toNat := fun l => by
    rw [ByteArray.toList_eq]
    simp [strOf]
  intro l m hl hm
  rw [h, h, Bool.eq_iff_iff, beq_iff_eq, beq_iff_eq]
  constructor
  · intro e
    induction l generalizing m with
    | nil => cases m with
      | nil => rfl
      | cons y m => simp at e
    | cons x l ih => cases m with
      | nil => simp at e
      | cons y m =>
        simp only [List.map_cons, List.cons.injEq] at e
        have hx := hl x (List.mem_cons_self ..)
        have hy := hm y (List.mem_cons_self ..)
        have e1 : x = y := by
          have := congrArg UInt8.toNat e.1
          simp only [UInt8.toNat_ofNat'] at this
          omega
        rw [e1, ih m (fun z hz => hl z (List.mem_cons_of_mem _ hz)) (fun z hz => hm z (List.mem_cons_of_mem _ hz)) e.2]
  · rintro rfl; rfl

set_option maxRecDepth 100000 in
set_option maxHeartbeats 400000 in
theorem rsame_any (A B : Option Addr) (c d : Nat) (l m : List Int) (w : World) (h1 : Row w A (bs l)) (h2 : Row w B (bs m)) (h8 : Bytes8 l) (k8 : Bytes8 m) :
    Calls Try.prog 23 #[.slice A l.length c, .slice B m.length d] w fun e w' => e = .returned (.bool (l == m)) ∧ w' = w := by
  have r1 := run_strs c h1
  have r2 := run_strs d h2
  have HE := Lib.hid (str_beq l m h8 k8)
  go_enter Try.func23, Try.ntmps23
  go_wp2
  go_ret
  exact ⟨by rw [← HE.out]; rfl, rfl⟩

theorem row_take {w : World} {A : Option Addr} {l : List Int} (h : Row w A (bs l)) (n : Nat) : Row w A (bs (l.take n)) := fun j hj => by
  rw [bs_len, List.length_take] at hj
  obtain ⟨ad, e, lt, c⟩ := h j (by rw [bs_len]; omega)
  refine ⟨ad, e, lt, ?_⟩
  rw [c, bs_at (by omega), bs_at (by rw [List.length_take]; omega)]
  simp
theorem news_row {w : World} {A : Option Addr} {l : List Int} (h : Row w A (bs l)) : ∀ j u, (bs l)[j]? = some u → ∃ ad, A = some ad ∧ w.cell? (ad.add j) = some u := fun j u hj => by
  have hjl : j < (bs l).length := (List.getElem?_eq_some_iff.1 hj).1
  obtain ⟨ad, e, _, hc⟩ := h j hjl
  exact ⟨ad, e, hc.trans hj⟩
/-- an own row of bytes, fresh behind a small block -/
theorem Fresh.of_own {w w' : World} {p : List Int} {A' : Option Addr} {c' : Nat} (hown : w'.ownsRow w.heap.size 5 1 (.slice A' p.length c') p.length (bs p)) (hgrow : (w.alloc (.cells #[] 5)).grownBy w' (some w.heap.size)) : Fresh w w' p A' c' := by
  obtain ⟨A2, c2, hv, hc2, hr2⟩ := Row.of_own hown
  injection hv with hv1 _ hv3
  subst hv1 hv3
  exact ⟨hc2, hr2, fun a e => own_lt hown (g := a.block) (by rw [e]; rfl), ((Below.refl _ _).alloc (Nat.le_refl _) _).grown hgrow (by simp) (fun k e => by injection e with e; omega)⟩

set_option maxRecDepth 100000 in
set_option maxHeartbeats 400000 in
theorem rcopy_any (A : Option Addr) (c : Nat) (l : List Int) (w : World) (hrow : Row w A (bs l)) (hl : l.length ≤ 70368744177664) :
    Calls Try.prog 20 #[.slice A l.length c] w fun e w' => ∃ A' c', e = .returned (.slice A' l.length c') ∧ Fresh w w' l A' c' := by
  have h0 : (w.alloc (.cells #[] 5)).ownsRow w.heap.size 5 1 (.slice (some ⟨w.heap.size, 0, none⟩) 0 0) 0 [] := World.ownsRow_lit w #[] 0 (Nat.le_refl _) (by decide) rfl
  have hrow1 : Row (w.alloc (.cells #[] 5)) A (bs l) := hrow.below ((Below.refl _ _).alloc (Nat.le_refl _) _)
  obtain ⟨n, hn⟩ : ∃ n, n = l.length := ⟨_, rfl⟩
  have hbl : (bs l).length = n * 1 := by rw [bs_len]; omega
  have HN : Hid (n = l.length) := hn
  have HF : Hid (∀ w' A' c', w'.ownsRow w.heap.size 5 1 (.slice A' n c') n (bs l) → (w.alloc (.cells #[] 5)).grownBy w' (some w.heap.size) → Fresh w w' l A' c') := fun w' A' c' h1 h2 => Fresh.of_own (by rw [← hn]; exact h1) h2
  rw [← hn] at hl ⊢
  clear hn
  go_enter Try.func20, Try.ntmps20
  go_wp2_with (at_builtin; refine wpList_append_el elem35 rfl (.tmp 3) (.tmp 4) rfl w.heap.size _ 0 [] rfl h0 A n c (bs l) rfl hbl (news_row hrow1) (bs_one l) (by unfold maxLen; omega) (by omega) (by simp) ?_; intro A' c' w' hown hgrow hat)
  go_ret
  rw [Nat.zero_add] at hown
  exact ⟨A', c', rfl, HF.out _ _ _ hown hgrow⟩

set_option maxRecDepth 100000 in
set_option maxHeartbeats 400000 in
theorem rcut_any (A : Option Addr) (c k : Nat) (l : List Int) (w : World) (hrow : Row w A (bs l)) (hc : l.length ≤ c) (hl : l.length ≤ 9223372036854775807) (hk : k ≤ 70368744177664) :
    Calls Try.prog 19 #[.slice A l.length c, .int .i64 (k : Int)] w fun e w' => ∃ A' c', e = .returned (.slice A' (l.take k).length c') ∧ Fresh w w' (l.take k) A' c' := by
  have h0 : (w.alloc (.cells #[] 5)).ownsRow w.heap.size 5 1 (.slice (some ⟨w.heap.size, 0, none⟩) 0 0) 0 [] := World.ownsRow_lit w #[] 0 (Nat.le_refl _) (by decide) rfl
  have hrow1 : Row (w.alloc (.cells #[] 5)) A (bs (l.take k)) := (row_take hrow k).below ((Below.refl _ _).alloc (Nat.le_refl _) _)
  have HF : Hid (∀ w' A' c' n, n = (l.take k).length → w'.ownsRow w.heap.size 5 1 (.slice A' n c') n (bs (l.take k)) → (w.alloc (.cells #[] 5)).grownBy w' (some w.heap.size) → (∃ A2 c2, Ending.returned (.slice A' n c') = .returned (.slice A2 (l.take k).length c2) ∧ Fresh w w' (l.take k) A2 c2)) := fun w' A' c' n e h1 h2 => by
    subst e
    exact ⟨A', c', rfl, Fresh.of_own h1 h2⟩
  have h1c := bs_one (l.take k)
  have hbl : (bs (l.take k)).length = min k l.length := by rw [bs_len, List.length_take]
  have hll : (l.take k).length = min k l.length := List.length_take
  by_cases h : l.length ≤ k
  · have hm : (bs (l.take k)).length = l.length * 1 := by omega
    have HE : Hid (l.length = (l.take k).length) := by show _ = _; omega
    clear hbl hll
    generalize bs (l.take k) = ys at *
    go_enter Try.func19, Try.ntmps19
    go_wp2_with (at_builtin; refine wpList_append_el elem35 rfl (.tmp 5) (.tmp 11) rfl w.heap.size _ 0 [] rfl h0 A l.length c ys rfl hm ?c2 h1c ?c3 ?c4 ?c5 ?_; rotate_right; intro A' c' w' hown hgrow hat)
    case c2 =>
      intro j u hj
      have hjl : j < ys.length := (List.getElem?_eq_some_iff.1 hj).1
      obtain ⟨ad, e, _, hc⟩ := hrow1 j hjl
      exact ⟨ad, e, hc.trans hj⟩
    case c3 => unfold maxLen; omega
    case c4 => omega
    case c5 => simp
    go_ret
    rw [Nat.zero_add] at hown
    exact HF.out _ _ _ _ HE.out hown hgrow
  · have hm : (bs (l.take k)).length = k * 1 := by omega
    have HE : Hid (k = (l.take k).length) := by show _ = _; omega
    clear hbl hll
    generalize bs (l.take k) = ys at *
    go_enter Try.func19, Try.ntmps19
    go_wp2_with (at_builtin; refine wpList_append_el elem35 rfl (.tmp 5) (.tmp 11) rfl w.heap.size _ 0 [] rfl h0 A k c ys rfl hm ?c2 h1c ?c3 ?c4 ?c5 ?_; rotate_right; intro A' c' w' hown hgrow hat)
    case c2 =>
      intro j u hj
      have hjl : j < ys.length := (List.getElem?_eq_some_iff.1 hj).1
      obtain ⟨ad, e, _, hc⟩ := hrow1 j hjl
      exact ⟨ad, e, hc.trans hj⟩
    case c3 => unfold maxLen; omega
    case c4 => omega
    case c5 => simp
    go_ret
    rw [Nat.zero_add] at hown
    exact HF.out _ _ _ _ HE.out hown hgrow

theorem row_kept {w w' : World} {A : Option Addr} {l : List Int} (h : Row w A (bs l)) (hs : w.heap.size ≤ w'.heap.size) (hk : ∀ ad, A = some ad → 0 < l.length → ad.block < w.heap.size → w'.heap[ad.block]? = w.heap[ad.block]?) : Row w' A (bs l) := by
  rcases Nat.eq_zero_or_pos l.length with h0 | h0
  · rw [List.eq_nil_of_length_eq_zero h0]; exact Row.nil
  · exact h.kept hs fun ad ea hl => hk ad ea h0 hl
theorem LetIn.at {w w' : World} {A : Option Addr} {ls : List L3} (h : LetIn w A ls) (hb : Below w.heap.size w w') (j : Nat) (hj : j < ls.length) : ∃ ad, A = some ad ∧ w'.cell? (ad.add (j * 3)) = some (.int .i64 (ls[j]'hj).1) ∧ w'.cell? ⟨(ad.add (j * 3)).block, (ad.add (j * 3)).off + 1, none⟩ = some (.int .i64 (ls[j]'hj).2.1) ∧
    ∃ (Y : Option Addr) (cy : Nat), w'.cell? ⟨(ad.add (j * 3)).block, (ad.add (j * 3)).off + 2, none⟩ = some (.slice Y (ls[j]'hj).2.2.length cy) ∧ (ls[j]'hj).2.2.length ≤ cy ∧ Row w' Y (bs (ls[j]'hj).2.2) ∧ ∀ a, Y = some a → 0 < (ls[j]'hj).2.2.length → a.block < w.heap.size := by
  obtain ⟨ad, e, lt, c0, c1, Y, cy, c2, h3, h4⟩ := h j hj
  have hbk : w'.heap[(ad.add (j * 3)).block]? = w.heap[(ad.add (j * 3)).block]? := by rw [block_add]; exact hb.block _ lt
  refine ⟨ad, e, (World.cell?_of_block hbk).trans c0, (World.cell?_of_block (a := ⟨(ad.add (j * 3)).block, (ad.add (j * 3)).off + 1, none⟩) hbk).trans c1, Y, cy,
    (World.cell?_of_block (a := ⟨(ad.add (j * 3)).block, (ad.add (j * 3)).off + 2, none⟩) hbk).trans c2, h3, h4.below hb, fun a ea h0 => ?_⟩
  obtain ⟨ad', e', hlt, _⟩ := h4 0 (by rw [bs_len]; exact h0)
  rw [ea] at e'
  injection e' with e'
  rw [e']; exact hlt

/-- the cells of letters; their bodies (those of z bytes or more) lie below the heap's end and in no block of X's -/
def LetC (z : Nat) (X : Nat → Prop) (w : World) (cs : List Value) (ls : List L3) : Prop :=
  ∀ j (hj : j < ls.length), cs[j * 3]? = some (.int .i64 (ls[j]'hj).1) ∧ cs[j * 3 + 1]? = some (.int .i64 (ls[j]'hj).2.1) ∧ ∃ (Y : Option Addr) (cy : Nat), cs[j * 3 + 2]? = some (.slice Y (ls[j]'hj).2.2.length cy) ∧ (ls[j]'hj).2.2.length ≤ cy ∧ Row w Y (bs (ls[j]'hj).2.2) ∧ ∀ a, Y = some a → z ≤ (ls[j]'hj).2.2.length → ¬ X a.block ∧ a.block < w.heap.size
theorem LetC.kept {z : Nat} {X Z : Nat → Prop} {w w' : World} {cs : List Value} {ls : List L3} (h : LetC z X w cs ls) (hz1 : z ≤ 1) (hs : w.heap.size ≤ w'.heap.size) (hk : ∀ g, g < w.heap.size → ¬ X g → w'.heap[g]? = w.heap[g]?) (hz : ∀ g, g < w.heap.size → Z g → X g) : LetC z Z w' cs ls := fun j hj => by
  obtain ⟨c0, c1, Y, cy, c2, k1, k2, k3⟩ := h j hj
  exact ⟨c0, c1, Y, cy, c2, k1, row_kept k2 hs fun a ea h0 hl => hk _ hl (k3 a ea (Nat.le_trans hz1 h0)).1, fun a ea h0 => ⟨fun e => (k3 a ea h0).1 (hz _ (k3 a ea h0).2 e), Nat.lt_of_lt_of_le (k3 a ea h0).2 hs⟩⟩
theorem LetC.snoc {z : Nat} {X : Nat → Prop} {w : World} {cs : List Value} {ls : List L3} (h : LetC z X w cs ls) (hl : cs.length = ls.length * 3) {f t : Int} {p : List Int} {Y : Option Addr} {cy : Nat} (k1 : p.length ≤ cy) (k2 : Row w Y (bs p)) (k3 : ∀ a, Y = some a → z ≤ p.length → ¬ X a.block ∧ a.block < w.heap.size) :
    LetC z X w (cs ++ [.int .i64 f, .int .i64 t, .slice Y p.length cy]) (ls ++ [(f, t, p)]) := fun j hj => by
  rcases Nat.lt_or_ge j ls.length with hjl | hjl
  · rw [List.getElem_append_left hjl]
    obtain ⟨c0, c1, Y', cy', c2, r⟩ := h j hjl
    refine ⟨?_, ?_, Y', cy', ?_, r⟩
    · rw [List.getElem?_append_left (by omega)]; exact c0
    · rw [List.getElem?_append_left (by omega)]; exact c1
    · rw [List.getElem?_append_left (by omega)]; exact c2
  · obtain rfl : j = ls.length := by simp at hj; omega
    rw [List.getElem_append_right (Nat.le_refl _)]
    simp only [Nat.sub_self, List.getElem_cons_zero]
    refine ⟨?_, ?_, Y, cy, ?_, k1, k2, k3⟩
    · rw [List.getElem?_append_right (by omega), hl, Nat.sub_self]; rfl
    · rw [List.getElem?_append_right (by omega), hl, show ls.length * 3 + 1 - ls.length * 3 = 1 by omega]; rfl
    · rw [List.getElem?_append_right (by omega), hl, show ls.length * 3 + 2 - ls.length * 3 = 2 by omega]; rfl
theorem LetIn.of_own {z : Nat} {X : Nat → Prop} {w : World} {base e n : Nat} {u : Value} {cs : List Value} {ls : List L3} (ho : w.ownsRow base e 3 u n cs) (hn : ls.length = n) (h : LetC z X w cs ls) : ∃ A c, u = .slice A n c ∧ n ≤ c ∧ LetIn w A ls := by
  subst hn
  rcases ho.2 with ⟨e1, e2⟩ | ⟨g, cap, cur, e1, hg, hh, hnc, _⟩
  · exact ⟨none, 0, by rw [e1, e2], by omega, fun j hj => by omega⟩
  · refine ⟨_, cap, e1, hnc, fun j hj => ?_⟩
    obtain ⟨c0, c1, Y, cy, c2, k1, k2, _⟩ := h j hj
    refine ⟨_, rfl, lt_of_block hh, ho.cells (by rw [e1]; rfl) _ _ c0, ?_, Y, cy, ?_, k1, k2⟩
    · have := ho.cells (g := g) (by rw [e1]; rfl) _ _ c1
      rw [lit_add] at this ⊢
      simpa [Nat.add_assoc] using this
    · have := ho.cells (g := g) (by rw [e1]; rfl) _ _ c2
      rw [lit_add] at this ⊢
      simpa [Nat.add_assoc] using this
/-- a row of letters of the call's own, and what is in none of their blocks -/
def OwnL (w : World) (base e : Nat) (u : Value) (ls : List L3) : Prop := ∃ cs, w.ownsRow base e 3 u ls.length cs ∧ LetC 1 (fun g => u.ownBlock = some g) w cs ls
theorem OwnL.nil (w : World) (base e : Nat) : OwnL w base e (.slice none 0 0) [] := ⟨[], World.ownsRow_nil w base e 3, fun j hj => by simp at hj⟩
theorem OwnL.below {w w' : World} {base e : Nat} {u : Value} {ls : List L3} (h : OwnL w base e u ls) (hb : Below w.heap.size w w') : OwnL w' base e u ls :=
  let ⟨cs, h1, h2⟩ := h; ⟨cs, own_below h1 hb, h2.kept (Nat.le_refl 1) hb.size (fun g hg _ => hb.block g hg) fun g _ z => z⟩
/-- behind an append -/
theorem OwnL.put {w w' : World} {base e : Nat} {u u' : Value} {ls : List L3} {cs : List Value} (h1 : w.ownsRow base e 3 u ls.length cs) (h2 : LetC 1 (fun g => u.ownBlock = some g) w cs ls) {f t : Int} {p : List Int} {Y : Option Addr} {cy : Nat} (k1 : p.length ≤ cy) (k2 : Row w Y (bs p)) (k3 : ∀ a, Y = some a → 1 ≤ p.length → ¬ u.ownBlock = some a.block ∧ a.block < w.heap.size)
    (ho : w'.ownsRow base e 3 u' (ls.length + 1) (cs ++ [.int .i64 f, .int .i64 t, .slice Y p.length cy])) (hg : w.grownBy w' u.ownBlock) (hu : u'.ownBlock = u.ownBlock ∨ u'.ownBlock = some w.heap.size) : OwnL w' base e u' (ls ++ [(f, t, p)]) := by
  refine ⟨_, by simpa using ho, ((h2.snoc h1.1 k1 k2 k3).kept (Nat.le_refl 1) hg.size (fun g hgl hn => hg.block g hgl (Ne.symm hn)) fun g hgl hz => ?_)⟩
  rcases hu with e | e
  · rw [← e]; exact hz
  · rw [e] at hz; injection hz with hz; omega
theorem OwnL.letIn {w : World} {base e : Nat} {u : Value} {ls : List L3} (h : OwnL w base e u ls) : ∃ A c, u = .slice A ls.length c ∧ ls.length ≤ c ∧ LetIn w A ls := let ⟨cs, h1, h2⟩ := h; LetIn.of_own h1 rfl h2

theorem Try.info40x : (Try.prog.info? 40).map (fun i => (i.zero, i.size, i.bytes)) = some (some (.agg #[.int .i64 0, .int .i64 0, .slice none 0 0]), 3, 40) := by kernel_rfl
theorem elem29 : Elem 29 40 3 40 := ⟨Try.underlying29, by obtain ⟨i0, hi, hz0, hz1, hz2⟩ := info_parts Try.info40x; exact ⟨i0, _, hi, hz0, hz1, hz2, rfl⟩, by decide⟩

theorem news_three' {w : World} {g : Nat} {x y z : Value} {t : TypeId} (h : w.heap[g]? = some (.cells #[x, y, z] t (0, 0))) : ∀ j u, [x, y, z][j]? = some u → ∃ ad, (some ⟨g, 0, none⟩ : Option Addr) = some ad ∧ w.cell? (ad.add j) = some u := fun j u hj => ⟨_, rfl, World.news_of_block (cs := #[x, y, z]) h j u hj⟩
theorem take_snoc {α : Type} (l : List α) (k : Nat) (h : k < l.length) : l.take (k + 1) = l.take k ++ [l[k]] := by simp

set_option maxRecDepth 100000 in
set_option maxHeartbeats 2000000 in
theorem back_any (A : Option Addr) (c : Nat) (ls : List L3) (w : World) (hat : LetIn w A ls) (hl : ls.length ≤ 100000) :
    Calls Try.prog 24 #[.slice A ls.length c] w fun e w' => (∃ A' c', e = .returned (.slice A' ls.length c') ∧ ls.length ≤ c' ∧ LetIn w' A' ls) ∧ Below w.heap.size w w' := by
  have HAT := Lib.hid hat
  obtain ⟨n, hn⟩ : ∃ n, n = ls.length := ⟨_, rfl⟩
  rw [← hn] at hl ⊢
  have HN : Hid (ls.length = n) := hn.symm
  clear hat hn
  go_enter Try.func24, Try.ntmps24
  go_wp2_with fail
  go_loopw [3, 8] (fun u i wr => ∃ k : Nat, k ≤ n ∧ i = .int .i64 k ∧ OwnL wr w.heap.size 40 u (ls.take k) ∧ Below w.heap.size w wr) (fun _ i _ => n - (intOf i).toNat)
  case atStart => exact ⟨0, Nat.zero_le _, rfl, OwnL.nil _ _ _, Below.refl _ _⟩
  case round =>
    obtain ⟨k, hk, rfl, ho, hb⟩ := hrel
    by_cases hlt : k < n
    · have hlt' : k < ls.length := by rw [HN.out]; exact hlt
      obtain ⟨ad, rfl, q0, q1, Y, cy, q2, q3, q4, q5⟩ := HAT.out.at hb k hlt'
      have HTK : Hid (ls.take (k + 1) = ls.take k ++ [ls[k]'hlt']) := take_snoc ls k hlt'
      have HTL : Hid ((ls.take k).length = k) := by show _ = _; rw [List.length_take]; omega
      generalize ls[k]'hlt' = l at *
      obtain ⟨f, t, p⟩ := l
      simp only at q0 q1 q2 q3 q4 q5
      obtain ⟨cs, ho1, ho2⟩ := ho
      rw [HTL.out] at ho1
      have i1 : (k : Int) < (n : Int) := by omega
      have i0 : (0 : Int) ≤ (k : Int) := by omega
      obtain ⟨w3, hw3⟩ : ∃ x, x = (wr.alloc (.cells #[.int .i64 f, .int .i64 t, .slice Y p.length cy] 37)).alloc (.cells #[.int .i64 f, .int .i64 t, .slice Y p.length cy] 40) := ⟨_, rfl⟩
      have hb3 : Below wr.heap.size wr w3 := by rw [hw3]; exact ((Below.refl _ _).alloc (Nat.le_refl _) _).alloc (by simp) _
      have hX : w3.heap[wr.heap.size + 1]? = some (.cells #[.int .i64 f, .int .i64 t, .slice Y p.length cy] 40 (0, 0)) := by rw [hw3]; exact new_at (by simp)
      have HW : Hid (∀ A' c' w', w'.ownsRow w.heap.size 40 3 (.slice A' (k + 1) c') (k + 1) (cs ++ [.int .i64 f, .int .i64 t, .slice Y p.length cy]) → w3.grownBy w' u3.ownBlock → ((Value.slice A' (k + 1) c').ownBlock = u3.ownBlock ∨ (Value.slice A' (k + 1) c').ownBlock = some w3.heap.size) → OwnL w' w.heap.size 40 (.slice A' (k + 1) c') (ls.take (k + 1)) ∧ Below w.heap.size w w') := fun A' c' w' k1 k2 k3 => by
        have hsz := hb3.size
        rw [HTK.out]
        refine ⟨OwnL.put (by rw [HTL.out]; exact own_below ho1 hb3) (ho2.kept (Nat.le_refl 1) hsz (fun g hg _ => hb3.block g hg) fun g _ z => z) q3 (q4.below hb3) (fun a ea h0 => ⟨fun z => ?_, ?_⟩) (by rw [HTL.out]; exact k1) k2 k3, (hb.trans (hb3.mono hb.size)).grown k2 (Nat.le_trans hb.size hsz) fun g e => (own_lt ho1 e).1⟩
        · have := (own_lt ho1 z).1; have := q5 a ea h0; omega
        · have := q5 a ea h0; have := hb.size; omega
      have HO := Lib.hid (own_below ho1 hb3)
      have HSZ : Hid (w.heap.size ≤ w3.heap.size) := Nat.le_trans hb.size hb3.size
      have HX := Lib.hid hX
      clear ho1 ho2 hb3 hX hb q3 q4 q5
      rw [hw3] at HO HX HW HSZ
      clear hw3
      go_wp2_with (at_builtin; refine wpList_append_el elem29 rfl (.tmp 12) (.tmp 14) rfl w.heap.size u3 k cs rfl HO.out _ 1 1 [.int .i64 f, .int .i64 t, .slice Y p.length cy] rfl rfl (news_three' HX.out) (by simp [Value.oneCell']) (by unfold maxLen; omega) (by omega) HSZ.out ?_; intro A7 c7 w7 ho7 hg7 hv7; have HS7 := Lib.hid (HW.out _ _ _ ho7 hg7 hv7); clear ho7 hg7 hv7)
      go_roundw
      case rel => exact ⟨k + 1, by omega, by go_num, HS7.out.1, HS7.out.2⟩
      case measure => simp [intOf]; omega
    · have i1 : ¬ (k : Int) < (n : Int) := by omega
      have hkn : k = n := by omega
      have HF : Hid (ls.take k = ls) := List.take_of_length_le (by rw [HN.out]; omega)
      rw [HF.out] at ho
      obtain ⟨A', c', rfl, r1, r2⟩ := ho.letIn
      rw [HN.out] at r1 ⊢
      have HR := Lib.hid r2
      clear r2
      go_wp2_with fail
      go_ret
      exact ⟨⟨A', c', rfl, r1, HR.out⟩, hb⟩

end Go.Proofs.Ytalifbajihkenaa
