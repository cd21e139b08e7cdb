/-
  A List in memory of whose vectors more is known: where they lie (K); the contracts of remove, put and Add once more.
-/
import Derived.Test.YtfhnhfppamnjhaaHits
import Derived.Deep.CutBlock
import Derived.Deep.DeepCutAuto
namespace Go.Proofs.Ytfhnhfppamnjhaa
open Go.RowKit Go.Maps
variable {K : Nat → Prop}

structure LstK (K : Nat → Prop) (w : World) (B b mb n : Nat) (v : Value) (most : Nat) (hs : List Hit) : Prop where
  blk : w.heap[b]? = some (.cells #[.int .i64 most, v, .map (some mb)] 54 (0, 0))
  row : ∃ cs, w.ownsRow B 36 3 v hs.length cs ∧ Cells3 (fun g => K g ∧ g ≠ b ∧ g ≠ mb ∧ some g ≠ v.ownBlock) w cs hs
  map : ∃ D : DataW Unit, w.ownsMap Try.prog 33 (plainElem Try.prog 33) mb n D ∧ Says D hs
  lob : B ≤ b
  lom : B ≤ mb
  up : ∀ g, w.heap.size ≤ g → K g
  lo : ∀ g, K g → B ≤ g

theorem LstK.toLst {w : World} {B b mb n : Nat} {v : Value} {most : Nat} {hs : List Hit} (h : LstK K w B b mb n v most hs) : Lst w B b mb n v most hs := by
  obtain ⟨cs, h1, h2⟩ := h.row
  exact ⟨h.blk, ⟨cs, h1, h2.kept (Nat.le_refl _) fun g _ s => ⟨rfl, h.lo g s.1, s.2⟩⟩, h.map, h.lob, h.lom⟩
theorem LstK.ne {w : World} {B b mb n : Nat} {v : Value} {most : Nat} {hs : List Hit} (h : LstK K w B b mb n v most hs) : b ≠ mb ∧ v.ownBlock ≠ some b ∧ v.ownBlock ≠ some mb := h.toLst.ne
theorem LstK.lt {w : World} {B b mb n : Nat} {v : Value} {most : Nat} {hs : List Hit} (h : LstK K w B b mb n v most hs) : b < w.heap.size ∧ mb < w.heap.size ∧ B ≤ w.heap.size := h.toLst.lt
theorem LstK.rowlt {w : World} {B b mb n g : Nat} {v : Value} {most : Nat} {hs : List Hit} (h : LstK K w B b mb n v most hs) (hv : v.ownBlock = some g) : B ≤ g ∧ g < w.heap.size := h.toLst.rowlt hv
theorem LstK.cells {w : World} {B b mb n : Nat} {v : Value} {most : Nat} {hs : List Hit} (h : LstK K w B b mb n v most hs) : w.cell? ⟨b, 0, none⟩ = some (.int .i64 most) ∧ w.cell? ⟨b, 1, none⟩ = some v ∧ w.cell? ⟨b, 2, none⟩ = some (.map (some mb)) := h.toLst.cells
theorem LstK.hits {w : World} {B b mb n : Nat} {v : Value} {most : Nat} {hs : List Hit} (h : LstK K w B b mb n v most hs) : ∃ A c, v = .slice A hs.length c ∧ hs.length ≤ c ∧ HitsAt (fun g => B ≤ g ∧ g ≠ b ∧ g ≠ mb) w A hs := h.toLst.hits
theorem LstK.kept {w w' : World} {B b mb n : Nat} {v : Value} {most : Nat} {hs : List Hit} (h : LstK K w B b mb n v most hs) (hs' : w.heap.size ≤ w'.heap.size) (hk : ∀ g, g < w.heap.size → ((K g ∧ g ≠ b ∧ g ≠ mb ∧ some g ≠ v.ownBlock) ∨ g = b ∨ g = mb ∨ v.ownBlock = some g) → w'.heap[g]? = w.heap[g]?) : LstK K w' B b mb n v most hs := by
  obtain ⟨cs, ⟨hl, hr⟩, hc⟩ := h.row
  obtain ⟨D, ⟨es, clock, hm, hm2⟩, hsay⟩ := h.map
  refine ⟨(hk b h.lt.1 (.inr (.inl rfl))).trans h.blk, ⟨cs, ⟨hl, ?_⟩, hc.kept hs' fun g hg s => ⟨hk g hg (.inl s), s⟩⟩, ⟨D, ⟨es, clock, (hk mb h.lt.2.1 (.inr (.inr (.inl rfl)))).trans hm, hm2⟩, hsay⟩, h.lob, h.lom, fun g hg => h.up g (by omega), h.lo⟩
  rcases hr with hr | ⟨g, cap, cur, e, hg, hh, r⟩
  · exact .inl hr
  · exact .inr ⟨g, cap, cur, e, hg, (hk g (lt_of_block hh) (.inr (.inr (.inr (by rw [e]; rfl))))).trans hh, r⟩
theorem LstK.below {w w' : World} {B b mb n : Nat} {v : Value} {most : Nat} {hs : List Hit} (h : LstK K w B b mb n v most hs) (hb : Below w.heap.size w w') : LstK K w' B b mb n v most hs := h.kept hb.size fun g hg _ => hb.block g hg
theorem LstK.drew {w : World} {B b mb n : Nat} {v : Value} {most : Nat} {hs : List Hit} (h : LstK K w B b mb n v most hs) : LstK K w.drew B b mb n v most hs := h.below ((Below.refl _ _).drew)
theorem LstK.wider {w : World} {B b mb n m : Nat} {v : Value} {most : Nat} {hs : List Hit} (h : LstK K w B b mb n v most hs) (hm : n ≤ m) : LstK K w B b mb m v most hs := by
  obtain ⟨D, h1, h2⟩ := h.map
  exact ⟨h.blk, h.row, ⟨D, h1.mono hm, h2⟩, h.lob, h.lom, h.up, h.lo⟩
theorem LstK.mono {K' : Nat → Prop} {w : World} {B b mb n : Nat} {v : Value} {most : Nat} {hs : List Hit} (h : LstK K w B b mb n v most hs) (hK : ∀ g, g < w.heap.size → K g → K' g) (hu : ∀ g, w.heap.size ≤ g → K' g) (hl : ∀ g, K' g → B ≤ g) : LstK K' w B b mb n v most hs := by
  obtain ⟨cs, h1, h2⟩ := h.row
  refine ⟨h.blk, ⟨cs, h1, ⟨h2.1, fun j x hx => ?_⟩⟩, h.map, h.lob, h.lom, hu, hl⟩
  obtain ⟨b0, b1, Y, d, b2, b3, b4⟩ := h2.2 j x hx
  exact ⟨b0, b1, Y, d, b2, b3, b4.mono fun g hg s => ⟨hK g hg s.1, s.2⟩⟩

set_option maxRecDepth 100000 in
set_option maxHeartbeats 1000000 in
theorem removeK_any (B b mb n most p : Nat) (v : Value) (hs : List Hit) (w : World) (L : LstK K w B b mb n v most hs) (hg : Good most hs) (hp : p < hs.length) (hn : hs.length ≤ 1000) :
    Calls Try.prog 29 #[.pointer (some ⟨b, 0, none⟩), .int .i64 (p : Int)] w fun e w' => e = .returned (.tuple #[]) ∧ ∃ v', LstK K w' B b mb n v' most (hs.take p ++ hs.drop (p + 1)) ∧ Chg w w' b mb v v' := by
  obtain ⟨c0, c1, c2⟩ := L.cells
  obtain ⟨A, ca, hv, _, hat⟩ := L.hits
  obtain ⟨ad, rfl, _, hlt, h0, _⟩ := hat p hp
  obtain ⟨hne1, hne2, hne3⟩ := L.ne
  obtain ⟨D, hmap, hsay⟩ := L.map
  obtain ⟨cs, hrow, hcell⟩ := L.row
  have hkey : keyOf Try.prog 33 (.int .u64 hs[p].1) = some (.int .u64 hs[p].1) := keyOf_int_mk Try.underlying33 (hg.wf _ (List.getElem_mem hp)).1
  obtain ⟨w1, hrun, hown1, hturn⟩ := (hmap.drew).drop law33 Try.underlying52 hkey 0
  have hg1 := hturn.grown
  have hrow1 : w1.ownsRow B 36 3 v hs.length cs := own_kept (row := some mb) hrow ⟨hg1.os, hg1.tape, hg1.output, hg1.size, hg1.block⟩ (fun g e e' => hne3 (by rw [e]; exact e'.symm))
  have hb1 : w1.heap[b]? = some (.cells #[.int .i64 most, v, .map (some mb)] 54 (0, 0)) := (hg1.block b L.lt.1 (fun e => hne1 (by injection e))).trans L.blk
  have d1 := three_cell1 hb1
  have HD := Lib.hid (delete_any B v hs.length p cs w1 hrow1 hp hcell.oneCell hn)
  have HR := Lib.hid hrun
  have HB1 := Lib.hid hb1
  have i1 : (p : Int) < (hs.length : Int) := by omega
  have i2 : IntKind.i64.wrap ((p : Int) + 1) = (p : Int) + 1 := by rw [IntKind.wrap_i64]; omega
  have hvb : w1.frozen? ⟨b, 1, none⟩ = false := three_free hb1
  -- what comes out
  have fin : ∀ v' w5, w5.ownsRow B 36 3 v' (hs.length - 1) (cs.take (p * 3) ++ cs.drop ((p + 1) * 3)) → w1.grownBy w5 v.ownBlock → v'.ownBlock = v.ownBlock →
      w5.cell? ⟨b, 1, none⟩ = some v ∧ w5.frozen? ⟨b, 1, none⟩ = false ∧ LstK K (w5.setCell ⟨b, 1, none⟩ v') B b mb n v' most (hs.take p ++ hs.drop (p + 1)) ∧ Chg w (w5.setCell ⟨b, 1, none⟩ v') b mb v v' := by
    intro v' w5 ho hgr hvv
    have hb5 : w5.heap[b]? = some (.cells #[.int .i64 most, v, .map (some mb)] 54 (0, 0)) := (hgr.block b (lt_of_block hb1) (fun e => hne2 e.symm)).trans hb1
    have hlen : (hs.take p ++ hs.drop (p + 1)).length = hs.length - 1 := by simp only [List.length_append, List.length_take, List.length_drop]; omega
    have hsz : w.heap.size ≤ w5.heap.size := Nat.le_trans hg1.size hgr.size
    have hblk : ∀ g, g < w.heap.size → g ≠ b → g ≠ mb → some g ≠ v.ownBlock → (w5.setCell ⟨b, 1, none⟩ v').heap[g]? = w.heap[g]? := fun g hgl g1 g2 g3 => by
      rw [Below.heap_setCell _ _ _ _ g1, hgr.block g (Nat.lt_of_lt_of_le hgl hg1.size) g3]
      exact hg1.block g hgl (fun e => g2 (by injection e))
    have hm5 : (w5.setCell ⟨b, 1, none⟩ v').ownsMap Try.prog 33 (plainElem Try.prog 33) mb n (D.del (.int .u64 hs[p].1)) := (hown1.kept hgr (fun e => hne3 e.symm)).setCell hne1.symm v'
    refine ⟨three_cell1 hb5, three_free hb5, ⟨three_set1 hb5, ⟨cs.take (p * 3) ++ cs.drop ((p + 1) * 3), ?_, ?_⟩, ⟨_, hm5, hsay.del hg p hp⟩, L.lob, L.lom, fun g hg => L.up g (by rw [set_size] at hg; omega), L.lo⟩, ⟨?_, ?_, ?_, ?_, hblk, .inl hvv⟩⟩
    · rw [hlen]
      refine own_kept (row := some b) ho ⟨rfl, rfl, rfl, by simp [World.setCell], fun i _ hi => Below.heap_setCell _ _ _ _ (fun e => hi (by rw [e]))⟩ (fun g e e' => hne2 (by rw [← hvv, e]; exact e'.symm))
    · have h3 := (hcell.take p (by omega)).append (hcell.drop (p + 1))
      refine h3.away (by rw [set_size]; exact hsz) (fun g hgl s => hblk g hgl s.2.1 s.2.2.1 s.2.2.2) (fun g s => by rw [hvv]; exact s)
    · exact (set_os _ _ _).trans (hgr.os.trans hg1.os)
    · exact (set_tape _ _ _).trans (hgr.tape.trans hg1.tape)
    · exact (set_output _ _ _).trans (hgr.output.trans hg1.output)
    · rw [set_size]; exact hsz
  have FIN := Lib.hid fin
  clear fin hrun hown1 hturn hg1 hrow1 hb1 hkey hmap hsay hrow hcell hat L
  subst hv
  go_enter Try.func29, Try.ntmps29
  go_wp2_with fail
  go_region_law (refine step_delete_run rfl _ _ 52 33 rfl _ _ (by rfl) (by rfl) HR.out ?_)
  all_goals (
    go_wp2_with fail
    refine (HD.out).mono ?_
    rintro e w5 ⟨v', rfl, ho, hgr, hvv⟩
    obtain ⟨A', c', rfl⟩ := own_slice ho
    obtain ⟨e1, e2, e3, e4⟩ := FIN.out _ w5 ho hgr hvv
    have E3 := Lib.hid e3; have E4 := Lib.hid e4; clear e3 e4 ho hgr hvv
    go_wp2_with fail
    go_end0
    exact ⟨rfl, _, E3.out, E4.out⟩)


/-- What put answers. -/
def PutGaveK (K : Nat → Prop) (B b mb n most : Nat) (v : Value) (hs : List Hit) (h : Hit) (w : World) (e : Ending) (w' : World) : Prop :=
  ∃ v', e = .returned (.bool (base most hs h).isSome) ∧ LstK K w' B b mb (n + 1) v' most (match base most hs h with | some l => ins l h | none => hs) ∧ Chg w w' b mb v v'

theorem putK_fin {w w6 w8 w9 w11 : World} {B b mb n most k c8 : Nat} {v v6 v9 : Value} {l : List Hit} {h : Hit} {A8 : Option Addr} {cs : List Value} {o : Obj} {D : DataW Unit} (L6 : LstK K w6 B b mb n v6 most l) (hC6 : Chg w w6 b mb v v6)
    (hk : k ≤ l.length) (hb8 : Below w6.heap.size w6 w8) (hc8 : h.2.2.length ≤ c8) (hr8 : Row (fun g => w6.heap.size ≤ g) w8 A8 (i32s h.2.2))
    (hcell : Cells3 (fun g => K g ∧ g ≠ b ∧ g ≠ mb ∧ some g ≠ v6.ownBlock) w6 cs l)
    (ho9 : w9.ownsRow B 36 3 v9 (l.length + 1) (cs.take (k * 3) ++ [.int .u64 h.1, .int .u64 h.2.1, .slice A8 h.2.2.length c8] ++ cs.drop (k * 3)))
    (hgr9 : (w8.alloc o).grownBy w9 v6.ownBlock) (hat9 : v9.ownBlock = v6.ownBlock ∨ v9.ownBlock = some (w8.alloc o).heap.size)
    (hm11 : w11.ownsMap Try.prog 33 (plainElem Try.prog 33) mb (n + 1) (D.put (.int .u64 h.1) (.lit (.int .u64 h.2.1)))) (hturn : (w9.setCell ⟨b, 1, none⟩ v9).drew.mapTurned w11 mb)
    (hD : IsMap D) (hsay : Says D l) (hno : ∀ x ∈ l, x.1 ≠ h.1) :
    LstK K w11 B b mb (n + 1) v9 most (l.take k ++ h :: l.drop k) ∧ Chg w w11 b mb v v9 := by
  obtain ⟨hne1, hne2, hne3⟩ := L6.ne
  obtain ⟨hlb, hlm, hlB⟩ := L6.lt
  have hg11 := hturn.grown
  have hsa : (w8.alloc o).heap.size = w8.heap.size + 1 := by simp
  have hs9 := hgr9.size
  have hs8 := hb8.size
  have hs11 : w9.heap.size ≤ w11.heap.size := by have := hg11.size; rw [show (w9.setCell ⟨b, 1, none⟩ v9).drew.heap.size = w9.heap.size from set_size _ _ _] at this; exact this
  have hv9 : ∀ g, v9.ownBlock = some g → v6.ownBlock = some g ∨ g = w8.heap.size + 1 := fun g e => by
    rcases hat9 with e' | e'
    · exact .inl (e'.symm.trans e)
    · rw [e'] at e; injection e with e; exact .inr (by omega)
  have h9b : v9.ownBlock ≠ some b := fun e => by
    rcases hv9 b e with e | e
    · exact hne2 e
    · omega
  have h9m : v9.ownBlock ≠ some mb := fun e => by
    rcases hv9 mb e with e | e
    · exact hne3 e
    · omega
  -- what stays from w8 on
  have blk : ∀ g, g < w8.heap.size → g ≠ b → g ≠ mb → some g ≠ v6.ownBlock → w11.heap[g]? = w8.heap[g]? := fun g hg g1 g2 g3 => by
    rw [hg11.block g (by rw [show (w9.setCell ⟨b, 1, none⟩ v9).drew.heap.size = w9.heap.size from set_size _ _ _]; omega) (fun e => g2 (by injection e))]
    show (w9.setCell ⟨b, 1, none⟩ v9).heap[g]? = _
    rw [Below.heap_setCell _ _ _ _ g1, hgr9.block g (by omega) g3, Below.heap_alloc _ _ _ hg]
  have blk6 : ∀ g, g < w6.heap.size → g ≠ b → g ≠ mb → some g ≠ v6.ownBlock → w11.heap[g]? = w6.heap[g]? := fun g hg g1 g2 g3 => (blk g (by omega) g1 g2 g3).trans (hb8.block g hg)
  have hb9 : w9.heap[b]? = some (.cells #[.int .i64 most, v6, .map (some mb)] 54 (0, 0)) := by
    rw [hgr9.block b (by omega) (fun e => hne2 e.symm), Below.heap_alloc _ _ _ (by omega), hb8.block b hlb]
    exact L6.blk
  have hb11 : w11.heap[b]? = some (.cells #[.int .i64 most, v9, .map (some mb)] 54 (0, 0)) := by
    rw [hg11.block b (by rw [show (w9.setCell ⟨b, 1, none⟩ v9).drew.heap.size = w9.heap.size from set_size _ _ _]; omega) (fun e => hne1 (by injection e))]
    exact three_set1 hb9
  have hlen : (l.take k ++ h :: l.drop k).length = l.length + 1 := by simp only [List.length_append, List.length_take, List.length_cons, List.length_drop]; omega
  have hchg : Chg w6 w11 b mb v6 v9 := by
    refine ⟨?_, ?_, ?_, by omega, blk6, ?_⟩
    · exact hg11.os.trans (hgr9.os.trans hb8.os)
    · exact hg11.tape.trans (hgr9.tape.trans hb8.tape)
    · exact hg11.output.trans (hgr9.output.trans hb8.output)
    · rcases hat9 with e | e
      · exact .inl e
      · exact .inr ⟨_, e, by omega⟩
  refine ⟨⟨hb11, ⟨cs.take (k * 3) ++ [.int .u64 h.1, .int .u64 h.2.1, .slice A8 h.2.2.length c8] ++ cs.drop (k * 3), ?_, ?_⟩, ⟨_, hm11, hsay.put hD k h hno⟩, L6.lob, L6.lom, fun g hg => L6.up g (by omega), L6.lo⟩, hC6.trans hchg⟩
  · rw [hlen]
    have ho10 : (w9.setCell ⟨b, 1, none⟩ v9).drew.ownsRow B 36 3 v9 (l.length + 1) (cs.take (k * 3) ++ [.int .u64 h.1, .int .u64 h.2.1, .slice A8 h.2.2.length c8] ++ cs.drop (k * 3)) :=
      own_kept (w' := w9.setCell ⟨b, 1, none⟩ v9) (row := some b) ho9 ⟨rfl, rfl, rfl, by simp [World.setCell], fun i _ hi => Below.heap_setCell _ _ _ _ (fun e => hi (by rw [e]))⟩ (fun g e e' => h9b (by rw [e]; exact e'.symm))
    exact own_kept (row := some mb) ho10 hg11 (fun g e e' => h9m (by rw [e]; exact e'.symm))
  · have t1 : Cells3 (fun g => K g ∧ g ≠ b ∧ g ≠ mb ∧ some g ≠ v9.ownBlock) w11 (cs.take (k * 3)) (l.take k) := (hcell.take k hk).kept (by omega) fun g hg s => ⟨blk6 g hg s.2.1 s.2.2.1 s.2.2.2, s.1, s.2.1, s.2.2.1, fun e => by
      rcases hv9 g e.symm with e' | e'
      · exact s.2.2.2 e'.symm
      · omega⟩
    have t2 : Cells3 (fun g => K g ∧ g ≠ b ∧ g ≠ mb ∧ some g ≠ v9.ownBlock) w11 (cs.drop (k * 3)) (l.drop k) := (hcell.drop k).kept (by omega) fun g hg s => ⟨blk6 g hg s.2.1 s.2.2.1 s.2.2.2, s.1, s.2.1, s.2.2.1, fun e => by
      rcases hv9 g e.symm with e' | e'
      · exact s.2.2.2 e'.symm
      · omega⟩
    have hr11 : Row (fun g => K g ∧ g ≠ b ∧ g ≠ mb ∧ some g ≠ v9.ownBlock) w11 A8 (i32s h.2.2) := by
      have hr8' : Row (fun g => w6.heap.size ≤ g ∧ g < w8.heap.size) w8 A8 (i32s h.2.2) := hr8.mono fun g hg s => ⟨s, hg⟩
      refine (hr8'.kept (by omega) fun g hg s => blk g hg (by omega) (by omega) (fun e => ?_)).mono fun g _ s => ⟨L6.up g s.1, by omega, by omega, fun e => ?_⟩
      · have := (L6.rowlt e.symm).2
        omega
      · rcases hv9 g e.symm with e' | e'
        · have := (L6.rowlt e').2
          omega
        · omega
    have t3 := (t1.append (Cells3.one h A8 c8 hc8 hr11)).append t2
    rw [List.append_assoc] at t3
    simpa using t3

/-- The tail of put, as three worlds tell it: place, own and Insert; then the map. -/
structure ReadyK (K : Nat → Prop) (w6 : World) (B b mb n most q : Nat) (v6 : Value) (l : List Hit) (h : Hit) (X : Option Addr) (c : Nat) (S : Nat → Prop) : Prop where
  L : LstK K w6 B b mb n v6 most l
  box : w6.heap[q]? = some (.cells #[.int .u64 h.1, .int .u64 h.2.1, .slice X h.2.2.length c] 36 (0, 0))
  row : Row S w6 X (i32s h.2.2)
  order : l.Pairwise fun a b => near a b = true
  no : ∀ x ∈ l, x.1 ≠ h.1
  len : l.length ≤ 1000
  apart : v6.ownBlock ≠ some q
  hn : n ≤ 100000
  wf : (Lit.int .u64 h.1).wf = true ∧ (Lit.int .u64 h.2.1).wf = true ∧ h.2.2.length ≤ 1000

set_option maxRecDepth 100000 in
set_option maxHeartbeats 1000000 in
theorem putK_any (S : Nat → Prop) (B b mb n most : Nat) (v : Value) (hs : List Hit) (h : Hit) (X : Option Addr) (c : Nat) (w : World) (L : LstK K w B b mb n v most hs) (hg : Good most hs) (hm1 : 1 ≤ most) (hm : most ≤ 1000) (hn : n ≤ 100000) (hr : Row S w X (i32s h.2.2))
    (hS : ∀ g, g < w.heap.size → S g → g ≠ b ∧ g ≠ mb ∧ some g ≠ v.ownBlock) (hw : (Lit.int .u64 h.1).wf = true ∧ (Lit.int .u64 h.2.1).wf = true ∧ h.2.2.length ≤ 1000) :
    Calls Try.prog 25 #[.pointer (some ⟨b, 0, none⟩), .agg #[.int .u64 h.1, .int .u64 h.2.1, .slice X h.2.2.length c]] w fun e w' => PutGaveK K B b mb n most v hs h w e w' := by
  have hlen := hg.len
  have hlB := L.lt
  obtain ⟨q, hq⟩ : ∃ q, q = w.heap.size := ⟨_, rfl⟩
  obtain ⟨w1, hw1⟩ : ∃ x, x = w.alloc (.cells #[.int .u64 h.1, .int .u64 h.2.1, .slice X h.2.2.length c] 36) := ⟨_, rfl⟩
  have hb1 : Below w.heap.size w w1 := by rw [hw1]; exact (Below.refl _ _).alloc (Nat.le_refl _) _
  have hq1 : w1.heap[q]? = some (.cells #[.int .u64 h.1, .int .u64 h.2.1, .slice X h.2.2.length c] 36 (0, 0)) := by rw [hw1, hq]; exact heap_alloc_new w _
  have L1 := L.below hb1
  have hr1 := hr.below hb1
  have hC1 : Chg w w1 b mb v v := Chg.of_below hb1 b mb v
  have hqv : ∀ g, v.ownBlock = some g → g < q := fun g e => by rw [hq]; exact (L.rowlt e).2
  have hbq : b < q ∧ mb < q := by rw [hq]; exact ⟨hlB.1, hlB.2.1⟩
  have hS1 : Row (fun g => g < q ∧ g ≠ b ∧ g ≠ mb ∧ some g ≠ v.ownBlock) w1 X (i32s h.2.2) := (hr.mono fun g hg s => (⟨by rw [hq]; exact hg, hS g hg s⟩ : g < q ∧ g ≠ b ∧ g ≠ mb ∧ some g ≠ v.ownBlock)).below hb1
  have hqs : q < w1.heap.size := lt_of_block hq1
  -- what a change of the List leaves of the hit
  have KEEP : Hid (∀ w6 v6 l, LstK K w6 B b mb n v6 most l → Chg w1 w6 b mb v v6 → Good most l → (∀ x ∈ l, x.1 ≠ h.1) → ReadyK K w6 B b mb n most q v6 l h X c (fun g => g < q ∧ g ≠ b ∧ g ≠ mb ∧ some g ≠ v.ownBlock)) := fun w6 v6 l L6 C6 G6 N6 =>
    ⟨L6, (C6.block q hqs (by omega) (by omega) (fun e => by have := hqv q e.symm; omega)).trans hq1, hS1.kept C6.size (fun g hg s => C6.block g hg s.2.1 s.2.2.1 s.2.2.2), G6.order, N6, by have := G6.len; omega, fun e => by
      rcases C6.new with e' | ⟨g, e', hg'⟩
      · have := hqv q (e'.symm.trans e); omega
      · rw [e] at e'; injection e' with e'; omega, hn, hw⟩
  obtain ⟨c0, c1, c2⟩ := L1.cells
  obtain ⟨D, hmap, hsay⟩ := L1.map
  have hd0 := three_cell0 hq1
  have hd1 := three_cell1 hq1
  have hd2 := three_cell2 hq1
  have HQ := Lib.hid hq
  have HW1 := Lib.hid hw1
  have HL1 := Lib.hid L1
  have HC1 := Lib.hid hC1
  have HR1 := Lib.hid hr1
  clear L hr hS hb1 hS1 hC1 hr1
  have hcases : ∃ dp th, (Instr.lookup 52 (.map (some mb)) (.int .u64 h.1) true).run Try.prog w1.drew = .ok (.tuple #[.int .u64 dp, .bool th]) w1.drew ∧
      ((th = true ∧ ∃ p, ∃ hp : p < hs.length, hs[p].1 = h.1 ∧ hs[p].2.1 = dp) ∨ (th = false ∧ ∀ x ∈ hs, x.1 ≠ h.1)) := by
    by_cases hthere : ∃ p, ∃ hp : p < hs.length, hs[p].1 = h.1
    · obtain ⟨p, hp, he⟩ := hthere
      have := look_there (hmap.drew) hsay hp (by rw [he]; exact hw.1)
      rw [he] at this
      exact ⟨_, _, this, .inl ⟨rfl, p, hp, he, rfl⟩⟩
    · have hno : ∀ x ∈ hs, x.1 ≠ h.1 := fun x hx e => by
        obtain ⟨p, hp, rfl⟩ := List.getElem_of_mem hx
        exact hthere ⟨p, hp, e⟩
      exact ⟨_, _, look_none (hmap.drew) hsay hno hw.1, .inr ⟨rfl, hno⟩⟩
  obtain ⟨dp, th, hlook, hcase⟩ := hcases
  have HCASE := Lib.hid hcase
  have HG := Lib.hid hg
  clear hmap hsay hq1 L1 hq hw1 hcase hg hqv
  go_enter Try.func25, Try.ntmps25
  go_wp2_with fail
  rw [← HW1.out, ← HQ.out]
  go_region
  clear hlook
  go_upto_block 0 with fail
  go_cut [] (fun wx => ∃ v6 l, ReadyK K wx B b mb n most q v6 l h X c (fun g => g < q ∧ g ≠ b ∧ g ≠ mb ∧ some g ≠ v.ownBlock) ∧ base most hs h = some l ∧ Chg w wx b mb v v6)
  case first =>
    rcases HCASE.out with ⟨rfl, p, hp, he, hdp⟩ | ⟨rfl, hno⟩
    · have hg := HG.out
      have L1 := HL1.out
      have hfind := hg.find hp he
      by_cases hd : dp ≤ h.2.1
      · have HB := Lib.hid (show base most hs h = none by unfold base; rw [hfind]; simp [hdp, hd])
        clear hg L1 hfind hdp
        go_wp2_with fail
        go_ret
        refine ⟨v, by rw [HB.out]; rfl, by rw [HB.out]; exact ((HL1.out).wider (Nat.le_succ n)).drew, ?_⟩
        exact ⟨HC1.out.os, HC1.out.tape, HC1.out.output, HC1.out.size, HC1.out.block, .inl rfl⟩
      · have HB := Lib.hid (show base most hs h = some (hs.take p ++ hs.drop (p + 1)) by unfold base; rw [hfind, hg.filter hp, he]; simp [hdp, hd])
        have HPL := Lib.hid (show Calls Try.prog 30 #[.pointer (some ⟨b, 0, none⟩), .agg #[.int .u64 h.1, .int .u64 dp, .slice none 0 0]] w1.drew (fun e w' => ∃ k : Nat, e = .returned (.int .i64 k) ∧ Parts hs (h.1, dp, []) k ∧ Below w1.drew.heap.size w1.drew w') from place_any B b mb n most v hs (h.1, dp, []) none 0 w1.drew L1.toLst.drew hg.order (by omega))
        have HAT : Hid (∀ k, Parts hs (h.1, dp, []) k → k = p) := fun k hk => parts_at (h := (h.1, dp, [])) hg hp he.symm hdp.symm hk
        have HRM : Hid (∀ W, Below w1.heap.size w1 W → Calls Try.prog 29 #[.pointer (some ⟨b, 0, none⟩), .int .i64 (p : Int)] W fun e w' => e = .returned (.tuple #[]) ∧ ∃ v', ReadyK K w' B b mb n most q v' (hs.take p ++ hs.drop (p + 1)) h X c (fun g => g < q ∧ g ≠ b ∧ g ≠ mb ∧ some g ≠ v.ownBlock) ∧ Chg w w' b mb v v') := fun W hW =>
          (removeK_any B b mb n most p v hs W (L1.below hW) hg hp (by omega)).mono fun e w' ⟨e1, v', L', C'⟩ => ⟨e1, v', KEEP.out _ _ _ L' ((Chg.of_below hW b mb v).trans C') (hg.sub (by rw [hg.filter hp]; exact List.filter_sublist)) (by rw [hg.filter hp, he]; intro x hx; simpa using (List.mem_filter.1 hx).2), HC1.out.trans ((Chg.of_below hW b mb v).trans C')⟩
        clear hg L1 hfind hdp he
        go_wp2_with fail
        refine (HPL.out).mono ?_
        rintro e w5 ⟨k, rfl, hP5, hb5⟩
        obtain rfl := HAT.out k hP5
        go_wp2_with fail
        refine (HRM.out w5 ⟨hb5.os, hb5.tape, hb5.output, hb5.size, hb5.block⟩).mono ?_
        rintro e w6 ⟨rfl, v6, R6, hC6⟩
        go_wp2_with fail
        go_meet
        exact ⟨v6, _, R6, HB.out, hC6⟩
    · have hg := HG.out
      have L1 := HL1.out
      have hfind : hs.find? (fun x => x.1 == h.1) = none := List.find?_eq_none.2 fun x hx => by simpa using hno x hx
      have HFU := Lib.hid (full_any B b mb n most v hs w1.drew L1.toLst.drew hm (by omega))
      by_cases hfull : most ≤ hs.length
      · have hl1 : hs.length = most := by omega
        obtain ⟨m, hmm⟩ : ∃ m, hs.length = m + 1 := ⟨hs.length - 1, by omega⟩
        have hlast : hs.getLastD (0, 0, []) = hs[m]'(by omega) := by
          have hm' : hs.length - 1 = m := by omega
          rw [List.getLastD_eq_getLast?, List.getLast?_eq_getElem?, hm', List.getElem?_eq_getElem (by omega)]
          rfl
        rw [show decide (most ≤ hs.length) = true by simpa using hfull] at HFU
        obtain ⟨A1, ca1, hv1, hca1, hat1⟩ := L1.hits
        obtain ⟨ad, rfl, hj1, hadl, g0, g1, Y, cy, g2, hj2, hj3⟩ := hat1 m (by omega)
        clear hj1 hj2 hj3
        have HRM : Hid (∀ W, Below w1.heap.size w1 W → Calls Try.prog 29 #[.pointer (some ⟨b, 0, none⟩), .int .i64 (m : Int)] W fun e w' => e = .returned (.tuple #[]) ∧ ∃ v', ReadyK K w' B b mb n most q v' (hs.take m ++ hs.drop (m + 1)) h X c (fun g => g < q ∧ g ≠ b ∧ g ≠ mb ∧ some g ≠ v.ownBlock) ∧ Chg w w' b mb v v') := fun W hW =>
          (removeK_any B b mb n most m v hs W (L1.below hW) hg (by omega) (by omega)).mono fun e w' ⟨e1, v', L', C'⟩ => ⟨e1, v', KEEP.out _ _ _ L' ((Chg.of_below hW b mb v).trans C') (hg.sub (by rw [hg.filter (by omega)]; exact List.filter_sublist)) (by intro x hx; refine hno x ?_; rcases List.mem_append.1 hx with hx | hx; exact List.mem_of_mem_take hx; exact List.mem_of_mem_drop hx), HC1.out.trans ((Chg.of_below hW b mb v).trans C')⟩
        have hdrop : hs.take m ++ hs.drop (m + 1) = hs.dropLast := by rw [List.drop_eq_nil_of_le (by omega), List.append_nil, List.dropLast_eq_take, hmm]; rfl
        have HN : Hid (∀ W, Below w1.heap.size w1 W → Calls Try.prog 31 #[.agg #[.int .u64 h.1, .int .u64 h.2.1, .slice X h.2.2.length c], .agg #[.int .u64 (hs[m]'(by omega)).1, .int .u64 (hs[m]'(by omega)).2.1, .slice Y (hs[m]'(by omega)).2.2.length cy]] W fun e w' => e = .returned (.bool (near h (hs[m]'(by omega)))) ∧ Below w1.heap.size w1 w') := fun W hW =>
          (nearer_any _ _ _ _ _ _ _ _ _ _ W).mono fun _ _ ⟨he, hb⟩ => ⟨he, hW.trans (hb.mono hW.size)⟩
        have HBN : Hid (near h (hs[m]'(by omega)) = false → base most hs h = none) := fun e => by unfold base; rw [hfind, hlast]; simp [e]; omega
        have HBS : Hid (near h (hs[m]'(by omega)) = true → base most hs h = some (hs.take m ++ hs.drop (m + 1))) := fun e => by unfold base; rw [hfind, hlast, hdrop]; simp [e]; omega
        rw [hmm] at hv1
        have hlm : m < hs.length := by omega
        generalize near h (hs[m]'(by omega)) = nr at *
        generalize (hs[m]'(by omega)).1 = xi at *
        generalize (hs[m]'(by omega)).2.1 = xd at *
        generalize (hs[m]'(by omega)).2.2.length = xl at *
        have hm64 : (m : Int) ≤ 1000 := by omega
        have hmi : (m : Int) < (m : Int) + 1 := by omega
        clear hg L1 hfind hno hlast hdrop hat1 hmm hl1 hfull hlm
        subst hv1
        go_wp2_with fail
        refine (HFU.out).mono ?_
        rintro e w5 ⟨rfl, hb5⟩
        have hb5' : Below w1.heap.size w1 w5 := ⟨hb5.os, hb5.tape, hb5.output, hb5.size, hb5.block⟩
        have hbl1 := lt_of_cell c1
        have hql1 := lt_of_cell hd0
        have p0 := (hb5'.cell (p := ⟨b, 1, none⟩) hbl1).trans c1
        have p1 := (hb5'.cell (p := ad.add (m * 3)) (by rw [block_add]; exact hadl)).trans g0
        have p2 := (hb5'.cell (p := ⟨(ad.add (m * 3)).block, (ad.add (m * 3)).off + 1, none⟩) (by show (ad.add (m * 3)).block < _; rw [block_add]; exact hadl)).trans g1
        have p3 := (hb5'.cell (p := ⟨(ad.add (m * 3)).block, (ad.add (m * 3)).off + 2, none⟩) (by show (ad.add (m * 3)).block < _; rw [block_add]; exact hadl)).trans g2
        have p4 := (hb5'.cell (p := ⟨q, 0, none⟩) hql1).trans hd0
        have p5 := (hb5'.cell (p := ⟨q, 1, none⟩) hql1).trans hd1
        have p6 := (hb5'.cell (p := ⟨q, 2, none⟩) hql1).trans hd2
        have hb5d : Below w1.heap.size w1 w5.drew := hb5'.drew
        go_wp2_with fail
        go_region_held3 (fun w' => w'.cell? ⟨b, 1, none⟩ = some (.slice (some ad) (m + 1) ca1) ∧ w'.cell? (ad.add (m * 3)) = some (.int .u64 xi) ∧ w'.cell? ⟨(ad.add (m * 3)).block, (ad.add (m * 3)).off + 1, none⟩ = some (.int .u64 xd) ∧ w'.cell? ⟨(ad.add (m * 3)).block, (ad.add (m * 3)).off + 2, none⟩ = some (.slice Y xl cy) ∧ w'.cell? ⟨q, 0, none⟩ = some (.int .u64 h.1) ∧ w'.cell? ⟨q, 1, none⟩ = some (.int .u64 h.2.1) ∧ w'.cell? ⟨q, 2, none⟩ = some (.slice X h.2.2.length c)) (first | exact ⟨p0, p1, p2, p3, p4, p5, p6⟩ | exact hS6)
          (first | (go_at_call 31; refine (HN.out _ hb5d).mono ?_; rintro e w7 ⟨rfl, hb7⟩; have hS6 := (⟨(hb7.cell (p := ⟨b, 1, none⟩) hbl1).trans c1, (hb7.cell (p := ad.add (m * 3)) (by rw [block_add]; exact hadl)).trans g0, (hb7.cell (p := ⟨(ad.add (m * 3)).block, (ad.add (m * 3)).off + 1, none⟩) (by show (ad.add (m * 3)).block < _; rw [block_add]; exact hadl)).trans g1, (hb7.cell (p := ⟨(ad.add (m * 3)).block, (ad.add (m * 3)).off + 2, none⟩) (by show (ad.add (m * 3)).block < _; rw [block_add]; exact hadl)).trans g2, (hb7.cell (p := ⟨q, 0, none⟩) hql1).trans hd0, (hb7.cell (p := ⟨q, 1, none⟩) hql1).trans hd1, (hb7.cell (p := ⟨q, 2, none⟩) hql1).trans hd2⟩ : _ ∧ _ ∧ _ ∧ _ ∧ _ ∧ _ ∧ _)))
        cases nr with
        | false =>
          have HB := Lib.hid (HBN.out rfl)
          go_wp2_with fail
          go_ret
          refine ⟨_, by rw [HB.out]; rfl, by rw [HB.out]; exact (HL1.out.below hb7).wider (Nat.le_succ n), HC1.out.trans (Chg.of_below hb7 b mb _)⟩
        | true =>
          have HB := Lib.hid (HBS.out rfl)
          go_wp2_with fail
          refine (HRM.out w7 hb7).mono ?_
          rintro e w6 ⟨rfl, v6, R6, hC6⟩
          go_wp2_with fail
          go_meet
          exact ⟨v6, _, R6, HB.out, hC6⟩
      · have HB := Lib.hid (show base most hs h = some hs by unfold base; rw [hfind]; simp; omega)
        rw [show decide (most ≤ hs.length) = false by simpa using hfull] at HFU
        have hR := fun (W : World) (hW : Below w1.heap.size w1 W) => KEEP.out W v hs (L1.below hW) (Chg.of_below hW b mb v) hg hno
        have HRD := Lib.hid hR
        clear hR hg L1 hfind hno
        go_wp2_with fail
        refine (HFU.out).mono ?_
        rintro e w5 ⟨rfl, hb5⟩
        go_wp2_with fail
        go_meet
        have hb5' : Below w1.heap.size w1 w5 := ⟨hb5.os, hb5.tape, hb5.output, hb5.size, hb5.block⟩
        exact ⟨v, hs, HRD.out w5 hb5', HB.out, HC1.out.trans (Chg.of_below hb5' b mb v)⟩
  case rest =>
    obtain ⟨v6, l, R6, hbase, hC6⟩ := hcut
    have HB := Lib.hid hbase
    clear hbase HCASE HG
    generalize wc = w6 at *
    have hwf := R6.wf
    obtain ⟨m0, m1, m2⟩ := R6.L.cells
    have hbx := R6.box
    have x0 := three_cell0 hbx
    have x1 := three_cell1 hbx
    have x2 := three_cell2 hbx
    have hlt6 := R6.L.lt
    have hql6 : q < w6.heap.size := lt_of_block hbx
    obtain ⟨hne1, hne2, hne3⟩ := R6.L.ne
    obtain ⟨cs, hrow6, hcell6⟩ := R6.L.row
    obtain ⟨D6, hmap6, hsay6⟩ := R6.L.map
    obtain ⟨A6, ca6, hv6, hca6, _⟩ := R6.L.hits
    have HP := Lib.hid (place_any B b mb n most v6 l h X c w6.drew R6.L.toLst.drew R6.order R6.len)
    have HO : Hid (∀ W, Below w6.heap.size w6 W → Calls Try.prog 28 #[.agg #[.int .u64 h.1, .int .u64 h.2.1, .slice X h.2.2.length c]] W fun e w' => GaveHit W h e w') := fun W hW => own_any _ h X c W (R6.row.below hW) hwf.2.2
    have HI : Hid (∀ (W : World) (k c8 : Nat) (A8 : Option Addr), Below w6.heap.size w6 W → k ≤ l.length → Calls Try.prog 32 #[v6, .int .i64 (k : Int), .slice (some ⟨W.heap.size, 0, none⟩) 1 1] (W.alloc (.cells #[.int .u64 h.1, .int .u64 h.2.1, .slice A8 h.2.2.length c8] 36)) fun e w' => ∃ A9 c9, e = .returned (.slice A9 (l.length + 1) c9) ∧ w'.ownsRow B 36 3 (.slice A9 (l.length + 1) c9) (l.length + 1) (cs.take (k * 3) ++ [.int .u64 h.1, .int .u64 h.2.1, .slice A8 h.2.2.length c8] ++ cs.drop (k * 3)) ∧ (W.alloc (.cells #[.int .u64 h.1, .int .u64 h.2.1, .slice A8 h.2.2.length c8] 36)).grownBy w' v6.ownBlock ∧ ((Value.slice A9 (l.length + 1) c9).ownBlock = v6.ownBlock ∨ (Value.slice A9 (l.length + 1) c9).ownBlock = some (W.alloc (.cells #[.int .u64 h.1, .int .u64 h.2.1, .slice A8 h.2.2.length c8] 36)).heap.size)) := fun W k c8 A8 hW hk => by
      have hbW : Below w6.heap.size w6 (W.alloc (.cells #[.int .u64 h.1, .int .u64 h.2.1, .slice A8 h.2.2.length c8] 36)) := hW.alloc hW.size _
      refine (insert_any B v6 l.length k W.heap.size cs _ _ _ _ (own_below hrow6 hbW) (by have := hbW.size; omega) hk hcell6.oneCell (fun e => by have := (R6.L.rowlt e).2; have := hW.size; omega) (heap_alloc_new W _) (by simp [Value.oneCell']) R6.len).mono ?_
      rintro e w' ⟨v9, rfl, h1, h2, h3⟩
      obtain ⟨A9, c9, rfl⟩ := own_slice h1
      exact ⟨A9, c9, rfl, h1, h2, h3⟩
    have HFIN : Hid (∀ (w8 w9 w11 : World) (k c8 c9 : Nat) (A8 A9 : Option Addr), Parts l h k → Below w6.heap.size w6 w8 → h.2.2.length ≤ c8 → Row (fun g => w6.heap.size ≤ g) w8 A8 (i32s h.2.2) → w9.ownsRow B 36 3 (.slice A9 (l.length + 1) c9) (l.length + 1) (cs.take (k * 3) ++ [.int .u64 h.1, .int .u64 h.2.1, .slice A8 h.2.2.length c8] ++ cs.drop (k * 3)) → (w8.alloc (.cells #[.int .u64 h.1, .int .u64 h.2.1, .slice A8 h.2.2.length c8] 36)).grownBy w9 v6.ownBlock → ((Value.slice A9 (l.length + 1) c9).ownBlock = v6.ownBlock ∨ (Value.slice A9 (l.length + 1) c9).ownBlock = some (w8.alloc (.cells #[.int .u64 h.1, .int .u64 h.2.1, .slice A8 h.2.2.length c8] 36)).heap.size) → w11.ownsMap Try.prog 33 (plainElem Try.prog 33) mb (n + 1) (D6.put (.int .u64 h.1) (.lit (.int .u64 h.2.1))) → (w9.setCell ⟨b, 1, none⟩ (.slice A9 (l.length + 1) c9)).drew.mapTurned w11 mb → PutGaveK K B b mb n most v hs h w (.returned (.bool true)) w11) := fun w8 w9 w11 k c8 c9 A8 A9 hP hb8 hc8 hr8 ho9 hgr9 hat9 hm11 hturn => by
      have := putK_fin R6.L hC6 hP.1 hb8 hc8 hr8 hcell6 ho9 hgr9 hat9 hm11 hturn hmap6.isMap hsay6 R6.no
      rw [parts_ins hP] at this
      exact ⟨_, by rw [HB.out]; rfl, by rw [HB.out]; exact this.1, this.2⟩
    have HQ6 := Lib.hid R6.apart
    have HBLK := Lib.hid R6.L.blk
    have HBOX := Lib.hid R6.box
    have hnn := R6.hn
    have HM6 := Lib.hid hmap6
    have HNE := Lib.hid hne3
    clear R6 hC6 hcell6 hrow6 hmap6 hsay6 hbx HB HL1 HC1 HR1 HW1 HQ KEEP
    subst hv6
    go_upto_region 11 with fail
    go_cut [] (fun wx => ∃ (w8 w9 : World) (k c8 c9 : Nat) (A8 A9 : Option Addr), Parts l h k ∧ Below w6.heap.size w6 w8 ∧ h.2.2.length ≤ c8 ∧ Row (fun g => w6.heap.size ≤ g) w8 A8 (i32s h.2.2) ∧ w9.ownsRow B 36 3 (.slice A9 (l.length + 1) c9) (l.length + 1) (cs.take (k * 3) ++ [.int .u64 h.1, .int .u64 h.2.1, .slice A8 h.2.2.length c8] ++ cs.drop (k * 3)) ∧ (w8.alloc (.cells #[.int .u64 h.1, .int .u64 h.2.1, .slice A8 h.2.2.length c8] 36)).grownBy w9 (Value.slice A6 l.length ca6).ownBlock ∧ ((Value.slice A9 (l.length + 1) c9).ownBlock = (Value.slice A6 l.length ca6).ownBlock ∨ (Value.slice A9 (l.length + 1) c9).ownBlock = some (w8.alloc (.cells #[.int .u64 h.1, .int .u64 h.2.1, .slice A8 h.2.2.length c8] 36)).heap.size) ∧ wx = w9.setCell ⟨b, 1, none⟩ (.slice A9 (l.length + 1) c9))
    case first =>
      go_region_law (first
          | (go_simp; go_at_call 30; refine (HP.out).mono ?_; rintro e w7 ⟨k7, rfl, hP7, hb7'⟩;
             have hb7 : Below w6.heap.size w6 w7 := ⟨hb7'.os, hb7'.tape, hb7'.output, hb7'.size, hb7'.block⟩;
             have a0 := (hb7.cell (p := ⟨b, 1, none⟩) hlt6.1).trans m1; have a1 := (hb7.cell (p := ⟨q, 0, none⟩) hql6).trans x0; have a2 := (hb7.cell (p := ⟨q, 1, none⟩) hql6).trans x1; have a3 := (hb7.cell (p := ⟨q, 2, none⟩) hql6).trans x2)
          | (go_simp; go_at_call 28; refine (HO.out w7 hb7).mono ?_; rintro e w8 ⟨A8, c8, rfl, hc8, hr8, hb8'⟩;
             have hb8 : Below w6.heap.size w6 w8 := hb7.trans (hb8'.mono hb7.size);
             have d0 := (hb8.cell (p := ⟨b, 1, none⟩) hlt6.1).trans m1; have d1 := (hb8.cell (p := ⟨q, 0, none⟩) hql6).trans x0; have d2 := (hb8.cell (p := ⟨q, 1, none⟩) hql6).trans x1; have d3 := (hb8.cell (p := ⟨q, 2, none⟩) hql6).trans x2;
             have hba : Below w6.heap.size w6 (w8.alloc (.cells #[.int .u64 h.1, .int .u64 h.2.1, .slice A8 h.2.2.length c8] 36)) := hb8.alloc hb8.size _;
             have e0 := (hba.cell (p := ⟨b, 1, none⟩) hlt6.1).trans m1)
          | (go_simp; go_at_call 32; refine (HI.out w8 k7 c8 A8 hb8 hP7.1).mono ?_; rintro e w9 ⟨A9, c9, rfl, ho9, hgr9, hat9⟩;
             have hblk9 := (hgr9.block b (Nat.lt_of_lt_of_le hlt6.1 hba.size) (fun e => hne2 e.symm)).trans ((hba.block b hlt6.1).trans HBLK.out);
             have f0 := three_cell1 hblk9; have hf9 : w9.frozen? ⟨b, 1, none⟩ = false := three_free hblk9))
      all_goals (go_wp2_with fail; go_meet; exact ⟨w8, w9, k7, c8, c9, A8, A9, hP7, hb8, hc8, hr8.mono (fun g _ s => Nat.le_trans hb7.size s), ho9, hgr9, hat9, rfl⟩)
    case rest =>
      obtain ⟨w8, w9, k, c8, c9, A8, A9, hP, hb8, hc8, hr8, ho9, hgr9, hat9, rfl⟩ := hcut
      have hba : Below w6.heap.size w6 (w8.alloc (.cells #[.int .u64 h.1, .int .u64 h.2.1, .slice A8 h.2.2.length c8] 36)) := hb8.alloc hb8.size _
      have hblk9 := (hgr9.block b (Nat.lt_of_lt_of_le hlt6.1 hba.size) (fun e => hne2 e.symm)).trans ((hba.block b hlt6.1).trans HBLK.out)
      have hbox9 := (hgr9.block q (Nat.lt_of_lt_of_le hql6 hba.size) (fun e => HQ6.out e.symm)).trans ((hba.block q hql6).trans HBOX.out)
      have hm9 := ((HM6.out.kept (row := none) ⟨hba.os, hba.tape, hba.output, hba.size, fun i hi _ => hba.block i hi⟩ (by simp)).kept hgr9 (fun e => hne3 e.symm)).setCell (a := ⟨b, 1, none⟩) hne1.symm (.slice A9 (l.length + 1) c9)
      obtain ⟨w11, hrun, hown11, hturn⟩ := hm9.drew.store law33 Try.underlying52 (by unfold maxLen; omega) (keyOf_int_mk Try.underlying33 hwf.1) (plainElem_int Try.underlying33 hwf.2.1)
      have HF := Lib.hid (HFIN.out w8 w9 w11 k c8 c9 A8 A9 hP hb8 hc8 hr8 ho9 hgr9 hat9 hown11 hturn)
      have HR := Lib.hid hrun
      have hbox10 : (w9.setCell ⟨b, 1, none⟩ (.slice A9 (l.length + 1) c9)).heap[q]? = some (.cells #[.int .u64 h.1, .int .u64 h.2.1, .slice X h.2.2.length c] 36 (0, 0)) := by rw [Below.heap_setCell _ _ _ _ (show q ≠ b by omega)]; exact hbox9
      have y0 := three_cell0 hbox10
      have y1 := three_cell1 hbox10
      have y2 := three_cell2 (three_set1 (a := .slice A9 (l.length + 1) c9) hblk9)
      clear hrun hown11 hturn hm9 hbox9 hbox10 hblk9 hba hP hb8 hc8 hr8 ho9 hgr9 hat9 HFIN HI HO HP m0 m1 m2 x0 x1 x2 HBLK HBOX HM6 HQ6
      generalize w9.setCell ⟨b, 1, none⟩ (.slice A9 (l.length + 1) c9) = w10 at *
      go_wp2_with fail
      have hup := HR.out
      go_region
      all_goals (go_wp2_with fail; go_ret; exact HF.out)


set_option maxRecDepth 100000 in
set_option maxHeartbeats 1000000 in
theorem addK_any (S : Nat → Prop) (B b mb n most : Nat) (v : Value) (hs xs : List Hit) (A : Option Addr) (c : Nat) (w : World) (L : LstK K w B b mb n v most hs) (hg : Good most hs) (hm1 : 1 ≤ most) (hm : most ≤ 1000) (hn : n + xs.length ≤ 100000) (hat : HitsAt S w A xs)
    (hS : ∀ g, g < w.heap.size → S g → g ≠ b ∧ g ≠ mb ∧ some g ≠ v.ownBlock) (hw : ∀ x ∈ xs, Wf x) :
    Calls Try.prog 13 #[.pointer (some ⟨b, 0, none⟩), .slice A xs.length c] w fun e w' => e = .returned (.int .i64 ((putAll most hs xs).2 : Nat)) ∧ ∃ v', LstK K w' B b mb (n + xs.length) v' most (putAll most hs xs).1 ∧ Chg w w' b mb v v' := by
  have HAT := Lib.hid hat
  have HS := Lib.hid hS
  have HW := Lib.hid hw
  have HG := Lib.hid hg
  have HL := Lib.hid L
  have hcnt : ∀ k, (putAll most hs (xs.take k)).2 ≤ k := fun k => by
    have h1 : ∀ (ys zs : List Hit), (putAll most zs ys).2 ≤ ys.length := fun ys => by
      induction ys with
      | nil => intro zs; exact Nat.le_refl _
      | cons y ys ih =>
        intro zs
        cases hb : base most zs y with
        | none => simp only [putAll, hb]; have := ih zs; simp; omega
        | some l => simp only [putAll, hb]; have := ih (ins l y); simp; omega
    have := h1 (xs.take k) hs
    rw [List.length_take] at this
    omega
  have HCNT := Lib.hid hcnt
  clear hat hS hw hg L hcnt
  go_enter Try.func13, Try.ntmps13
  go_wp2_with fail
  go_loopw [5, 7, 12] (fun cnt _ i wr => ∃ (k : Nat) (v' : Value), k ≤ xs.length ∧ i = .int .i64 k ∧ cnt = .int .i64 ((putAll most hs (xs.take k)).2 : Nat) ∧ LstK K wr B b mb (n + k) v' most (putAll most hs (xs.take k)).1 ∧ Chg w wr b mb v v') (fun _ _ i _ => xs.length - (intOf i).toNat)
  case atStart => exact ⟨0, v, Nat.zero_le _, rfl, by simp [putAll], by simpa [putAll] using HL.out, Chg.refl _ _ _ _⟩
  case round =>
    obtain ⟨k, v', hk, rfl, rfl, hL, hC⟩ := hrel
    have HC := Lib.hid hC
    have HLK := Lib.hid hL
    have hck := HCNT.out k
    by_cases hlt : k < xs.length
    · obtain ⟨ad, rfl, hj1, hadl, g0, g1, Y, cy, g2, hj2, hrow⟩ := (hC.hits HAT.out HS.out) k hlt
      have i1 : (k : Int) < (xs.length : Int) := by omega
      have HT := Lib.hid (show putAll most hs (xs.take (k + 1)) = (putOne most (putAll most hs (xs.take k)).1 xs[k], (putAll most hs (xs.take k)).2 + (base most (putAll most hs (xs.take k)).1 xs[k]).isSome.toNat) by rw [List.take_succ_eq_append_getElem hlt, putAll_snoc])
      have hgk : Good most (putAll most hs (xs.take k)).1 := HG.out.all hm1 fun x hx => HW.out x (List.mem_of_mem_take hx)
      have hbx : Below wr.heap.size wr (wr.alloc (.cells #[.int .u64 xs[k].1, .int .u64 xs[k].2.1, .slice Y xs[k].2.2.length cy] 36)) := (Below.refl _ _).alloc (Nat.le_refl _) _
      have hput := putK_any (fun g => g < w.heap.size ∧ S g) B b mb (n + k) most v' _ xs[k] Y cy _ (hL.below hbx) hgk hm1 hm (by omega) (hrow.below hbx) (fun g _ s => by
        obtain ⟨s1, s2, s3⟩ := HS.out g s.1 s.2
        refine ⟨s1, s2, fun e => ?_⟩
        rcases hC.new with e' | ⟨g', e', hg'⟩
        · exact s3 (e.trans e')
        · rw [e'] at e; injection e with e; omega) (HW.out _ (List.getElem_mem hlt))
      have hput2 : Calls Try.prog 25 #[.pointer (some ⟨b, 0, none⟩), .agg #[.int .u64 xs[k].1, .int .u64 xs[k].2.1, .slice Y xs[k].2.2.length cy]] (wr.alloc (.cells #[.int .u64 xs[k].1, .int .u64 xs[k].2.1, .slice Y xs[k].2.2.length cy] 36)) fun e w' => e = .returned (.bool (base most (putAll most hs (xs.take k)).1 xs[k]).isSome) ∧ ∃ v'', LstK K w' B b mb (n + (k + 1)) v'' most (putAll most hs (xs.take (k + 1))).1 ∧ Chg w w' b mb v v'' := hput.mono fun e w' ⟨v'', e1, e2, e3⟩ => ⟨e1, v'', by rw [HT.out]; exact e2, hC.trans ((Chg.of_below hbx b mb v').trans e3)⟩
      have HT2 := Lib.hid (show (putAll most hs (xs.take (k + 1))).2 = (putAll most hs (xs.take k)).2 + (base most (putAll most hs (xs.take k)).1 xs[k]).isSome.toNat by rw [HT.out])
      have HP := Lib.hid hput2
      clear hput hput2 hL hC hgk hrow hj1 hj2 hbx HT
      generalize (putAll most hs (xs.take k)).2 = cnt at *
      generalize (base most (putAll most hs (xs.take k)).1 xs[k]).isSome = bs at *
      generalize xs[k].1 = xi at *
      generalize xs[k].2.1 = xd at *
      generalize xs[k].2.2.length = xl at *
      go_wp2_with fail
      refine (HP.out).mono ?_
      rintro e w5 ⟨rfl, v5, hL5, hC5⟩
      cases bs with
      | true =>
        go_wp2_with fail
        go_roundw
        case rel => exact ⟨k + 1, v5, by omega, by go_num, by rw [HT2.out]; go_num, hL5, hC5⟩
        case measure => simp [intOf]; omega
      | false =>
        go_wp2_with fail
        go_roundw
        case rel => exact ⟨k + 1, v5, by omega, by go_num, by rw [HT2.out]; rfl, hL5, hC5⟩
        case measure => simp [intOf]; omega
    · obtain rfl : k = xs.length := by omega
      have i1 : ¬ ((xs.length : Int) < (xs.length : Int)) := by omega
      rw [List.take_of_length_le (Nat.le_refl _)] at HLK
      clear hL hC
      go_wp2_with fail
      go_ret
      exact ⟨rfl, v', HLK.out, HC.out⟩


end Go.Proofs.Ytfhnhfppamnjhaa
