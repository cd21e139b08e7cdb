/-
  A chain in memory; the contracts of gone, Len, Last, own.
-/
import Derived.Test.YtphcakhhjjdpiaaVer
import Derived.Deep.QuietTactic
import Derived.Deep.AppendLies
namespace Go.Proofs.Ytphcakhhjjdpiaa
open Go.RowKit

/-- A chain: its block, its row of versions; of the vectors' blocks K holds. -/
structure Chn (K : Nat → Prop) (w : World) (B b : Nat) (v : Value) (vs : List Ver) : Prop where
  blk : w.heap[b]? = some (.cells #[v] 61 (0, 0))
  row : Own2 41 (fun g => K g ∧ g ≠ b) w B v vs
  lob : B ≤ b

/-- What a change of a chain leaves as it was. -/
structure Chg (w w' : World) (b : Nat) (v v' : Value) : Prop where
  os : w'.os = w.os
  tape : w'.tape = w.tape
  output : w'.output = w.output
  size : w.heap.size ≤ w'.heap.size
  block : ∀ g, g < w.heap.size → g ≠ b → some g ≠ v.ownBlock → w'.heap[g]? = w.heap[g]?
  new : v'.ownBlock = v.ownBlock ∨ ∃ g, v'.ownBlock = some g ∧ w.heap.size ≤ g

theorem Chg.refl (w : World) (b : Nat) (v : Value) : Chg w w b v v := ⟨rfl, rfl, rfl, Nat.le_refl _, fun _ _ _ _ => rfl, .inl rfl⟩
theorem Chg.trans {w w' w'' : World} {b : Nat} {v v' v'' : Value} (h : Chg w w' b v v') (h' : Chg w' w'' b v' v'') : Chg w w'' b v v'' := by
  refine ⟨h'.os.trans h.os, h'.tape.trans h.tape, h'.output.trans h.output, Nat.le_trans h.size h'.size, fun g hg h1 h3 => ?_, ?_⟩
  · rw [h'.block g (Nat.lt_of_lt_of_le hg h.size) h1 ?_, h.block g hg h1 h3]
    rcases h.new with e | ⟨g', e, hg'⟩
    · rw [e]; exact h3
    · rw [e]; intro e'; injection e' with e'; omega
  · rcases h'.new with e | ⟨g', e, hg'⟩
    · rcases h.new with e2 | ⟨g2, e2, hg2⟩
      · exact .inl (e.trans e2)
      · exact .inr ⟨g2, e.trans e2, hg2⟩
    · exact .inr ⟨g', e, Nat.le_trans h.size hg'⟩
theorem Chg.of_below {w w' : World} (h : Below w.heap.size w w') (b : Nat) (v : Value) : Chg w w' b v v := ⟨h.os, h.tape, h.output, h.size, fun g hg _ _ => h.block g hg, .inl rfl⟩
theorem Chg.below {w0 w w' : World} {b : Nat} {v v' : Value} (h : Chg w w' b v v') (h0 : Below w0.heap.size w0 w) (hb : w0.heap.size ≤ b) (hv : ∀ g, v.ownBlock = some g → w0.heap.size ≤ g) : Below w0.heap.size w0 w' :=
  ⟨h.os.trans h0.os, h.tape.trans h0.tape, h.output.trans h0.output, Nat.le_trans h0.size h.size, fun g hg => (h.block g (Nat.lt_of_lt_of_le hg h0.size) (by omega) (fun e => by have := hv g e.symm; omega)).trans (h0.block g hg)⟩

theorem Chn.ne {K : Nat → Prop} {w : World} {B b : Nat} {v : Value} {vs : List Ver} (h : Chn K w B b v vs) : v.ownBlock ≠ some b := fun e => by
  obtain ⟨cs, ⟨_, hr⟩, _⟩ := h.row
  have hb := h.blk
  rcases hr with ⟨rfl, _⟩ | ⟨g, cap, cur, rfl, _, hh, _⟩
  · cases e
  · simp [Value.ownBlock] at e
    subst e
    rw [hb] at hh
    simp at hh
theorem Chn.lt {K : Nat → Prop} {w : World} {B b : Nat} {v : Value} {vs : List Ver} (h : Chn K w B b v vs) : b < w.heap.size ∧ B ≤ w.heap.size := by
  have := lt_of_block h.blk
  exact ⟨this, by have := h.lob; omega⟩
theorem Chn.low {K : Nat → Prop} {w : World} {B b g : Nat} {v : Value} {vs : List Ver} (h : Chn K w B b v vs) (hv : v.ownBlock = some g) : B ≤ g ∧ g < w.heap.size := h.row.low hv
/-- A chain is as it was where none of its blocks has changed. -/
theorem Chn.kept {K K' : Nat → Prop} {w w' : World} {B b : Nat} {v : Value} {vs : List Ver} (h : Chn K w B b v vs) (hs' : w.heap.size ≤ w'.heap.size) (hb : w'.heap[b]? = w.heap[b]?) (hk : ∀ g, g < w.heap.size → some g = v.ownBlock → w'.heap[g]? = w.heap[g]?) (hK : ∀ g, g < w.heap.size → K g → w'.heap[g]? = w.heap[g]? ∧ K' g) : Chn K' w' B b v vs :=
  ⟨hb.trans h.blk, h.row.kept hs' hk fun g hg s => ⟨(hK g hg s.1).1, (hK g hg s.1).2, s.2⟩, h.lob⟩
theorem Chn.mono {K K' : Nat → Prop} {w : World} {B b : Nat} {v : Value} {vs : List Ver} (h : Chn K w B b v vs) (hK : ∀ g, g < w.heap.size → K g → K' g) : Chn K' w B b v vs := h.kept (Nat.le_refl _) rfl (fun _ _ _ => rfl) fun g hg s => ⟨rfl, hK g hg s⟩
theorem Chn.below {K : Nat → Prop} {w w' : World} {B b : Nat} {v : Value} {vs : List Ver} (h : Chn K w B b v vs) (hb : Below w.heap.size w w') : Chn K w' B b v vs := h.kept hb.size (hb.block b h.lt.1) (fun g hg _ => hb.block g hg) fun g hg s => ⟨hb.block g hg, s⟩
theorem Chn.drew {K : Nat → Prop} {w : World} {B b : Nat} {v : Value} {vs : List Ver} (h : Chn K w B b v vs) : Chn K w.drew B b v vs := h.below ((Below.refl _ _).drew)
theorem Chn.drewN {K : Nat → Prop} {w : World} {B b : Nat} {v : Value} {vs : List Ver} (h : Chn K w B b v vs) (n : Nat) : Chn K (w.drewN n) B b v vs := h.below (below_drewN (Below.refl _ _) n)
theorem Chn.cell {K : Nat → Prop} {w : World} {B b : Nat} {v : Value} {vs : List Ver} (h : Chn K w B b v vs) : w.cell? ⟨b, 0, none⟩ = some v := one_cell h.blk
theorem Chn.vers {K : Nat → Prop} {w : World} {B b : Nat} {v : Value} {vs : List Ver} (h : Chn K w B b v vs) : ∃ A c, v = .slice A vs.length c ∧ vs.length ≤ c ∧ VersAt (fun g => B ≤ g ∧ g ≠ b ∧ some g = v.ownBlock) (fun g => K g ∧ g ≠ b ∧ some g ≠ v.ownBlock) w A vs := by
  obtain ⟨A, c, e, hc, hat⟩ := h.row.vers
  exact ⟨A, c, e, hc, hat.mono (fun g _ s => ⟨s.1, fun e' => h.ne (by rw [← s.2, e']), s.2⟩) (fun g _ s => ⟨s.1.1, s.1.2, s.2⟩)⟩

def goneB (l : List Int) : Bool := decide (l.length = 0)

set_option maxHeartbeats 400000 in
theorem gone_any (s : Int) (X : Option Addr) (l : List Int) (c : Nat) (w : World) :
    Calls Try.prog 25 #[.agg #[.int .u64 s, .slice X l.length c]] w fun e w' => e = .returned (.bool (goneB l)) ∧ Below w.heap.size w w' := by
  have h : ((l.length : Int) == 0) = goneB l := by
    unfold goneB
    by_cases h : l.length = 0 <;> simp [h]
  go_enter Try.func25, Try.ntmps25
  go_wp2_with fail
  go_ret
  exact ⟨rfl, (Below.refl _ _).alloc (Nat.le_refl _) _⟩

set_option maxHeartbeats 400000 in
theorem len_nil (w : World) : Calls Try.prog 23 #[.pointer none] w fun e w' => e = .returned (.int .i64 0) ∧ w = w' := by
  go_enter Try.func23, Try.ntmps23
  go_wp2_with fail
  go_ret
  exact ⟨rfl, rfl⟩
set_option maxHeartbeats 400000 in
theorem len_any (K : Nat → Prop) (B b : Nat) (v : Value) (vs : List Ver) (w : World) (L : Chn K w B b v vs) : Calls Try.prog 23 #[.pointer (some ⟨b, 0, none⟩)] w fun e w' => e = .returned (.int .i64 (vs.length : Int)) ∧ w = w' := by
  have c0 := L.cell
  obtain ⟨A, ca, rfl, _, _⟩ := L.vers
  clear L
  go_enter Try.func23, Try.ntmps23
  go_wp2_with fail
  go_ret
  exact ⟨rfl, rfl⟩

/-- the last version's stamp -/
def lastS (vs : List Ver) : Int := (vs.getLastD (0, [])).1
theorem lastS_at (vs : List Ver) (m : Nat) (h : vs.length = m + 1) : lastS vs = (vs[m]'(by omega)).1 := by
  have h' : vs.length - 1 = m := by omega
  unfold lastS
  rw [List.getLastD_eq_getLast?, List.getLast?_eq_getElem?, h', List.getElem?_eq_getElem (by omega)]
  rfl

set_option maxHeartbeats 400000 in
theorem last_nil (w : World) : Calls Try.prog 22 #[.pointer none] w fun e w' => e = .returned (.int .u64 0) ∧ w = w' := by
  have HL : Hid (∀ W, Calls Try.prog 23 #[.pointer none] W fun e w' => e = .returned (.int .i64 0) ∧ W = w') := fun W => len_nil W
  go_enter Try.func22, Try.ntmps22
  go_wp2_with fail
  refine (HL.out _).mono ?_
  rintro e w' ⟨rfl, rfl⟩
  go_wp2_with fail
  go_ret
  exact ⟨rfl, rfl⟩

set_option maxRecDepth 100000 in
set_option maxHeartbeats 400000 in
theorem last_any (K : Nat → Prop) (B b : Nat) (v : Value) (vs : List Ver) (w : World) (L : Chn K w B b v vs) (hl : vs.length ≤ 1000) : Calls Try.prog 22 #[.pointer (some ⟨b, 0, none⟩)] w fun e w' => e = .returned (.int .u64 (lastS vs)) ∧ ∃ n, w' = w.drewN n := by
  have HL := Lib.hid (len_any K B b v vs w L)
  have c0 := L.cell
  obtain ⟨A, ca, rfl, hca, hat⟩ := L.vers
  clear L
  by_cases h0 : vs.length = 0
  · have : vs = [] := List.eq_nil_of_length_eq_zero h0
    subst this
    simp only [List.length_nil, Int.natCast_zero] at HL
    go_enter Try.func22, Try.ntmps22
    go_wp2_with fail
    refine (HL.out).mono ?_
    rintro e w' ⟨rfl, rfl⟩
    go_wp2_with fail
    go_ret
    exact ⟨rfl, 0, rfl⟩
  · obtain ⟨m, hm⟩ : ∃ m, vs.length = m + 1 := ⟨vs.length - 1, by omega⟩
    have hml : m < vs.length := by omega
    obtain ⟨ad, rfl, j1, hadl, a0, X, cx, j2, j3, j4⟩ := hat m hml
    clear j1 j2 j3 j4
    have HF := Lib.hid (lastS_at vs m hm)
    rw [hm] at c0 HL
    have i1 : IntKind.i64.wrap ((m : Int) + 1 - 1) = (m : Int) := by rw [IntKind.wrap_i64]; omega
    have i1' : IntKind.i64.wrap (m : Int) = (m : Int) := by rw [IntKind.wrap_i64]; omega
    have i2 : (m : Int) < (m : Int) + 1 := by omega
    have i2' : (0 : Int) ≤ (m : Int) := by omega
    have i2'' : m < m + 1 := by omega
    have i3 : ((m : Int) + 1 == 0) = false := by simp; omega
    generalize vs[m].1 = xi at *
    clear hat hm h0 hml
    go_enter Try.func22, Try.ntmps22
    go_wp2_with fail
    refine (HL.out).mono ?_
    rintro e w' ⟨rfl, rfl⟩
    clear HL
    go_wp2_with fail
    go_quiet (fail)
    go_wp2_with fail
    go_ret
    exact ⟨by rw [HF.out]; rfl, _, rfl⟩

/-- The same version, its vector in new memory, which may be written to. -/
def GaveVer (w : World) (h : Ver) (e : Ending) (w' : World) : Prop :=
  ∃ A c, e = .returned (.agg #[.int .u64 h.1, .slice A h.2.length c]) ∧ h.2.length ≤ c ∧ Row (fun g => w.heap.size ≤ g) w' A (i32s h.2) ∧ FreeA (fun g => w.heap.size ≤ g) w' A ∧ Below w.heap.size w w'

set_option maxRecDepth 100000 in
set_option maxHeartbeats 1000000 in
theorem own_any (S : Nat → Prop) (h : Ver) (X : Option Addr) (c : Nat) (w : World) (hr : Row S w X (i32s h.2)) (hl : h.2.length ≤ 1000) :
    Calls Try.prog 28 #[.agg #[.int .u64 h.1, .slice X h.2.length c]] w fun e w' => GaveVer w h e w' := by
  obtain ⟨i0, hi, hz0, hz1, hz2⟩ := info_parts Try.info21
  unfold GaveVer
  generalize h.1 = id at *
  generalize h.2 = l at *
  obtain ⟨w2, hw2⟩ : ∃ x, x = (w.alloc (.cells #[.int .u64 id, .slice X l.length c] 41)).alloc (.cells #[.int .u64 0, .slice none 0 0] 41) := ⟨_, rfl⟩
  have hb2 : Below w.heap.size w w2 := by rw [hw2]; exact ((Below.refl _ _).alloc (Nat.le_refl _) _).alloc (by simp) _
  have hX : w2.heap[w.heap.size]? = some (.cells #[.int .u64 id, .slice X l.length c] 41 (0, 0)) := by rw [hw2, Below.heap_alloc _ _ _ (by simp)]; exact heap_alloc_new w _
  have hY : w2.heap[w.heap.size + 1]? = some (.cells #[.int .u64 0, .slice none 0 0] 41 (0, 0)) := by
    rw [hw2]
    have := heap_alloc_new (w.alloc (.cells #[.int .u64 id, .slice X l.length c] 41)) (.cells #[.int .u64 0, .slice none 0 0] 41)
    simpa using this
  have hs2 : w2.heap.size = w.heap.size + 2 := by rw [hw2]; simp
  have hr2 := hr.below hb2
  have hlen := i32s_len l
  have h1c := i32s_one l
  have x1 := two_cell1 hX
  have HX := Lib.hid hX
  have HY := Lib.hid hY
  have HB2 := Lib.hid hb2
  have HLEN := Lib.hid hlen
  clear hX hY hb2 hlen hr
  have hown0 : w2.ownsRow w2.heap.size 21 1 (.slice none 0 0) 0 [] := World.ownsRow_nil w2 _ 21 1
  have HR2 := Lib.hid hr2
  clear hr2
  have HL1 : Hid (w.heap.size < w2.heap.size) := by show _ < _; omega
  have HL2 : Hid (w.heap.size + 1 < w2.heap.size) := by show _ < _; omega
  have HNO : Hid (∀ g : Nat, some g ≠ (Value.slice none 0 0).ownBlock) := fun g => by simp [Value.ownBlock]
  have HS2 := Lib.hid hs2
  clear hs2
  subst hw2
  go_enter Try.func28, Try.ntmps28
  go_wp2_with (at_builtin; refine wpList_append_row _ rfl (.const (.slice none 0 0)) (.tmp 4) 30 rfl _ 21 i0 (.int .i32 0) 4 Try.underlying30 hi hz0 hz1 hz2 rfl _ 0 [] rfl hown0 S X l.length c (i32s l) rfl HLEN.out HR2.out h1c ?c3 ?c4 ?c5 ?_; rotate_right; intro A' c' w' hown hgrow hat; have hX' := (hgrow.block _ HL1.out (HNO.out _)).trans HX.out; have hY' := (hgrow.block _ HL2.out (HNO.out _)).trans HY.out; have x0' := two_cell0 hX'; have x1' := two_cell1 hX'; have f2 := two_free (k := 1) hX'; have y0 := two_cell0 hY'; have y1 := two_cell1 hY'; have p0 := two_free (k := 0) hY'; have p1 := two_free (k := 1) hY'; have HX' := Lib.hid hX'; have HY' := Lib.hid hY'; have HOWN := Lib.hid hown; have HGROW := Lib.hid hgrow; clear hX' hY' hown hgrow hat)
  case c3 => unfold maxLen; omega
  case c4 => omega
  case c5 => exact Nat.le_refl _
  rw [Nat.zero_add] at HOWN
  obtain ⟨w9, hw9⟩ : ∃ x, x = ((w'.setCell ⟨w.heap.size, 1, none⟩ (.slice A' l.length c')).setCell ⟨w.heap.size + 1, 0, none⟩ (.int .u64 id)).setCell ⟨w.heap.size + 1, 1, none⟩ (.slice A' l.length c') := ⟨_, rfl⟩
  have hk9 : ∀ g, g ≠ w.heap.size → g ≠ w.heap.size + 1 → w9.heap[g]? = w'.heap[g]? := fun g g1 g2 => by rw [hw9, Below.heap_setCell _ _ _ _ g2, Below.heap_setCell _ _ _ _ g2, Below.heap_setCell _ _ _ _ g1]
  have hs9 : w9.heap.size = w'.heap.size := by rw [hw9]; simp only [set_size]
  have hg2 := HGROW.out
  have hb9 : Below w.heap.size w w9 := by
    have hb2 := HB2.out
    refine ⟨?_, ?_, ?_, by rw [hs9]; exact Nat.le_trans hb2.size hg2.size, fun k hk => ?_⟩
    · rw [hw9]; simp only [set_os]; exact hg2.os.trans hb2.os
    · rw [hw9]; simp only [set_tape]; exact hg2.tape.trans hb2.tape
    · rw [hw9]; simp only [set_output]; exact hg2.output.trans hb2.output
    · rw [hk9 k (by omega) (by omega), hg2.block k (by have := HS2.out; omega) (HNO.out k)]
      exact hb2.block k hk
  obtain ⟨A5, c5, e5, hc5, _, hr5⟩ := Row.of_own HOWN.out
  injection e5 with e51 e52 e53
  subst e51 e53
  have hr9 : Row (fun g => w.heap.size ≤ g) w9 A' (i32s l) := (hr5.kept (by omega) fun g _ s => hk9 g (by have := HS2.out; omega) (by have := HS2.out; omega)).mono fun g _ s => by have := HS2.out; omega
  have hf9 : FreeA (fun g => w.heap.size ≤ g) w9 A' := ((freeA_own HOWN.out).kept (by omega) fun g _ s => hk9 g (by have := HS2.out; omega) (by have := HS2.out; omega)).mono fun g _ s => by have := HS2.out; omega
  have hY9 : w9.heap[w.heap.size + 1]? = some (.cells #[.int .u64 id, .slice A' l.length c'] 41 (0, 0)) := by
    rw [hw9]
    exact two_set1 (two_set0 ((Below.heap_setCell _ _ _ _ (by simp)).trans HY'.out))
  have z0 := two_cell0 hY9
  have z1 := two_cell1 hY9
  rw [← hw9]
  have HG : Hid (l.length ≤ c' ∧ Row (fun g => w.heap.size ≤ g) w9 A' (i32s l) ∧ FreeA (fun g => w.heap.size ≤ g) w9 A' ∧ Below w.heap.size w w9) := ⟨hc5, hr9, hf9, hb9⟩
  clear hw9 hs9 hk9 hb9 hr9 hf9 hr5 hg2 hY9 x0' x1' f2 y0 y1 p0 p1
  refine bodyPost_ret (v := .agg #[.int .u64 id, .slice A' l.length c']) (by simp [results, Try.results28, go_sem, z0, z1]) rfl ?_
  exact ⟨A', c', rfl, HG.out.1, HG.out.2.1, HG.out.2.2.1, HG.out.2.2.2⟩

end Go.Proofs.Ytphcakhhjjdpiaa
