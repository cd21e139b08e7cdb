/-
  The contract of ref07's Sweep.
-/
import Derived.Test.YtphcakhhjjdpiaaSwMath
namespace Go.Proofs.Ytphcakhhjjdpiaa
open Go.RowKit

theorem stay_iff {vs : List Ver} (h : Rise vs) (m : Int) {k : Nat} (hk : k < vs.length) (lastB : Bool) (hlast : lastB = true ↔ (k + 1 = vs.length ∨ ∃ h1 : k + 1 < vs.length, m < (vs[k + 1]'h1).1)) :
    (m < vs[k].1 ∨ (lastB = true ∧ 0 < vs[k].2.length)) ↔ swN vs m ≤ k := by
  obtain ⟨p1, p2, p3⟩ := h.parts m
  have hle : swN vs m ≤ cnt vs m := by rcases swN_cnt h m with ⟨_, e⟩ | ⟨_, e⟩ <;> omega
  rcases Nat.lt_or_ge k (cnt vs m) with hc | hc
  · have h1 := p2 k hk hc
    have hl : lastB = true ↔ k + 1 = cnt vs m := by
      rw [hlast]
      constructor
      · rintro (e | ⟨h2, h3⟩)
        · omega
        · rcases Nat.lt_or_ge (k + 1) (cnt vs m) with h4 | h4
          · have := p2 (k + 1) h2 h4; omega
          · omega
      · intro e
        rcases Nat.lt_or_ge (k + 1) vs.length with h2 | h2
        · exact .inr ⟨h2, p3 (k + 1) h2 (by omega)⟩
        · exact .inl (by omega)
    rcases swN_cnt h m with ⟨g, e⟩ | ⟨g, e⟩
    · constructor
      · rintro (h2 | ⟨h2, h3⟩)
        · omega
        · have := h.asOf1 m k (hl.1 h2).symm hk
          rw [gone_nil g] at this
          rw [← this] at h3
          simp at h3
      · intro h2; omega
    · constructor
      · rintro (h2 | ⟨h2, h3⟩)
        · omega
        · have := hl.1 h2; omega
      · intro h2
        have hkc : k + 1 = cnt vs m := by omega
        refine .inr ⟨hl.2 hkc, ?_⟩
        have := h.asOf1 m k hkc.symm hk
        rw [this] at g
        unfold goneB at g
        simp at g
        exact List.length_pos_iff.2 g
  · constructor
    · intro _; omega
    · intro _; exact .inl (p3 k hk hc)

theorem take_drop_lt {vs : List Ver} {k n : Nat} (h : k < n) (hk : k < vs.length) : (vs.take (k + 1)).drop n = (vs.take k).drop n ∧ stamps ((vs.take (k + 1)).take n) = stamps ((vs.take k).take n) ++ [vs[k].1] := by
  refine ⟨?_, ?_⟩
  · rw [List.drop_eq_nil_of_le (by rw [List.length_take]; omega), List.drop_eq_nil_of_le (by rw [List.length_take]; omega)]
  · rw [List.take_take, List.take_take, Nat.min_eq_right (by omega), Nat.min_eq_right (by omega), List.take_succ_eq_append_getElem hk]
    unfold stamps
    rw [List.map_append]; rfl
theorem take_drop_ge {vs : List Ver} {k n : Nat} (h : n ≤ k) (hk : k < vs.length) : (vs.take (k + 1)).drop n = (vs.take k).drop n ++ [vs[k]] ∧ stamps ((vs.take (k + 1)).take n) = stamps ((vs.take k).take n) := by
  refine ⟨?_, ?_⟩
  · rw [List.take_succ_eq_append_getElem hk, List.drop_append_of_le_length (by rw [List.length_take]; omega)]
  · rw [List.take_take, List.take_take, Nat.min_eq_left (by omega), Nat.min_eq_left (by omega)]

/-- What ref07's Sweep answers. -/
def RSweepGave (K : Nat → Prop) (w : World) (vs : List Ver) (m : Int) (e : Ending) (w' : World) : Prop :=
  ∃ A c A2 c2, e = .returned (.tuple #[.slice A (vs.drop (swN vs m)).length c, .slice A2 (stamps (vs.take (swN vs m))).length c2]) ∧ VersAt (fun g => w.heap.size ≤ g) (fun g => g < w.heap.size ∧ K g) w' A (vs.drop (swN vs m)) ∧ Row (fun g => w.heap.size ≤ g) w' A2 (u64s (stamps (vs.take (swN vs m)))) ∧ Below w.heap.size w w'

/-- Where the sweep stands behind k versions: what stays, and what went. -/
structure RSw (K : Nat → Prop) (w wr : World) (vs : List Ver) (n k : Nat) (x y : Value) : Prop where
  stay : Own2 44 (fun g => g < w.heap.size ∧ K g) wr w.heap.size x ((vs.take k).drop n)
  gone : wr.ownsRow w.heap.size 29 1 y (stamps ((vs.take k).take n)).length (u64s (stamps ((vs.take k).take n)))
  apart : ∀ g, x.ownBlock = some g → y.ownBlock ≠ some g
  bel : Below w.heap.size w wr

set_option maxRecDepth 100000 in
set_option maxHeartbeats 2000000 in
theorem rsweep_any (S K : Nat → Prop) (A : Option Addr) (c : Nat) (vs : List Ver) (m : Int) (w : World) (hat : VersAt S K w A vs) (hso : Rise vs) (hn : vs.length ≤ 1000) :
    Calls Try.prog 10 #[.slice A vs.length c, .int .u64 m] w fun e w' => RSweepGave K w vs m e w' := by
  obtain ⟨i0, hi0, hz0, hz1, hz2⟩ := info_parts Try.info29
  have HAT := Lib.hid hat
  have HSO := Lib.hid hso
  clear hat hso
  obtain ⟨sn, hsn⟩ : ∃ x, x = swN vs m := ⟨_, rfl⟩
  have HSN := Lib.hid hsn
  have HFIN : Hid (∀ (wr : World) x y, RSw K w wr vs sn vs.length x y → RSweepGave K w vs m (.returned (.tuple #[x, y])) wr) := fun wr x y R => by
    obtain ⟨r1, r2, _, r4⟩ := R
    rw [List.take_length] at r1 r2
    rw [hsn] at r1 r2
    obtain ⟨A1, c1, rfl, _, hat1⟩ := r1.vers
    obtain ⟨A2, c2, rfl, _, _, hr2⟩ := Row.of_own r2
    exact ⟨A1, c1, A2, c2, rfl, hat1.mono (fun g _ s => s.1) (fun g _ s => s.1), hr2.mono fun g _ s => s.1, r4⟩
  clear hsn
  go_enter Try.func10, Try.ntmps10
  go_wp2_with fail
  go_loopw [6, 7, 8, 9, 10, 13] (fun x y _ _ _ i wr => ∃ k : Nat, k ≤ vs.length ∧ i = .int .i64 k ∧ RSw K w wr vs sn k x y) (fun _ _ _ _ _ i _ => vs.length - (intOf i).toNat)
  case atStart => exact ⟨0, Nat.zero_le _, rfl, ⟨by simpa using Own2.start 44 _ _ _, by simpa [stamps, u64s] using World.ownsRow_nil w w.heap.size 29 1, fun g e => by simp [Value.ownBlock] at e, Below.refl _ _⟩⟩
  case round =>
    obtain ⟨k, hk, rfl, R⟩ := hrel
    by_cases hlt : k < vs.length
    · obtain ⟨ad, rfl, j1, j2, a0, Y, cy, a1, j3, hrow⟩ := (HAT.out.below R.bel) k hlt
      obtain ⟨ad0, e0, _, j20, _, Y0, _, a10, _, hrow0⟩ := HAT.out k hlt
      injection e0 with e0
      subst e0
      have hYY : Y = Y0 := by
        have := (R.bel.cell (p := ⟨(ad.add (k * 2)).block, (ad.add (k * 2)).off + 1, none⟩) (by show (ad.add (k * 2)).block < _; rw [block_add]; exact j20)).trans a10
        rw [a1] at this
        injection this with this
        injection this
      subst hYY
      have hrowk : Row (fun g => g < w.heap.size ∧ K g) wr Y (i32s vs[k].2) := (hrow0.mono fun g hg s => (⟨hg, s⟩ : g < w.heap.size ∧ K g)).below R.bel
      clear j1 j2 hrow hrow0 j20 a10
      have i1 : (k : Int) < (vs.length : Int) := by omega
      -- is it the last one at or below?
      have hnext : ∃ (lb : Bool), (lb = true ↔ (k + 1 = vs.length ∨ ∃ h1 : k + 1 < vs.length, m < (vs[k + 1]'h1).1)) ∧
          ((k + 1 = vs.length ∧ lb = true) ∨ (k + 1 < vs.length ∧ ∃ s : Int, (∀ W, Below w.heap.size w W → W.cell? (ad.add ((k + 1) * 2)) = some (.int .u64 s)) ∧ lb = decide (m < s))) := by
        by_cases h1 : k + 1 < vs.length
        · refine ⟨decide (m < vs[k + 1].1), ?_, .inr ⟨h1, vs[k + 1].1, fun W hW => ?_, rfl⟩⟩
          · rw [decide_eq_true_iff]
            constructor
            · intro h; exact .inr ⟨h1, h⟩
            · rintro (h | ⟨_, h⟩)
              · omega
              · exact h
          · obtain ⟨ad', e', _, _, b0, _⟩ := (HAT.out.below hW) (k + 1) h1
            injection e' with e'
            subst e'
            exact b0
        · exact ⟨true, ⟨fun _ => .inl (by omega), fun _ => rfl⟩, .inl ⟨by omega, rfl⟩⟩
      obtain ⟨lb, hlb, hcs⟩ := hnext
      have HST := Lib.hid (stay_iff HSO.out m hlt lb hlb)
      rw [← HSN.out] at HST
      have HR := Lib.hid R
      have HRK := Lib.hid hrowk
      have hbr := R.bel
      obtain ⟨wb, hwb⟩ : ∃ x, x = wr.alloc (.cells #[.int .u64 vs[k].1, .slice Y vs[k].2.length cy] 44) := ⟨_, rfl⟩
      have hbb : Below wr.heap.size wr wb := by rw [hwb]; exact (Below.refl _ _).alloc (Nat.le_refl _) _
      have hqb : wb.heap[wr.heap.size]? = some (.cells #[.int .u64 vs[k].1, .slice Y vs[k].2.length cy] 44 (0, 0)) := by rw [hwb]; exact heap_alloc_new wr _
      have hsb : wr.heap.size < wb.heap.size := by rw [hwb]; simp
      have q0 := two_cell0 hqb
      have q1 := two_cell1 hqb
      have hcs' : (((k : Int) + 1 == (vs.length : Int)) = true ∧ lb = true) ∨ (((k : Int) + 1 == (vs.length : Int)) = false ∧ (k : Int) + 1 < (vs.length : Int) ∧ ∃ s : Int, wb.cell? (ad.add ((k + 1) * 2)) = some (.int .u64 s) ∧ lb = decide (m < s)) := by
        rcases hcs with ⟨h1, h2⟩ | ⟨h1, s, h2, h3⟩
        · exact .inl ⟨by simp; omega, h2⟩
        · exact .inr ⟨by simp; omega, by omega, s, h2 _ (hbr.trans (hbb.mono hbr.size)), h3⟩
      have HCS := Lib.hid hcs'
      have HWB := Lib.hid hwb
      have HBB := Lib.hid hbb
      have HQB := Lib.hid hqb
      have hVL := Lib.hid hlt
      have hk1000 : (k : Int) ≤ 1000 := by omega
      have HXS : Hid (∀ x y w4, Below w.heap.size w w4 → k + 1 ≤ vs.length → (RSw K w w4 vs sn (k + 1) x y → RSw K w w4 vs sn (k + 1) x y)) := fun x y w4 _ _ h => h
      clear hcs hcs' hlb R hrowk hbr hwb hbb hqb
      go_upto_region 6 with fail
      rw [← HWB.out]
      go_cut [10] (fun x wx => x = .bool lb ∧ wx = wb)
      case first =>
        rcases HCS.out with ⟨h1, h2⟩ | ⟨h1, h2, s, h3, h4⟩
        · subst h2
          go_wp2_with fail
          go_meet
          exact ⟨rfl, rfl⟩
        · subst h4
          go_wp2_with fail
          go_meet
          exact ⟨rfl, rfl⟩
      case rest =>
        obtain ⟨rfl, hwc⟩ := hcut
        rw [hwc]
        clear hwc a0 a1 HCS
        obtain ⟨sb, hsb2⟩ : ∃ x, x = decide (sn ≤ k) := ⟨_, rfl⟩
        have HSB : Hid ((m < vs[k].1 ∨ (lb = true ∧ 0 < vs[k].2.length)) ↔ sb = true) := by
          show _ ↔ _
          rw [hsb2, decide_eq_true_iff]
          exact HST.out
        have HSB2 := Lib.hid hsb2
        clear hsb2
        go_upto_region 7 with fail
        go_cut [45] (fun x wx => x = .bool sb ∧ wx = wb)
        case first =>
          by_cases h1 : m < vs[k].1
          · obtain rfl : sb = true := HSB.out.1 (.inl h1)
            go_wp2_with fail
            go_meet
            exact ⟨rfl, rfl⟩
          · cases lb with
            | false =>
              have hf : sb = false := by
                cases sb with
                | false => rfl
                | true =>
                  rcases HSB.out.2 rfl with h | ⟨h, _⟩
                  · exact absurd h h1
                  · cases h
              subst hf
              have HN1 : Hid (¬ m < vs[k].1) := h1
              go_wp2_with fail
              go_meet
              exact ⟨congrArg Value.bool (decide_eq_false (by have := HN1.out; omega)), rfl⟩
            | true =>
              have HN1 : Hid (¬ m < vs[k].1) := h1
              by_cases h2 : 0 < vs[k].2.length
              · obtain rfl : sb = true := HSB.out.1 (.inr ⟨rfl, h2⟩)
                have h2' : (0 : Int) < (vs[k].2.length : Int) := by omega
                have HN2 : Hid (0 < vs[k].2.length) := h2
                go_wp2_with fail
                go_meet
                exact ⟨congrArg Value.bool (Bool.or_eq_true_iff.2 (.inr (decide_eq_true (by have := HN2.out; omega)))), rfl⟩
              · have hf : sb = false := by
                  cases sb with
                  | false => rfl
                  | true =>
                    rcases HSB.out.2 rfl with h | ⟨_, h⟩
                    · exact absurd h h1
                    · exact absurd h h2
                subst hf
                have h2' : ¬ (0 : Int) < (vs[k].2.length : Int) := by omega
                have HN2 : Hid (¬ 0 < vs[k].2.length) := h2
                go_wp2_with fail
                go_meet
                exact ⟨congrArg Value.bool (Bool.or_eq_false_iff.2 ⟨decide_eq_false (by have := HN1.out; omega), decide_eq_false (by have := HN2.out; omega)⟩), rfl⟩
        case rest =>
          obtain ⟨rfl, hwc⟩ := hcut
          rw [hwc]
          clear hwc HSB HST
          obtain ⟨r1, r2, r3, r4⟩ := HR.out
          have hbw : Below w.heap.size w wb := r4.trans (HBB.out.mono r4.size)
          have hle : w.heap.size ≤ wr.heap.size := r4.size
          cases sb with
          | true =>
            have hsk : sn ≤ k := by have := HSB2.out; simpa using this.symm
            obtain ⟨t1, t2⟩ := take_drop_ge hsk hlt
            obtain ⟨cs, hcs, hce⟩ := r1
            have hlow6 : ∀ g, u6.ownBlock = some g → w.heap.size ≤ g ∧ g < wr.heap.size := fun g e => own_lt hcs e
            have hlow7 : ∀ g, u7.ownBlock = some g → w.heap.size ≤ g ∧ g < wr.heap.size := fun g e => own_lt r2 e
            have hba : Below wb.heap.size wb (wb.alloc (.cells #[.int .u64 vs[k].1, .slice Y vs[k].2.length cy] 44)) := (Below.refl _ _).alloc (Nat.le_refl _) _
            have HCSA : Hid ((wb.alloc (.cells #[.int .u64 vs[k].1, .slice Y vs[k].2.length cy] 44)).ownsRow w.heap.size 44 2 u6 ((vs.take k).drop sn).length cs) := own_below (own_below hcs HBB.out) hba
            have HSRC : Hid (∀ j u, ([Value.int .u64 vs[k].1, .slice Y vs[k].2.length cy])[j]? = some u → ∃ ad, some (⟨wb.heap.size, 0, none⟩ : Addr) = some ad ∧ (wb.alloc (.cells #[.int .u64 vs[k].1, .slice Y vs[k].2.length cy] 44)).cell? (ad.add j) = some u) := fun j u hj => ⟨_, rfl, World.news_of_block (cs := #[.int .u64 vs[k].1, .slice Y vs[k].2.length cy]) (t := 44) (fr := (0, 0)) (heap_alloc_new wb _) j u hj⟩
            have HSTEP : Hid (∀ (x' : Value) (w4 : World), w4.ownsRow w.heap.size 44 2 x' (((vs.take k).drop sn).length + 1) (cs ++ [.int .u64 vs[k].1, .slice Y vs[k].2.length cy]) → (wb.alloc (.cells #[.int .u64 vs[k].1, .slice Y vs[k].2.length cy] 44)).grownBy w4 u6.ownBlock → (x'.ownBlock = u6.ownBlock ∨ x'.ownBlock = some (wb.alloc (.cells #[.int .u64 vs[k].1, .slice Y vs[k].2.length cy] 44)).heap.size) → RSw K w w4 vs sn (k + 1) x' u7) := fun x' w4 ho4 hg4 ha4 => by
              refine ⟨?_, ?_, ?_, ?_⟩
              · rw [t1]
                exact Own2.step (K := fun g => g < w.heap.size ∧ K g) hba (hce.kept HBB.out.size fun g hg s => ⟨HBB.out.block g hg, s⟩) (Cells2.one vs[k] Y cy j3 ((HRK.out.mono fun g _ s => (⟨s, fun e => by have := (hlow6 g e.symm).1; omega⟩ : (g < w.heap.size ∧ K g) ∧ some g ≠ u6.ownBlock)).below HBB.out)) ho4 (by simp) hg4 ha4 (by simp)
              · rw [t2]
                exact own_kept (row := u6.ownBlock) (own_below (own_below r2 HBB.out) hba) hg4 fun g e e' => r3 g e' e
              · intro g e e7
                rcases ha4 with e' | e'
                · exact r3 g (e'.symm.trans e) e7
                · rw [e'] at e; injection e with e; have := (hlow7 g e7).2; simp at e; omega
              · exact (hbw.alloc hbw.size _).grown hg4 (hbw.alloc hbw.size _).size (fun g e => (hlow6 g e).1)
            have hos : ((vs.take k).drop sn).length ≤ 1000 := by rw [List.length_drop, List.length_take]; omega
            have HBAS : Hid (w.heap.size ≤ (wb.alloc (.cells #[.int .u64 vs[k].1, .slice Y vs[k].2.length cy] 44)).heap.size) := (hbw.alloc hbw.size _).size
            clear hcs hce r2 r3 r4 t1 t2 hbw hba HXS HSB2 HQB HRK
            generalize ((vs.take k).drop sn).length = ol at *
            generalize vs[k].1 = xi at *
            generalize vs[k].2.length = xl at *
            go_wp2_with (at_builtin; refine wpList_append_vers 28 44 Try.underlying28 Try.info44 _ rfl (.tmp 46) (.tmp 48) rfl w.heap.size _ ol cs rfl HCSA.out (some ⟨wb.heap.size, 0, none⟩) 1 1 [.int .u64 xi, .slice Y xl cy] rfl rfl HSRC.out (by simp [Value.oneCell']) ?c1 ?c2 ?_; rotate_right; intro A4 c4 w4 ho4 hg4 ha4)
            case c1 => omega
            case c2 => exact HBAS.out
            have HN := Lib.hid (HSTEP.out _ w4 ho4 hg4 ha4)
            clear ho4 hg4 ha4
            go_roundw
            case rel => exact ⟨k + 1, by omega, by go_num, HN.out⟩
            case measure => simp [intOf]; omega
          | false =>
            have hsk : k < sn := by have := HSB2.out; simpa using this.symm
            obtain ⟨t1, t2⟩ := take_drop_lt hsk hlt
            have hlow6 : ∀ g, u6.ownBlock = some g → w.heap.size ≤ g ∧ g < wr.heap.size := fun g e => r1.low e
            have hlow7 : ∀ g, u7.ownBlock = some g → w.heap.size ≤ g ∧ g < wr.heap.size := fun g e => own_lt r2 e
            have hba : Below wb.heap.size wb (wb.alloc (.cells #[.int .u64 vs[k].1] 29)) := (Below.refl _ _).alloc (Nat.le_refl _) _
            have HOA : Hid ((wb.alloc (.cells #[.int .u64 vs[k].1] 29)).ownsRow w.heap.size 29 1 u7 (stamps ((vs.take k).take sn)).length (u64s (stamps ((vs.take k).take sn)))) := own_below (own_below r2 HBB.out) hba
            have HRR : Hid (Row (fun _ => True) (wb.alloc (.cells #[.int .u64 vs[k].1] 29)) (some ⟨wb.heap.size, 0, none⟩) [.int .u64 vs[k].1]) := Row.of_block (t := 29) (fr := (0, 0)) (heap_alloc_new wb _) trivial
            have HSTEP : Hid (∀ (y' : Value) (w4 : World), w4.ownsRow w.heap.size 29 1 y' ((stamps ((vs.take k).take sn)).length + 1) (u64s (stamps ((vs.take k).take sn)) ++ [.int .u64 vs[k].1]) → (wb.alloc (.cells #[.int .u64 vs[k].1] 29)).grownBy w4 u7.ownBlock → (y'.ownBlock = u7.ownBlock ∨ y'.ownBlock = some (wb.alloc (.cells #[.int .u64 vs[k].1] 29)).heap.size) → RSw K w w4 vs sn (k + 1) u6 y') := fun y' w4 ho4 hg4 ha4 => by
              have hsz : wb.heap.size ≤ (wb.alloc (.cells #[.int .u64 vs[k].1] 29)).heap.size := hba.size
              refine ⟨?_, ?_, ?_, ?_⟩
              · rw [t1]
                refine ((r1.below HBB.out).below hba).kept hg4.size (fun g hg e => hg4.block g hg (fun e' => r3 g e.symm e'.symm)) fun g hg s => ⟨hg4.block g hg (fun e' => by have := (hlow7 g e'.symm).1; omega), s⟩
              · rw [t2]
                have e1 : ∀ (L : List Int) (x : Int), u64s (L ++ [x]) = u64s L ++ [.int .u64 x] := fun L x => by unfold u64s; rw [List.map_append]; rfl
                rw [e1, List.length_append, List.length_singleton]
                exact ho4
              · intro g e e7
                rcases ha4 with e' | e'
                · exact r3 g e (e'.symm.trans e7)
                · rw [e'] at e7; injection e7 with e7; have := (hlow6 g e).2; simp at e7; omega
              · exact (hbw.alloc hbw.size _).grown hg4 (hbw.alloc hbw.size _).size (fun g e => (hlow7 g e).1)
            have hos : (stamps ((vs.take k).take sn)).length ≤ 1000 := by unfold stamps; rw [List.length_map, List.length_take, List.length_take]; omega
            have HBAS : Hid (w.heap.size ≤ (wb.alloc (.cells #[.int .u64 vs[k].1] 29)).heap.size) := (hbw.alloc hbw.size _).size
            clear r1 r2 r3 r4 t1 t2 hbw hba HXS HSB2 HQB HRK
            generalize (stamps ((vs.take k).take sn)).length = ol at *
            generalize u64s (stamps ((vs.take k).take sn)) = ul at *
            generalize vs[k].1 = xi at *
            generalize vs[k].2.length = xl at *
            go_wp2_with (at_builtin; refine wpList_append_row _ rfl (.tmp 50) (.tmp 53) 33 rfl w.heap.size 29 i0 (.int .u64 0) 8 Try.underlying33 hi0 hz0 hz1 hz2 rfl _ ol _ rfl HOA.out (fun _ => True) (some ⟨wb.heap.size, 0, none⟩) 1 1 [.int .u64 xi] rfl rfl HRR.out (by simp [Value.oneCell']) ?c3 ?c4 ?c5 ?_; rotate_right; intro A4 c4 w4 ho4 hg4 ha4)
            case c3 => unfold maxLen; omega
            case c4 => omega
            case c5 => exact HBAS.out
            have HN := Lib.hid (HSTEP.out _ w4 ho4 hg4 ha4)
            clear ho4 hg4 ha4
            go_roundw
            case rel => exact ⟨k + 1, by omega, by go_num, HN.out⟩
            case measure => simp [intOf]; omega
    · obtain rfl : k = vs.length := by omega
      have i1 : ¬ ((vs.length : Int) < (vs.length : Int)) := by omega
      have HG := Lib.hid (HFIN.out wr _ _ R)
      clear R
      go_wp2_with fail
      go_ret2
      exact HG.out

end Go.Proofs.Ytphcakhhjjdpiaa
