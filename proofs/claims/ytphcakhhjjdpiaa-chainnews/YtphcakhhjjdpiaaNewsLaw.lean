/-
  The walk of ChainNews.
-/
import Derived.Test.YtphcakhhjjdpiaaRPut
import Derived.Test.YtphcakhhjjdpiaaRefs
import Derived.Test.YtphcakhhjjdpiaaBack
namespace Go.Proofs.Ytphcakhhjjdpiaa
open Go.RowKit

def cutV (v : Ver) : Ver := (v.1, v.2.take 10)
def cutL (vs : List Ver) : List Ver := vs.map cutV
theorem cutL_step {vs : List Ver} {k : Nat} (h : k < vs.length) : cutL (vs.take (k + 1)) = cutL (vs.take k) ++ [cutV vs[k]] := by
  unfold cutL
  rw [List.take_succ_eq_append_getElem h, List.map_append]; rfl
theorem putAll_good : ∀ (xs vs : List Ver), GoodC vs → GoodC (putAll vs xs).1
  | [], vs, h => h
  | x :: xs, vs, h => by
    simp only [putAll]
    split
    · rename_i h0
      have := h.put x
      unfold putV at this
      rw [if_pos h0] at this
      exact putAll_good xs _ this
    · exact h

theorem own_slice {w : World} {B e s n : Nat} {v : Value} {xs : List Value} (h : w.ownsRow B e s v n xs) : ∃ A c, v = .slice A n c := by
  rcases h.2 with ⟨rfl, rfl⟩ | ⟨g, cap, cur, rfl, _⟩
  · exact ⟨none, 0, rfl⟩
  · exact ⟨_, cap, rfl⟩

set_option maxRecDepth 100000 in
set_option maxHeartbeats 2000000 in
theorem law_news (A : Option Addr) (c : Nat) (l : List Ver) (w : World) (hat : VersAt (fun g => g < w.heap.size) (fun g => g < w.heap.size) w A l) (hol : l.length ≤ 9223372036854775807) (hvl : ∀ x ∈ l, x.2.length ≤ 9223372036854775807) :
    Calls Try.prog 5 #[.slice A l.length c] w fun e w' => e = .returned (.bool true) ∧ Below w.heap.size w w' := by
  have HAW := Lib.hid (awake_any w)
  have HAT := Lib.hid hat
  have HVL := Lib.hid hvl
  clear hat hvl
  go_enter Try.func5, Try.ntmps5
  go_wp2_with fail
  refine (HAW.out).mono ?_
  rintro e w1 ⟨rfl, hb1⟩
  have HB1 := Lib.hid hb1
  have hs1 : w.heap.size ≤ w1.heap.size := hb1.size
  clear HAW hb1
  go_wp2_with fail
  go_loopw [3, 4, 5, 6, 7, 14] (fun x y z _ _ i wr => ∃ (k : Nat) (Aw : Option Addr) (cw : Nat), k ≤ l.length ∧ k ≤ 20 ∧ i = .int .i64 k ∧ Own2 41 (fun _ => True) wr w1.heap.size x (cutL (l.take k)) ∧ y = .slice Aw (putAll [] (cutL (l.take k))).1.length cw ∧ VersAt (fun g => some g ≠ x.ownBlock) (fun g => some g ≠ x.ownBlock) wr Aw (putAll [] (cutL (l.take k))).1 ∧ z = .int .i64 (putAll [] (cutL (l.take k))).2 ∧ Below w.heap.size w wr ∧ w1.heap.size ≤ wr.heap.size) (fun _ _ _ _ _ i _ => l.length - (intOf i).toNat)
  case atStart => exact ⟨0, none, 0, Nat.zero_le _, Nat.zero_le _, rfl, Own2.start _ _ _ _, rfl, VersAt.nil, rfl, HB1.out, Nat.le_refl _⟩
  case round =>
    obtain ⟨k, Aw, cw, hk, hk20, rfl, hown, rfl, hatw, rfl, hbl, hsr⟩ := hrel
    have hll := putAll_len (cutL (l.take k)) []
    have hcl : (cutL (l.take k)).length = k := by unfold cutL; rw [List.length_map, List.length_take]; omega
    rw [hcl, List.length_nil] at hll
    have hkk : (cutL (l.take k)).length ≤ 20 := by omega
    have HCU := Lib.hid hcl
    clear hcl
    have hgd : GoodC (putAll [] (cutL (l.take k))).1 := putAll_good _ _ GoodC.nil
    by_cases hgo : k < l.length ∧ k < 20
    · obtain ⟨hlt, h20⟩ := hgo
      obtain ⟨ad, rfl, j1, j2, a0, Y, cy, a1, j3, hrow⟩ := (HAT.out.kept hbl.size fun g hg s => hbl.block g (by omega)) k hlt
      clear j1 j2
      have hvk := HVL.out _ (List.getElem_mem hlt)
      have i1 : (k : Int) < (l.length : Int) := by omega
      have i2 : ¬ (20 : Int) ≤ (k : Int) := by omega
      have HXS := Lib.hid (cutL_step hlt)
      have hsn := putAll_snoc (cutL (l.take k)) [] (cutV l[k])
      rw [← HXS.out] at hsn
      have HSN := Lib.hid hsn
      have hown' := hown
      obtain ⟨cs, hcs, hce⟩ := hown'
      obtain ⟨Am, cm, rfl⟩ := own_slice hcs
      have hlow : ∀ g, (Value.slice Am (cutL (l.take k)).length cm).ownBlock = some g → w1.heap.size ≤ g ∧ g < wr.heap.size := fun g e => own_lt hcs e
      -- the box, its vector cut
      obtain ⟨wa, hwa⟩ : ∃ x, x = wr.alloc (.cells #[.int .u64 l[k].1, .slice Y l[k].2.length cy] 44) := ⟨_, rfl⟩
      have hba : Below wr.heap.size wr wa := by rw [hwa]; exact (Below.refl _ _).alloc (Nat.le_refl _) _
      have hsa : wa.heap.size = wr.heap.size + 1 := by rw [hwa]; simp
      have hqa : wa.heap[wr.heap.size]? = some (.cells #[.int .u64 l[k].1, .slice Y l[k].2.length cy] 44 (0, 0)) := by rw [hwa]; exact heap_alloc_new wr _
      have hc1 := cutVecF_any _ Y cy 10 l[k].2 wa (hrow.below hba) j3 hvk (by decide)
      unfold GivesF at hc1
      rw [i32s_len] at hc1
      have HC1 := Lib.hid hc1
      have HWA := Lib.hid hwa
      have HQA := Lib.hid hqa
      have HBA := Lib.hid hba
      clear hc1
      have hn10 : (l[k].2.take 10).length ≤ 10 := by rw [List.length_take]; omega
      obtain ⟨tv, htv⟩ : ∃ x, x = l[k].2.take 10 := ⟨_, rfl⟩
      have hcv : cutV l[k] = (l[k].1, tv) := by rw [htv]; rfl
      rw [← htv] at HC1 hn10
      rw [hcv] at HXS HSN
      have ht10 : tv.take 10 = tv := List.take_of_length_le hn10
      clear htv hcv hsn
      clear hrow hwa hqa hba j3 hvk
      -- all that follows, from the world with the cut vector on
      have HREST : Hid (∀ (w5 : World) (A5 : Option Addr) (c5 : Nat), tv.length ≤ c5 → Row (fun g => wa.heap.size ≤ g) w5 A5 (i32s tv) → Below wa.heap.size wa w5 →
          (w5.heap[wr.heap.size]? = some (.cells #[.int .u64 l[k].1, .slice Y l[k].2.length cy] 44 (0, 0))) ∧
          ((w5.setCell ⟨wr.heap.size, 1, none⟩ (.slice A5 tv.length c5)).heap[wr.heap.size]? = some (.cells #[.int .u64 l[k].1, .slice A5 tv.length c5] 44 (0, 0))) ∧
          Below wr.heap.size wr (w5.setCell ⟨wr.heap.size, 1, none⟩ (.slice A5 tv.length c5)) ∧
          Row (fun g => wr.heap.size < g) (w5.setCell ⟨wr.heap.size, 1, none⟩ (.slice A5 tv.length c5)) A5 (i32s tv)) := fun w5 A5 c5 hc5 r5 hb5 => by
        have hq5 := (hb5.block _ (by omega)).trans HQA.out
        refine ⟨hq5, two_set1 hq5, (HBA.out.trans (hb5.mono HBA.out.size)).setCell (Nat.le_refl _) _, ?_⟩
        exact (r5.kept (by rw [set_size]; exact Nat.le_refl _) fun g _ s => Below.heap_setCell _ _ _ _ (show g ≠ wr.heap.size by have s' : wa.heap.size ≤ g := s; omega)).mono fun g _ s => (show wr.heap.size < g by have s' : wa.heap.size ≤ g := s; omega)
      have x1 := two_cell1 HQA.out
      go_wp2_with fail
      rw [← HWA.out]
      go_wp2_with fail
      refine (HC1.out).mono ?_
      rintro e w5 ⟨A5, c5, rfl, hc5, r5, _, hb5⟩
      obtain ⟨q5, q6, b6, r6⟩ := HREST.out w5 A5 c5 hc5 r5 hb5
      have y1 := two_cell1 q5
      have y1f : w5.frozen? ⟨wr.heap.size, 1, none⟩ = false := two_free q5
      have HQ6 := Lib.hid q6
      have HB6 := Lib.hid b6
      have HR6 := Lib.hid r6
      clear q5 q6 b6 r6 r5 hb5 HREST HC1 HQA HBA HWA x1 a0 a1
      go_upto_region 11 with fail
      obtain ⟨w6, hw6⟩ : ∃ x, x = w5.setCell ⟨wr.heap.size, 1, none⟩ (.slice A5 tv.length c5) := ⟨_, rfl⟩
      rw [← hw6] at HQ6 HB6 HR6 ⊢
      clear hw6 y1 y1f
      have hs6 : wr.heap.size < w6.heap.size := lt_of_block HQ6.out
      have KQ : Hid (∀ W, Below w6.heap.size w6 W → W.cell? ⟨wr.heap.size, 0, none⟩ = some (.int .u64 l[k].1) ∧ W.cell? ⟨wr.heap.size, 1, none⟩ = some (.slice A5 tv.length c5)) := fun W hW => by
        have := (hW.block _ hs6).trans HQ6.out
        exact ⟨two_cell0 this, two_cell1 this⟩
      have HC2 : Hid (Calls Try.prog 13 #[.slice A5 tv.length c5, .int .i64 10] w6.drew fun e w' => ∃ A7 c7, e = .returned (.slice A7 tv.length c7) ∧ tv.length ≤ c7 ∧ Row (fun g => w6.heap.size ≤ g) w' A7 (i32s tv) ∧ Below w6.heap.size w6 w') := by
        refine (cutVecF_any _ A5 c5 10 tv w6.drew HR6.out.drew hc5 (by omega) (by decide)).mono ?_
        rintro e w' ⟨A7, c7, e1, e2, e3, _, e5⟩
        rw [ht10] at e1 e2 e3
        rw [i32s_len] at e1 e2
        exact ⟨A7, c7, e1, e2, e3, ⟨e5.os, e5.tape, e5.output, e5.size, e5.block⟩⟩
      have hbm6 : Below w.heap.size w w6 := hbl.trans (HB6.out.mono hbl.size)
      have HOWN : Hid (∀ W, Below w6.heap.size w6 W → W.ownsRow w1.heap.size 41 2 (.slice Am (cutL (l.take k)).length cm) (cutL (l.take k)).length cs) := fun W hW => own_below (own_below hcs HB6.out) hW
      -- behind the append
      have HFIN : Hid (∀ (w7 w9 : World) (A7 A9 : Option Addr) (c7 c9 : Nat), Below w6.heap.size w6 w7 → tv.length ≤ c7 → Row (fun g => w6.heap.size ≤ g) w7 A7 (i32s tv) →
          w9.ownsRow w1.heap.size 41 2 (.slice A9 ((cutL (l.take k)).length + 1) c9) ((cutL (l.take k)).length + 1) (cs ++ [.int .u64 l[k].1, .slice A7 tv.length c7]) →
          (w7.alloc (.cells #[.int .u64 l[k].1, .slice A7 tv.length c7] 41)).grownBy w9 (Value.slice Am (cutL (l.take k)).length cm).ownBlock → ((Value.slice A9 ((cutL (l.take k)).length + 1) c9).ownBlock = (Value.slice Am (cutL (l.take k)).length cm).ownBlock ∨ (Value.slice A9 ((cutL (l.take k)).length + 1) c9).ownBlock = some (w7.alloc (.cells #[.int .u64 l[k].1, .slice A7 tv.length c7] 41)).heap.size) →
          Own2 41 (fun _ => True) w9 w1.heap.size (.slice A9 ((cutL (l.take k)).length + 1) c9) (cutL (l.take (k + 1))) ∧ VersAt (fun g => some g ≠ (Value.slice A9 ((cutL (l.take k)).length + 1) c9).ownBlock) (fun g => some g ≠ (Value.slice A9 ((cutL (l.take k)).length + 1) c9).ownBlock) w9 Aw (putAll [] (cutL (l.take k))).1 ∧
          (w9.cell? ⟨wr.heap.size, 0, none⟩ = some (.int .u64 l[k].1) ∧ w9.cell? ⟨wr.heap.size, 1, none⟩ = some (.slice A5 tv.length c5)) ∧ Row (fun _ => True) w9 A5 (i32s tv) ∧ Below w.heap.size w w9 ∧ w1.heap.size ≤ w9.heap.size) := fun w7 w9 A7 A9 c7 c9 hb7 hc7 hr7 ho9 hg9 ha9 => by
        have hs7 := hb7.size
        have hs9 := hg9.size
        have hba7 : Below w7.heap.size w7 (w7.alloc (.cells #[.int .u64 l[k].1, .slice A7 tv.length c7] 41)) := (Below.refl _ _).alloc (Nat.le_refl _) _
        have hsz7 : (w7.alloc (.cells #[.int .u64 l[k].1, .slice A7 tv.length c7] 41)).heap.size = w7.heap.size + 1 := by simp
        have hb67 : Below wr.heap.size wr w7 := HB6.out.trans (hb7.mono HB6.out.size)
        have hk9 : ∀ g, g < w7.heap.size → some g ≠ (Value.slice Am (cutL (l.take k)).length cm).ownBlock → w9.heap[g]? = w7.heap[g]? := fun g hg h1 => by
          rw [hg9.block g (by omega) h1, hba7.block g hg]
        have hne9 : ∀ g, g < w7.heap.size → some g ≠ (Value.slice Am (cutL (l.take k)).length cm).ownBlock → some g ≠ (Value.slice A9 ((cutL (l.take k)).length + 1) c9).ownBlock := fun g hg h1 e => by
          rcases ha9 with e' | e'
          · exact h1 (e.trans e')
          · rw [e'] at e; injection e with e; omega
        have hnr : ∀ g, wr.heap.size ≤ g → some g ≠ (Value.slice Am (cutL (l.take k)).length cm).ownBlock := fun g hg e => by have := (hlow g e.symm).2; omega
        refine ⟨?_, ?_, ?_, ?_, ?_, by omega⟩
        · rw [HXS.out]
          exact Own2.step (K := fun _ => True) hba7 (hce.kept hb67.size fun g hg s => ⟨hb67.block g hg, s⟩) (Cells2.one (l[k].1, tv) A7 c7 hc7 (hr7.mono fun g hg s => ⟨trivial, hnr g (by have s' : w6.heap.size ≤ g := s; omega)⟩)) ho9 (by simp) hg9 ha9 (by omega)
        · have h1 : VersAt (fun g => g < wr.heap.size ∧ some g ≠ (Value.slice Am (cutL (l.take k)).length cm).ownBlock) (fun g => g < wr.heap.size ∧ some g ≠ (Value.slice Am (cutL (l.take k)).length cm).ownBlock) wr Aw (putAll [] (cutL (l.take k))).1 := hatw.mono (fun g hg s => ⟨hg, s⟩) (fun g hg s => ⟨hg, s⟩)
          refine (h1.kept (w' := w9) (by omega) fun g hg s => ?_).mono (fun g _ s => hne9 g (by have := hb67.size; omega) s.2) (fun g _ s => hne9 g (by have := hb67.size; omega) s.2)
          rw [hk9 g (by have := hb67.size; omega) (by rcases s with s | s <;> exact s.2), hb67.block g hg]
        · have hq9 : w9.heap[wr.heap.size]? = some (.cells #[.int .u64 l[k].1, .slice A5 tv.length c5] 44 (0, 0)) := by
            rw [hk9 _ (by omega) (hnr _ (Nat.le_refl _)), hb7.block _ hs6]; exact HQ6.out
          exact ⟨two_cell0 hq9, two_cell1 hq9⟩
        · refine (HR6.out.kept (w' := w9) (by omega) fun g hg s => ?_).any
          rw [hk9 g (by omega) (hnr g (Nat.le_of_lt s)), hb7.block g hg]
        · refine (hbm6.trans (hb7.mono hbm6.size)).trans (⟨hg9.os.trans hba7.os, hg9.tape.trans hba7.tape, hg9.output.trans hba7.output, by omega, fun g hg => hk9 g (by have := hbm6.size; omega) (fun e => by have := (hlow g e.symm).1; omega)⟩ : Below w.heap.size w7 w9)
      have HLOW := Lib.hid hlow
      have hb6d : Below w6.heap.size w6 w6.drew := (Below.refl _ _).drew
      obtain ⟨p0, p1⟩ := KQ.out w6 (Below.refl _ _)
      have hs16 : w1.heap.size ≤ w6.heap.size := by omega
      clear hown hcs hce hlow hatw hbl hbm6 HR6 HB6 HQ6 HXS
      generalize l[k].1 = xi at *
      go_region_held3 (fun w' => w'.cell? ⟨wr.heap.size, 0, none⟩ = some (.int .u64 xi) ∧ w'.cell? ⟨wr.heap.size, 1, none⟩ = some (.slice A5 tv.length c5)) (first | exact KQ.out _ (Below.refl _ _) | exact ⟨p0, p1⟩ | exact KQ.out _ hb7 | exact KQ.out _ (hb7.alloc hb7.size _) | exact (HF9.out).2.2.1 | fail)
        (first
          | (go_at_call 13; refine (HC2.out).mono ?_; rintro e w7 ⟨A7, c7, rfl, hc7, r7, hb7⟩)
          | (refine step_append_vers 51 41 Try.underlying51 Try.info41 (by rfl) (.tmp 25) (.tmp 32) (by rfl) w1.heap.size _ (cutL (l.take k)).length cs (by rfl) ((HOWN.out w7 hb7).alloc _) (some ⟨w7.heap.size, 0, none⟩) 1 1 [.int .u64 xi, .slice A7 tv.length c7] (by rfl) (by rfl) (fun j u hj => ⟨_, rfl, World.news_of_block (cs := #[.int .u64 xi, .slice A7 tv.length c7]) (t := 41) (fr := (0, 0)) (heap_alloc_new w7 _) j u hj⟩) (by simp [Value.oneCell']) (by omega) (Nat.le_trans hs16 (hb7.alloc hb7.size _).size) ?_; intro A9 c9 w9 ho9 hg9 ha9; have HF9 := Lib.hid (HFIN.out w7 w9 A7 A9 c7 c9 hb7 hc7 r7 ho9 hg9 ha9))
          | fail)
      all_goals
        clear ho9 hg9 ha9 HFIN HOWN
        have hb9 : Below w.heap.size w w9 := (HF9.out).2.2.2.2.1
        obtain ⟨z0, z1⟩ := (HF9.out).2.2.1
        have HX1 : Hid ((cutL (l.take k)).length + 1 = (cutL (l.take (k + 1))).length) := by
          show _ = _
          rw [cutL_step hlt, List.length_append]; rfl
        by_cases hcode : (putAll [] (cutL (l.take k))).2 = 0
        · have hRP : Calls Try.prog 15 #[.slice Aw (putAll [] (cutL (l.take k))).1.length cw, .agg #[.int .u64 xi, .slice A5 tv.length c5]] w9 fun e w' => ∃ Aw' cw', e = .returned (.tuple #[.slice Aw' (putAll [] (cutL (l.take (k + 1)))).1.length cw', .int .i64 (putAll [] (cutL (l.take (k + 1)))).2]) ∧
              VersAt (fun g => some g ≠ (Value.slice A9 ((cutL (l.take k)).length + 1) c9).ownBlock) (fun g => some g ≠ (Value.slice A9 ((cutL (l.take k)).length + 1) c9).ownBlock) w' Aw' (putAll [] (cutL (l.take (k + 1)))).1 ∧ Below w9.heap.size w9 w' := by
            obtain ⟨f1, f2, _, f4, _, _⟩ := HF9.out
            refine (rput_any _ _ _ Aw cw _ (xi, tv) A5 c5 w9 f2 hgd (by omega) f4 hc5 (by show tv.length ≤ 100; omega)).mono ?_
            have hsn := HSN.out
            rw [if_pos hcode] at hsn
            rintro e w' ⟨hb, ⟨h0, e1⟩ | ⟨h0, A', c', e1, e2⟩⟩
            · rw [if_neg h0] at hsn
              rw [hsn]
              exact ⟨Aw, cw, e1, f2.below hb, hb⟩
            · rw [if_pos h0] at hsn
              rw [hsn]
              refine ⟨A', c', by rw [e1, List.length_append]; rfl, e2.mono (fun g _ s e => ?_) (fun g _ s => ?_), hb⟩
              · have := (f1.low e.symm).2
                have s' : w9.heap.size ≤ g := s
                omega
              · rcases s with s | s
                · intro e
                  have := (f1.low e.symm).2
                  have s' : w9.heap.size ≤ g := s
                  omega
                · exact s.2
          have HRP := Lib.hid hRP
          have HB9 := Lib.hid hb9
          clear hRP hgd hll hb9 HSN
          have hcd : ((putAll [] (cutL (l.take k))).2 == 0) = true := by simpa using hcode
          clear hcode
          go_wp2_with fail
          refine (HRP.out).mono ?_
          rintro e w10 ⟨Aw', cw', rfl, hat10, hb10⟩
          have HAT10 := Lib.hid hat10
          have HB10 := Lib.hid (HB9.out.trans (hb10.mono HB9.out.size))
          have HO10 := Lib.hid ((HF9.out).1.below hb10)
          have HS10 : Hid (w1.heap.size ≤ w10.heap.size) := Nat.le_trans (HF9.out).2.2.2.2.2 hb10.size
          clear hat10 hb10 HF9 HRP z0 z1 hcd
          go_wp2_with fail
          go_roundw
          case rel => exact ⟨k + 1, Aw', cw', by omega, by omega, by go_num, HO10.out, rfl, HAT10.out, rfl, HB10.out, HS10.out⟩
          case measure => simp [intOf]; omega
        · have hsn := HSN.out
          rw [if_neg hcode] at hsn
          have HSN2 := Lib.hid hsn
          have hcd : ((putAll [] (cutL (l.take k))).2 == 0) = false := by simpa using hcode
          have HB9 := Lib.hid hb9
          clear hsn HSN hcode hb9 hgd hll
          go_wp2_with fail
          go_roundw
          case rel =>
            obtain ⟨f1, f2, _, _, _, f6⟩ := HF9.out
            exact ⟨k + 1, Aw, cw, by omega, by omega, by go_num, f1, by rw [HSN2.out], by rw [HSN2.out]; exact f2, by rw [HSN2.out], HB9.out, f6⟩
          case measure => simp [intOf]; omega
    · have HCE : Hid (k < l.length → ∃ ad s Y n cy, A = some ad ∧ wr.cell? (ad.add (k * 2)) = some (.int .u64 s) ∧ wr.cell? ⟨(ad.add (k * 2)).block, (ad.add (k * 2)).off + 1, none⟩ = some (.slice Y n cy)) := fun hlt => by
        obtain ⟨ad, e, j1, j2, a0, Y, cy, a1, j3, hrow⟩ := (HAT.out.kept hbl.size fun g hg s => hbl.block g (by omega)) k hlt
        exact ⟨ad, _, Y, _, cy, e, a0, a1⟩
      obtain ⟨xs, hxs⟩ : ∃ x, x = cutL (l.take k) := ⟨_, rfl⟩
      have hxl : xs.length ≤ 20 := by rw [hxs]; exact hkk
      have hxv : ∀ x ∈ xs, x.2.length ≤ 1000 := fun x hx => by
        rw [hxs] at hx
        obtain ⟨y, _, rfl⟩ := List.mem_map.1 hx
        show (y.2.take 10).length ≤ 1000
        rw [List.length_take]; omega
      rw [← hxs] at hown hatw hgd hll ⊢
      obtain ⟨Am, cm, rfl, _, hatm⟩ := hown.vers
      have HN : Hid (∀ W, Below wr.heap.size wr W → Calls Try.prog 9 #[.slice Am xs.length cm] W fun e w' => NewGave (fun _ => True) W xs e w') := fun W hW => new_any _ _ (fun _ => True) Am cm xs W (hatm.below hW) (by omega) hxv (fun _ _ => trivial)
      have HATW := Lib.hid hatw
      have HGD := Lib.hid hgd
      have HBL := Lib.hid hbl
      obtain ⟨T, hT⟩ : ∃ x, x = (putAll [] xs).1 := ⟨_, rfl⟩
      obtain ⟨er, her⟩ : ∃ x, x = (putAll [] xs).2 := ⟨_, rfl⟩
      rw [← hT] at HATW HGD hll ⊢
      rw [← her]
      have HT := Lib.hid hT
      have HER := Lib.hid her
      have hwr0 : Below wr.heap.size wr wr := Below.refl _ _
      obtain ⟨wB, rfl⟩ : ∃ x, x = wr := ⟨wr, rfl⟩
      -- the end, from the world at New on
      have HTAIL : Hid (∀ W, Below wB.heap.size wB W → Calls Try.prog 9 #[.slice Am xs.length cm] W fun e w' => (Below w.heap.size w w') ∧ ((er ≠ 0 ∧ e = .returned (.tuple #[.pointer none, .int .i64 er])) ∨
          (er = 0 ∧ ∃ bb : Nat, e = .returned (.tuple #[.pointer (some ⟨bb, 0, none⟩), .int .i64 0]) ∧ Calls Try.prog 21 #[.pointer (some ⟨bb, 0, none⟩)] w' fun e2 w2 => ∃ A2 c2, e2 = .returned (.slice A2 T.length c2) ∧ Below w.heap.size w w2 ∧
            Calls Try.prog 20 #[.slice A2 T.length c2] w2 fun e3 w3 => ∃ A3 c3, e3 = .returned (.slice A3 T.length c3) ∧ Below w.heap.size w w3 ∧
              Calls Try.prog 19 #[.slice A3 T.length c3, .slice Aw T.length cw] w3 fun e4 w4 => e4 = .returned (.bool true) ∧ Below w.heap.size w w4))) := fun W hW => by
        have hBW : Below w.heap.size w W := HBL.out.trans (hW.mono HBL.out.size)
        refine (HN.out W hW).mono ?_
        rintro e w' ⟨hb, ⟨h0, v, e1, L⟩ | ⟨h0, e1⟩⟩
        · rw [← HER.out] at h0
          rw [← HT.out] at L
          have hB' := hBW.trans (hb.mono hBW.size)
          refine ⟨hB', .inr ⟨h0, W.heap.size, e1, (list_any _ _ _ v T w' L (by omega) HGD.out.len).mono ?_⟩⟩
          rintro e2 w2 ⟨v2, rfl, hOF, hb2⟩
          obtain ⟨A2, c2, rfl, _, hat2⟩ := hOF.own.vers
          have hB2 := hB'.trans (hb2.mono hB'.size)
          refine ⟨A2, c2, rfl, hB2, (back_any _ _ A2 c2 T w2 hat2 (by omega)).mono ?_⟩
          rintro e3 w3 ⟨v3, rfl, hO3, hb3⟩
          obtain ⟨A3, c3, rfl, _, hat3⟩ := hO3.vers
          have hB3 := hB2.trans (hb3.mono hB2.size)
          refine ⟨A3, c3, rfl, hB3, (same_yes _ _ _ _ A3 Aw c3 cw T w3 hat3 ((((HATW.out.below hW).below hb).below hb2).below hb3) (by omega) HGD.out.len).mono ?_⟩
          rintro e4 w4 ⟨e5, hb4⟩
          exact ⟨e5, hB3.trans (hb4.mono hB3.size)⟩
        · rw [← HER.out] at h0 e1
          exact ⟨hBW.trans (hb.mono hBW.size), .inl ⟨h0, e1⟩⟩
      have hbA : ∀ o, Below wB.heap.size wB (wB.alloc o) := fun o => (Below.refl _ _).alloc (Nat.le_refl _) _
      have HBA := Lib.hid hbA
      clear hbA hatm hatw hgd hbl hT her HN hown hxs hxv
      by_cases hlt : k < l.length
      case' pos =>
        obtain ⟨ad, s, Y, n, cy, rfl, a0, a1⟩ := HCE.out hlt
        have i1 : (k : Int) < (l.length : Int) := by omega
        have i2 : (20 : Int) ≤ (k : Int) := by omega
        have HGO := Lib.hid (HTAIL.out _ (HBA.out (.cells #[.int .u64 s, .slice Y n cy] 44)))
      case' neg =>
        have i1 : ¬ (k : Int) < (l.length : Int) := by omega
        have HGO := Lib.hid (HTAIL.out _ hwr0)
      all_goals
        clear HCE HTAIL HBA
        go_wp2_with fail
        refine (HGO.out).mono ?_
        rintro e w3 ⟨hB3, ⟨h0, rfl⟩ | ⟨rfl, bb, rfl, hL⟩⟩
        · have e1 : (er != 0) = true := by simpa using h0
          have e2 : (er == 0) = false := by simpa using h0
          clear h0
          go_wp2_with fail
          go_ret
          exact ⟨rfl, hB3⟩
        · have HL := Lib.hid hL
          clear hL hB3
          go_wp2_with fail
          refine (HL.out).mono ?_
          rintro e w4 ⟨A4, c4, rfl, hB4, hL4⟩
          have HL4 := Lib.hid hL4
          clear hL4 hB4 HL
          go_wp2_with fail
          refine (HL4.out).mono ?_
          rintro e w5 ⟨A5, c5, rfl, hB5, hL5⟩
          have HL5 := Lib.hid hL5
          clear hL5 hB5 HL4
          go_wp2_with fail
          refine (HL5.out).mono ?_
          rintro e w6 ⟨rfl, hB6⟩
          have HB6 := Lib.hid hB6
          clear hB6 HL5
          go_wp2_with fail
          go_ret
          exact ⟨rfl, HB6.out⟩

end Go.Proofs.Ytphcakhhjjdpiaa
