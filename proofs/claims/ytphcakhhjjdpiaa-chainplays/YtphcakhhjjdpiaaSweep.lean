/-
  The contract of Sweep.
-/
import Derived.Test.YtphcakhhjjdpiaaDel
import Derived.Test.YtphcakhhjjdpiaaAt
import Derived.Deep.CutBlock
import Derived.Deep.DeepCutAuto
import Derived.Deep.OwnRows
namespace Go.Proofs.Ytphcakhhjjdpiaa
open Go.RowKit

def u64s (l : List Int) : List Value := l.map fun (n : Int) => Value.int .u64 n
theorem u64s_at {xs : List Int} {k : Nat} (h : k < xs.length) : (u64s xs)[k]? = some (.int .u64 xs[k]) := by simp [u64s, h]
theorem u64s_len (xs : List Int) : (u64s xs).length = xs.length := by simp [u64s]
/-- how many versions a sweep takes away -/
def swN (vs : List Ver) (m : Int) : Nat := if goneB (asOf vs m) = true then cnt vs m else cnt vs m - 1
def stamps (vs : List Ver) : List Int := vs.map (·.1)
theorem swN_le (vs : List Ver) (m : Int) : swN vs m ≤ vs.length := by
  have := cnt_le vs m
  unfold swN; split <;> omega

/-- What Sweep leaves. -/
def SweepGave (K : Nat → Prop) (w : World) (B b : Nat) (v : Value) (vs : List Ver) (m : Int) (e : Ending) (w' : World) : Prop :=
  ∃ A c v', e = .returned (.slice A (stamps (vs.take (swN vs m))).length c) ∧ Row (fun g => w.heap.size ≤ g) w' A (u64s (stamps (vs.take (swN vs m)))) ∧ Chn K w' B b v' (vs.drop (swN vs m)) ∧ Chg w w' b v v'

set_option maxHeartbeats 400000 in
theorem sweep_nil (m : Int) (w : World) : Calls Try.prog 12 #[.pointer none, .int .u64 m] w fun e w' => e = .returned (.slice none 0 0) ∧ Below w.heap.size w w' := by
  have HU : Hid (∀ W, Calls Try.prog 24 #[.pointer none, .int .u64 m] W fun e w' => e = .returned (.int .i64 0) ∧ Below W.heap.size W w') := fun W => upTo_nil m W
  go_enter Try.func12, Try.ntmps12
  go_wp2_with fail
  refine (HU.out _).mono ?_
  rintro e w' ⟨rfl, hb⟩
  go_wp2_with fail
  go_ret
  exact ⟨rfl, hb⟩

theorem sweep_none {K : Nat → Prop} {w w' : World} {B b : Nat} {v : Value} {vs : List Ver} {m : Int} (L : Chn K w B b v vs) (hb : Below w.heap.size w w') (h : swN vs m = 0) : SweepGave K w B b v vs m (.returned (.slice none 0 0)) w' := by
  unfold SweepGave
  rw [h]
  exact ⟨none, 0, v, rfl, Row.nil, by simpa using L.below hb, Chg.of_below hb b v⟩

theorem sweep_fin {K : Nat → Prop} {w w3 w4 : World} {B b k c : Nat} {v v4 : Value} {A : Option Addr} {cs : List Value} {vs : List Ver} {xs : List Int} (L : Chn K w B b v vs) (hb3 : Below w.heap.size w w3)
    (hce : Cells2 (fun g => (K g ∧ g ≠ b) ∧ some g ≠ v.ownBlock) w cs vs) (hnum : w3.ownsRow w.heap.size 29 1 (.slice A xs.length c) xs.length (u64s xs))
    (ho4 : w4.ownsRow B 41 2 v4 (vs.length - k) (cs.drop (k * 2))) (hg4 : w3.grownBy w4 v.ownBlock) (he4 : v4.ownBlock = v.ownBlock) :
    Row (fun g => w.heap.size ≤ g) (w4.setCell ⟨b, 0, none⟩ v4) A (u64s xs) ∧ Chn K (w4.setCell ⟨b, 0, none⟩ v4) B b v4 (vs.drop k) ∧ Chg w (w4.setCell ⟨b, 0, none⟩ v4) b v v4 := by
  have hne := L.ne
  have hlt := L.lt
  have hs3 := hb3.size
  have hs4 := hg4.size
  have hvl : ∀ g, v.ownBlock = some g → g < w.heap.size := fun g e => (L.low e).2
  have hblk4 : w4.heap[b]? = some (.cells #[v] 61 (0, 0)) := by rw [hg4.block b (by omega) (fun e => hne e.symm), hb3.block b hlt.1]; exact L.blk
  have hk4 : ∀ g, g < w.heap.size → g ≠ b → some g ≠ v.ownBlock → (w4.setCell ⟨b, 0, none⟩ v4).heap[g]? = w.heap[g]? := fun g hg h1 h2 => by
    rw [Below.heap_setCell _ _ _ _ h1, hg4.block g (by omega) h2, hb3.block g hg]
  refine ⟨?_, ⟨one_set hblk4, ⟨cs.drop (k * 2), ?_, ?_⟩, L.lob⟩, ⟨?_, ?_, ?_, by rw [set_size]; omega, hk4, .inl he4⟩⟩
  · obtain ⟨A', c', e, _, _, hr⟩ := Row.of_own hnum
    injection e with e1 _ _
    subst e1
    refine (hr.kept (by rw [set_size]; omega) fun g hg s => ?_).mono fun g _ s => s.1
    rw [Below.heap_setCell _ _ _ _ (show g ≠ b by have := s.1; omega), hg4.block g hg (fun e => by have := hvl g e.symm; omega)]
  · rw [List.length_drop]
    exact own_kept2 ho4 fun g _ _ e => Below.heap_setCell _ _ _ _ (fun e' => hne (by rw [← he4, e, e']))
  · refine (hce.drop k).kept (by rw [set_size]; omega) fun g hg s => ⟨hk4 g hg s.1.2 s.2, s.1, by rw [he4]; exact s.2⟩
  · rw [set_os]; exact hg4.os.trans hb3.os
  · rw [set_tape]; exact hg4.tape.trans hb3.tape
  · rw [set_output]; exact hg4.output.trans hb3.output

set_option maxRecDepth 100000 in
set_option maxHeartbeats 1000000 in
theorem sweep_any (K : Nat → Prop) (B b : Nat) (v : Value) (vs : List Ver) (m : Int) (w : World) (L : Chn K w B b v vs) (hso : Rise vs) (hn : vs.length ≤ 1000) :
    Calls Try.prog 12 #[.pointer (some ⟨b, 0, none⟩), .int .u64 m] w fun e w' => SweepGave K w B b v vs m e w' := by
  have HU := Lib.hid (upTo_any K B b v vs m w L hso hn)
  have hcl := cnt_le vs m
  have hsl := swN_le vs m
  have HL := Lib.hid L
  have KQ : Hid (∀ W, Below w.heap.size w W → W.cell? ⟨b, 0, none⟩ = some v) := fun W hW => (L.below hW).cell
  -- whether the last one at or below the mark stays
  obtain ⟨bb, hbb⟩ : ∃ x : Bool, x = !goneB (asOf vs m) := ⟨_, rfl⟩
  have hsw : (swN vs m : Int) = if bb = true then (cnt vs m : Int) - 1 else (cnt vs m : Int) := by
    unfold swN
    rw [hbb]
    by_cases h0 : cnt vs m = 0
    · have := hso.asOf0 m h0
      rw [this, h0]; rfl
    · cases goneB (asOf vs m) <;> simp <;> omega
  have HSW := Lib.hid hsw
  have hbc : bb = true → 1 ≤ cnt vs m := fun h => by
    by_cases h0 : cnt vs m = 0
    · rw [hso.asOf0 m h0] at hbb
      rw [hbb] at h
      cases h
    · omega
  have HBC := Lib.hid hbc
  have HLAST : Hid (∀ W j, Below w.heap.size w W → cnt vs m = j + 1 → ∃ A ca ad X cx s, v = .slice A vs.length ca ∧ A = some ad ∧ j < vs.length ∧ W.cell? (ad.add (j * 2)) = some (.int .u64 s) ∧ W.cell? ⟨(ad.add (j * 2)).block, (ad.add (j * 2)).off + 1, none⟩ = some (.slice X (asOf vs m).length cx)) := fun W j hW hj => by
    have hml : j < vs.length := by omega
    obtain ⟨A, ca, e, _, hat⟩ := L.vers
    obtain ⟨ad, e2, _, _, a0, X, cx, a1, _, _⟩ := (hat.below hW) j hml
    rw [hso.asOf1 m j hj hml]
    exact ⟨A, ca, ad, X, cx, _, e, e2, hml, a0, a1⟩
  have HGN : Hid (∀ s X c W, Calls Try.prog 25 #[.agg #[.int .u64 s, .slice X (asOf vs m).length c]] W fun e w' => e = .returned (.bool (!bb)) ∧ Below W.heap.size W w') := fun s X c W => by
    have := gone_any s X (asOf vs m) c W
    rw [hbb, Bool.not_not]
    exact this
  clear hsw hbc hbb L hso
  obtain ⟨C, hC⟩ : ∃ x, x = cnt vs m := ⟨_, rfl⟩
  rw [← hC] at HU HSW HBC HLAST hcl
  obtain ⟨n, hn'⟩ : ∃ x, x = swN vs m := ⟨_, rfl⟩
  have HN := Lib.hid hn'
  rw [← hn'] at HSW hsl
  clear hC hn'
  go_enter Try.func12, Try.ntmps12
  go_wp2_with fail
  refine (HU.out).mono ?_
  rintro e w1 ⟨rfl, hb1⟩
  have HB1 := Lib.hid hb1
  clear hb1
  go_upto_region 2 with fail
  go_cut [25] (fun x wx => x = .bool bb ∧ Below w.heap.size w wx)
  case first =>
    by_cases h0 : C = 0
    · subst h0
      have hf : bb = false := by
        cases bb with
        | false => rfl
        | true => have := HBC.out rfl; omega
      subst hf
      go_wp2_with fail
      go_meet
      exact ⟨rfl, HB1.out⟩
    · obtain ⟨j, rfl⟩ : ∃ j, C = j + 1 := ⟨C - 1, by omega⟩
      obtain ⟨A, ca, ad, X, cx, s, hv, rfl, hjl, a0, a1⟩ := HLAST.out w1 j HB1.out rfl
      have c0 := KQ.out w1 HB1.out
      rw [hv] at c0
      have i0 : (0 : Int) < (j : Int) + 1 := by omega
      have i1 : IntKind.i64.wrap ((j : Int) + 1 - 1) = (j : Int) := by rw [IntKind.wrap_i64]; omega
      have i2 : (j : Int) < (vs.length : Int) := by omega
      have i3 : (0 : Int) ≤ (j : Int) := by omega
      have i4 : (j : Int) ≤ 1000 := by omega
      clear hv
      generalize (asOf vs m).length = al at *
      go_wp2_with fail
      refine (HGN.out _ _ _ _).mono ?_
      rintro e w2 ⟨rfl, hb2⟩
      have HB2 := Lib.hid hb2
      clear hb2
      cases bb <;> (go_wp2_with fail; go_meet; exact ⟨rfl, HB1.out.trans (HB2.out.mono HB1.out.size)⟩)
  case rest =>
    obtain ⟨rfl, hb2⟩ := hcut
    generalize wc = w2 at *
    have HB2 := Lib.hid hb2
    clear hb2 HB1 HGN HLAST HU
    go_upto_if 25 with fail
    go_cut [5] (fun x wx => x = .int .i64 n ∧ wx = w2)
    case first =>
      cases bb with
      | false =>
        have e1 : (C : Int) = (n : Int) := by have := HSW.out; simpa using this.symm
        go_wp2_with fail
        go_meet
        exact ⟨by rw [e1], rfl⟩
      | true =>
        have e1 : IntKind.i64.wrap ((C : Int) - 1) = (n : Int) := by have := HSW.out; have h2 := HBC.out rfl; rw [if_pos rfl] at this; rw [IntKind.wrap_i64]; omega
        have e2 : (C : Int) - 1 = (n : Int) := by have := HSW.out; rw [if_pos rfl] at this; omega
        go_wp2_with fail
        go_meet
        exact ⟨by simp [e2], rfl⟩
    case rest =>
      obtain ⟨rfl, hw2⟩ := hcut
      rw [hw2]
      clear hw2
      by_cases h0 : n = 0
      · have HE := Lib.hid (sweep_none (m := m) HL.out HB2.out (by rw [← HN.out]; exact h0))
        subst h0
        clear HSW HBC HN
        go_wp2_with fail
        go_ret
        exact HE.out
      · have HLL := HL.out
        obtain ⟨i0, hi0, hz0, hz1, hz2⟩ := info_parts Try.info29
        have hbase2 : w.heap.size ≤ w2.heap.size := HB2.out.size
        obtain ⟨wm, hmk, hown0, hgr0⟩ := run_make_own (P := Try.prog) w2 w.heap.size 33 29 i0 _ 1 Try.underlying33 hi0 hz0 hz1 .i64 .i64 n (by rw [hz2]; omega) (by unfold maxLen; omega) hbase2
        have hbm : Below w.heap.size w wm := HB2.out.trans ((⟨hgr0.os, hgr0.tape, hgr0.output, hgr0.size, fun k hk => hgr0.block k hk (by simp)⟩ : Below w2.heap.size w2 wm).mono hbase2)
        have c0m := KQ.out wm hbm
        have c02 := KQ.out w2 HB2.out
        obtain ⟨cs, hown, hce⟩ := HLL.row
        have HD : Hid (∀ W, Below w.heap.size w W → Calls Try.prog 26 #[v, .int .i64 0, .int .i64 (n : Int)] W fun e w' => ∃ A' c', e = .returned (.slice A' (vs.length - n) c') ∧ w'.ownsRow B 41 2 (.slice A' (vs.length - n) c') (vs.length - n) (cs.drop (n * 2)) ∧ W.grownBy w' v.ownBlock ∧ (Value.slice A' (vs.length - n) c').ownBlock = v.ownBlock) := fun W hW =>
          delete_any B v vs.length n cs W (own_below hown hW) (by omega) hsl hce.oneCell hn
        have HFIN : Hid (∀ (w3 w4 : World) (A : Option Addr) (c : Nat) (v4 : Value), Below w.heap.size w w3 → w3.ownsRow w.heap.size 29 1 (.slice A n c) n (u64s (stamps (vs.take n))) → w4.ownsRow B 41 2 v4 (vs.length - n) (cs.drop (n * 2)) → w3.grownBy w4 v.ownBlock → v4.ownBlock = v.ownBlock → SweepGave K w B b v vs m (.returned (.slice A n c)) (w4.setCell ⟨b, 0, none⟩ v4)) := fun w3 w4 A c v4 h3 ho3 ho4 hg4 he4 => by
          have hxl : (stamps (vs.take n)).length = n := by unfold stamps; rw [List.length_map, List.length_take]; omega
          have := sweep_fin (xs := stamps (vs.take n)) (A := A) (c := c) HLL h3 hce (by rw [hxl]; exact ho3) ho4 hg4 he4
          unfold SweepGave
          rw [← HN.out, hxl]
          exact ⟨A, c, v4, rfl, this.1, this.2.1, this.2.2⟩
        have hne := HLL.ne
        have hbl := HLL.lt.1
        have HBLK := Lib.hid HLL.blk
        obtain ⟨A, ca, hv, hca, hat⟩ := HLL.vers
        have HAT := Lib.hid hat
        have HO0 := Lib.hid hown0
        have hwm : w2.heap.size < wm.heap.size := (own_lt hown0 rfl).2
        clear HLL hown hce hat hgr0 hown0 HSW HBC HN
        subst hv
        have j1 : ((n : Int) == 0) = false := by simp; omega
        have j2 : (n : Int) ≤ 1000 := by omega
        have j3 : n ≤ ca := by omega
        have j4 : (0 : Int) ≤ (n : Int) := by omega
        go_wp2_with fail
        go_loopw [6, 8, 39] (fun x _ i wr => ∃ k : Nat, k ≤ n ∧ i = .int .i64 k ∧ wr.ownsRow w.heap.size 29 1 x k (u64s (stamps (vs.take k))) ∧ Below w.heap.size w wr) (fun _ _ i _ => n - (intOf i).toNat)
        case atStart => exact ⟨0, Nat.zero_le _, rfl, HO0.out, hbm⟩
        case round =>
          obtain ⟨k, hk, rfl, hown, hbr⟩ := hrel
          have HBR := Lib.hid hbr
          have hbrs := hbr.size
          by_cases hlt : k < n
          · have hlv : k < vs.length := by omega
            obtain ⟨ad, rfl, q1, q2, a0, Y, cy, a1, q3, q4⟩ := (HAT.out.below hbr) k hlv
            clear q1 q2 q3 q4
            have i1 : (k : Int) < (n : Int) := by omega
            have hHT : u64s (stamps (vs.take k)) ++ [Value.int .u64 vs[k].1] = u64s (stamps (vs.take (k + 1))) := by
              rw [List.take_succ_eq_append_getElem hlv]; unfold u64s stamps; rw [List.map_append, List.map_append]; rfl
            have HT := Lib.hid hHT
            clear hHT
            generalize vs[k].1 = xi at *
            generalize vs[k].2.length = xl at *
            obtain ⟨wa, hwa⟩ : ∃ x, x = wr.alloc (.cells #[.int .u64 xi, .slice Y xl cy] 41) := ⟨_, rfl⟩
            have hba : Below w.heap.size w wa := by rw [hwa]; exact hbr.alloc hbr.size _
            have hsa : wa.heap.size = wr.heap.size + 1 := by rw [hwa]; simp
            have hoa : wa.ownsRow w.heap.size 29 1 u6 k (u64s (stamps (vs.take k))) := by rw [hwa]; exact hown.alloc _
            have HOA := Lib.hid (hoa.alloc (.cells #[.int .u64 xi] 29))
            have HBA := Lib.hid hba
            have HRR : Hid (Row (fun _ => True) (wa.alloc (.cells #[.int .u64 xi] 29)) (some ⟨wr.heap.size + 1, 0, none⟩) [.int .u64 xi]) := by
              show Row _ _ _ _
              rw [← hsa]; exact Row.of_block (t := 29) (fr := (0, 0)) (heap_alloc_new wa _) trivial
            have HLOW : Hid (∀ g, u6.ownBlock = some g → w.heap.size ≤ g ∧ g < wa.heap.size) := fun g e => own_lt hoa e
            have HLE : Hid (w.heap.size ≤ (wa.alloc (.cells #[.int .u64 xi] 29)).heap.size) := by show _ ≤ _; simp; omega
            clear hown hoa hba hbr hsa
            subst hwa
            go_wp2_with (at_builtin; refine wpList_append_row _ rfl (.tmp 43) (.tmp 46) 33 rfl w.heap.size 29 i0 (.int .u64 0) 8 Try.underlying33 hi0 hz0 hz1 hz2 rfl _ k _ rfl HOA.out (fun _ => True) (some ⟨wr.heap.size + 1, 0, none⟩) 1 1 [.int .u64 xi] rfl rfl HRR.out (by simp [Value.oneCell']) ?c3 ?c4 ?c5 ?_; rotate_right; intro A' c' w' hown' hgrow hat')
            case c3 => unfold maxLen; omega
            case c4 => omega
            case c5 => exact HLE.out
            have hb' : Below w.heap.size w w' := (HBA.out.alloc HBA.out.size _).grown hgrow (by simp; omega) (fun g hg => (HLOW.out g hg).1)
            have HOW : Hid (w'.ownsRow w.heap.size 29 1 (.slice A' (k + 1) c') (k + 1) (u64s (stamps (vs.take (k + 1))))) := by
              show World.ownsRow _ _ _ _ _ _ _
              rw [← HT.out]; exact hown'
            clear hown' hgrow hat'
            go_roundw
            case rel => exact ⟨k + 1, by omega, by go_num, HOW.out, hb'⟩
            case measure => simp [intOf]; omega
          · obtain rfl : k = n := by omega
            obtain ⟨A3, c3, rfl⟩ : ∃ A3 c3, u6 = .slice A3 k c3 := by
              obtain ⟨A3, c3, e, _⟩ := Row.of_own hown
              exact ⟨A3, c3, e⟩
            have HOW := Lib.hid hown
            have i1 : ¬ (k : Int) < (k : Int) := by omega
            have c0r := KQ.out wr hbr
            have hblr := (hbr.block b hbl).trans HBLK.out
            have HBK := Lib.hid hblr
            have HDR := Lib.hid (HD.out wr hbr)
            clear hown HO0 hmk hblr hbr
            go_wp2_with fail
            refine (HDR.out).mono ?_
            rintro e w4 ⟨A4, c4, rfl, ho4, hg4, he4⟩
            have HG := Lib.hid (HFIN.out wr w4 A3 c3 _ HBR.out HOW.out ho4 hg4 he4)
            have hb4 := (hg4.block b (by omega) (fun e => hne e.symm)).trans HBK.out
            have u0 := one_cell hb4
            have hf4 : w4.frozen? ⟨b, 0, none⟩ = false := one_free hb4
            clear ho4 hg4 he4 hb4
            go_wp2_with fail
            go_ret
            exact HG.out

end Go.Proofs.Ytphcakhhjjdpiaa
