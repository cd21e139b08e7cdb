/-
  The contracts of bits.Len, nextPowerOfTwo, xorshift's Next and breakPatterns.
-/
import Derived.Test.YtdfmgfclcbeeiaaSHeap
import Derived.Shelf.SortM.So_math_bits_LenIn
import Derived.Sort.EveryDepth
import Derived.Lib.ItoaNum
namespace Go.Proofs
open Go.Shelf
def Try.len44_ren : Go.Shelf.Ren := ⟨fun | 8 => 44 | 19 => 57 | 20 => 58 | n => n, fun | 3 => 3 | 4 => 4 | 5 => 5 | 9 => 9 | 32 => 77 | 44 => 89 | 46 => 31 | n => n, fun n => n⟩
theorem Try.len44 : Go.Proofs.SlLaysM.n8 Try.prog Try.len44_ren := {
  mixed := by kernel_rfl
  f8 := Try.func44.trans (congrArg some (by kernel_rfl))
  f19 := Try.func57.trans (congrArg some (by kernel_rfl))
  f20 := Try.func58.trans (congrArg some (by kernel_rfl))
  t3 := Try.underlying3
  a3 := Try.isAgg3
  z3 := Try.sizeOf3
  v3 := Try.zeroValue3
  t4 := Try.underlying4
  a4 := Try.isAgg4
  z4 := Try.sizeOf4
  v4 := Try.zeroValue4
  t5 := Try.underlying5
  a5 := Try.isAgg5
  z5 := Try.sizeOf5
  v5 := Try.zeroValue5
  t9 := Try.underlying9
  a9 := Try.isAgg9
  z9 := Try.sizeOf9
  v9 := Try.zeroValue9
  t32 := Try.underlying77
  a32 := Try.isAgg77
  z32 := Try.sizeOf77
  v32 := Try.zeroValue77
  t44 := Try.underlying89
  a44 := Try.isAgg89
  z44 := Try.sizeOf89
  v44 := Try.zeroValue89
  t46 := Try.underlying31
  a46 := Try.isAgg31
  z46 := Try.sizeOf31
  v46 := Try.zeroValue31 }
end Go.Proofs
namespace Go.Proofs.Ytdfmgfclcbeeiaa
open Go.RowKit Go.Sort
set_option linter.unusedSimpArgs false
set_option linter.unusedVariables false

theorem len_any (n : Nat) (w : World) (h : n ≤ 18446744073709551615) : Calls Try.prog 44 #[.int .u64 (n : Int)] w fun e w' => e = .returned (.int .i64 (Lib.bitLen n : Nat)) ∧ w' = w := by
  have := calls_of_every_depth fun D => AnySM.bits_LenIn Try.len44 D (n : Int) w (by omega) (by omega)
  rwa [Int.toNat_natCast] at this

theorem wrapU_small (n : Nat) (h : n < 18446744073709551616) : IntKind.u64.wrap (n : Int) = n := by
  unfold IntKind.wrap IntKind.bits IntKind.signed
  simp
  omega
theorem and_le (x m : Nat) : x &&& m ≤ m := Nat.and_le_right
set_option maxHeartbeats 1000000 in
/-- nextPowerOfTwo: a power of two above n, not above 2n -/
theorem next2_any (n : Nat) (w : World) (h0 : 0 < n) (h : n < 4611686018427387904) : Calls Try.prog 60 #[.int .i64 (n : Int)] w fun e w' => (∃ m : Nat, e = .returned (.int .u64 (m : Int)) ∧ n < m ∧ m ≤ 2 * n) ∧ w' = w := by
  have HL := Lib.hid (len_any n w (by omega))
  obtain ⟨k, hk⟩ : ∃ k, k = Lib.bitLen n := ⟨_, rfl⟩
  rw [← hk] at HL
  obtain ⟨hk1, hb2, hb1⟩ := Lib.bitLenAux_bounds 64 n (by omega) (by omega)
  rw [show Lib.bitLenAux 64 n = k from hk.symm] at hk1 hb2 hb1
  have hk2 : 2 ^ k = 2 * 2 ^ (k - 1) := by
    obtain ⟨j, rfl⟩ : ∃ j, k = j + 1 := ⟨k - 1, by omega⟩
    rw [Nat.pow_succ, Nat.add_sub_cancel]
    omega
  have hk62 : k ≤ 62 := by
    rcases Nat.lt_or_ge 62 k with h' | h'
    · have : 2 ^ 62 ≤ 2 ^ (k - 1) := Nat.pow_le_pow_right (by omega) (by omega)
      omega
    · exact h'
  have HB : Hid (n < 2 ^ k ∧ 2 ^ k ≤ 2 * n) := ⟨hb1, by omega⟩
  clear hk hb1 hb2 hk2
  go_enter Try.func60, Try.ntmps60
  go_wp2_with fail
  refine (HL.out).mono ?_
  rintro e w' ⟨rfl, rfl⟩
  go_wp2_with fail
  go_ret
  obtain ⟨hb1, hb2⟩ := HB.out
  refine ⟨⟨2 ^ k, ?_, hb1, hb2⟩, rfl⟩
  show Ending.returned (Value.int IntKind.u64 (IntKind.u64.wrap (2 ^ k))) = _
  rw [show ((2 : Int) ^ k) = ((2 ^ k : Nat) : Int) by push_cast; rfl, wrapU_small _ (by omega)]

/-- a row, and a random number's state in a new block -/
structure Xw (w0 w : World) (blk off : Nat) (d : Array Int) (g : Nat) : Prop where
  ro : Ro w0 w blk off d
  cell : ∃ x : Int, w.heap[g]? = some (.cells #[.int .u64 x] 91 (0, 0))
  new : w0.heap.size ≤ g
theorem Xw.set {w0 w : World} {blk off : Nat} {d : Array Int} {g : Nat} (h : Xw w0 w blk off d g) (y : Int) : Xw w0 (w.setCell ⟨g, 0, none⟩ (.int .u64 y)).drew blk off d g := by
  obtain ⟨x, hx⟩ := h.cell
  exact ⟨(h.ro.set h.new _).drewN 1, ⟨y, by simp [World.setCell, World.drew, Array.getElem?_modify, hx]⟩, h.new⟩
theorem one_cellX {w : World} {g : Nat} {v : Value} (h : w.heap[g]? = some (.cells #[v] 91 (0, 0))) : w.cell? ⟨g, 0, none⟩ = some v ∧ w.frozen? ⟨g, 0, none⟩ = false := by
  constructor <;> simp [World.cell?, World.frozen?, h]
set_option maxHeartbeats 1000000 in
theorem rand_any (w0 w : World) (blk off g : Nat) (d : Array Int) (h : Xw w0 w blk off d g) : Calls Try.prog 61 #[.pointer (some ⟨g, 0, none⟩)] w fun e w' => (∃ y : Int, e = .returned (.int .u64 y)) ∧ Xw w0 w' blk off d g := by
  obtain ⟨x, hx⟩ := h.cell
  obtain ⟨hc, hf⟩ := one_cellX hx
  have H := Lib.hid h
  clear h hx
  go_enter Try.func61, Try.ntmps61
  go_wp2_with fail
  go_region
  all_goals go_wp2_with fail
  generalize bits BinOp.xor IntKind.u64 x (IntKind.u64.wrap (x * 8192)) = y1 at *
  have H1 := Lib.hid (H.out.set y1)
  generalize (w.setCell ⟨g, 0, none⟩ (.int .u64 y1)).drew = w1 at *
  clear hc hf H
  obtain ⟨x1, hx1⟩ := H1.out.cell
  obtain ⟨hc1, hf1⟩ := one_cellX hx1
  clear hx1
  go_region
  all_goals go_wp2_with fail
  generalize bits BinOp.xor IntKind.u64 x1 _ = y2 at *
  have H2 := Lib.hid (H1.out.set y2)
  generalize (w1.setCell ⟨g, 0, none⟩ (.int .u64 y2)).drew = w2 at *
  clear hc1 hf1 H1
  obtain ⟨x2, hx2⟩ := H2.out.cell
  obtain ⟨hc2, hf2⟩ := one_cellX hx2
  clear hx2
  go_region
  all_goals go_wp2_with fail
  go_ret
  exact ⟨⟨_, rfl⟩, H2.out.set _⟩

theorem and_small (y : Int) (m : Nat) (hm : m < 18446744073709551616) : ∃ r : Nat, bits BinOp.and IntKind.u64 y (m : Int) = (r : Int) ∧ r ≤ m := by
  unfold bits
  simp only []
  refine ⟨(BitVec.ofInt 64 y &&& BitVec.ofInt 64 (m : Int)).toNat, wrapU_small _ (BitVec.isLt _), ?_⟩
  rw [BitVec.toNat_and]
  refine Nat.le_trans Nat.and_le_right ?_
  rw [BitVec.toNat_ofInt]
  simp
  omega

set_option maxRecDepth 100000 in
set_option maxHeartbeats 2000000 in
theorem break_any (w : World) (blk off cap : Nat) (d : Array Int) (a b : Nat) (h : Holds encU w blk off d) (hblk : blk < w.heap.size) (hab : a ≤ b) (hb : b ≤ d.size) (hsz : d.size < 4611686018427387904) :
    Calls Try.prog 50 #[.slice (some ⟨blk, off, none⟩) d.size cap, .int .i64 a, .int .i64 b] w fun e w' => e = .returned (.tuple #[]) ∧ ∃ d', Moved w blk off a b d d' w' := by
  have H0 := Lib.hid (Ro.start h hblk)
  obtain ⟨n, hn⟩ : ∃ n, n = d.size := ⟨_, rfl⟩
  obtain ⟨l, hl⟩ : ∃ l, l = b - a := ⟨_, rfl⟩
  obtain ⟨q, hq⟩ : ∃ q, q = l / 4 := ⟨_, rfl⟩
  have e1 : (b : Int) - (a : Int) = (l : Int) := by omega
  have e2 : (l : Int).tdiv 4 = (q : Int) := by rw [Int.tdiv_eq_ediv_of_nonneg (by omega)]; omega
  have e2' : (l : Int) / 4 = (q : Int) := by omega
  obtain ⟨md, hmd⟩ : ∃ md, md = a + q * 2 := ⟨_, rfl⟩
  have e3 : (a : Int) + (q : Int) * 2 = (md : Int) := by omega
  have HN : Hid (d.size = n) := hn.symm
  rw [← hn] at hsz hb ⊢
  have hl2 : l ≤ n ∧ q ≤ 2305843009213693952 ∧ md ≤ n ∧ a ≤ n := by omega
  obtain ⟨hl2, hq2, hmd2, han⟩ := hl2
  have HQ : Hid (q = l / 4 ∧ md = a + q * 2 ∧ l = b - a) := ⟨hq, hmd, hl⟩
  clear h hn hl hq hmd
  go_enter Try.func50, Try.ntmps50
  by_cases h8 : 8 ≤ l
  · have e8 : (8 : Int) ≤ (l : Int) := by omega
    obtain ⟨w1, hw1⟩ : ∃ y, y = w.alloc (.cells #[.int .u64 (l : Int)] 91) := ⟨_, rfl⟩
    obtain ⟨g, hg⟩ : ∃ g, g = w.heap.size := ⟨_, rfl⟩
    have hX : Xw w w1 blk off d g := ⟨by rw [hw1]; exact H0.out.alloc _, ⟨l, by rw [hw1, hg]; exact heap_alloc_new w _⟩, by rw [hg]; exact Nat.le_refl _⟩
    have HX := Lib.hid hX
    have HW1 := Lib.hid hw1
    have HG := Lib.hid hg
    have HNX := Lib.hid (next2_any l w1 (by omega) (by omega))
    clear hX hw1 hg
    go_wp2_with fail
    rw [← HG.out]
    rw [show w.alloc (.cells #[.int .u64 (l : Int)] 91) = w1 from HW1.out.symm]
    refine (HNX.out).mono ?_
    rintro e w2 ⟨⟨m, rfl, hm1, hm2⟩, rfl⟩
    obtain ⟨i0, hi0⟩ : ∃ i0, i0 = md - 1 := ⟨_, rfl⟩
    have e4 : (md : Int) - 1 = (i0 : Int) := by have := HQ.out; omega
    have HI0 : Hid (i0 + 1 = md ∧ a ≤ i0 ∧ md + 1 < b) := by have := HQ.out; show _ ∧ _; omega
    clear hi0
    go_wp2_with fail
    go_loopw [9, 10] (fun s9 _ wr => ∃ (idx : Nat) (dk : Array Int), s9 = .int .i64 (idx : Int) ∧ i0 ≤ idx ∧ idx ≤ md + 2 ∧ dk.size = n ∧ PermIn a b d dk ∧ Xw w wr blk off dk g) (fun s9 _ _ => md + 2 - (intOf s9).toNat)
    case atStart => exact ⟨i0, d, rfl, Nat.le_refl _, by have := HI0.out; omega, HN.out, permIn_refl d a b, HX.out⟩
    case round =>
      obtain ⟨idx, dk, rfl, hi1, hi2, hsk, hpk, hxk⟩ := hrel
      have HSK := Lib.hid hsk
      have HPK := Lib.hid hpk
      have HXK := Lib.hid hxk
      have HRD := Lib.hid (rand_any w wr blk off g dk hxk)
      clear hsk hpk hxk
      by_cases hle : idx ≤ md + 1
      · have e6 : (idx : Int) ≤ (md : Int) + 1 := by omega
        go_wp2_with fail
        refine (HRD.out).mono ?_
        rintro e w3 ⟨⟨y, rfl⟩, hX2⟩
        have HX2 := Lib.hid hX2
        obtain ⟨r, hr0, hrm⟩ := and_small y (m - 1) (by omega)
        have hr : bits BinOp.and IntKind.u64 y ((m : Int) - 1) = (r : Int) := by rw [show (m : Int) - 1 = ((m - 1 : Nat) : Int) by omega]; exact hr0
        clear hr0
        have hq9 := HI0.out
        have hr9 : r ≤ 9223372036854775807 := by omega
        clear hX2
        by_cases hrl : l ≤ r
        · obtain ⟨o, rfl⟩ : ∃ o, r = l + o := ⟨r - l, by omega⟩
          have e8' : (l : Int) + (o : Int) - (l : Int) = (o : Int) := by omega
          have hol : o < l := by omega
          rw [Int.natCast_add] at hr
          obtain ⟨x1, hx1⟩ : ∃ x1, x1 = a + o := ⟨_, rfl⟩
          have e9 : (a : Int) + (o : Int) = (x1 : Int) := by omega
          have b1 : x1 < n ∧ idx < n ∧ a ≤ x1 ∧ x1 < b := by have := HQ.out; omega
          obtain ⟨b1, b2, b3, b4⟩ := b1
          obtain ⟨G, hG, hcw, hfw⟩ := HX2.out.ro.fam
          rw [HSK.out] at hcw hfw
          have HGG := Lib.hid hG
          obtain ⟨z, ⟨q1, q2⟩, q3, q4⟩ := HX2.out.ro.cell2 (i := idx) (j := x1) (x := G x1) (by rw [HSK.out]; omega) (by rw [HSK.out]; omega)
          have HSW : Hid (Ro w (((w3.setCell ⟨blk, off + idx, none⟩ (.int .u64 (G x1))).setCell ⟨blk, off + x1, none⟩ (.int .u64 (G idx))).drewN 1) blk off (swp dk idx x1)) := Ro.swp 1 HX2.out.ro (by rw [HSK.out]; omega) (by rw [HSK.out]; omega) (by rw [HGG.out]; rfl) (by rw [HGG.out]; rfl)
          have HXC : Hid (∃ x : Int, (((w3.setCell ⟨blk, off + idx, none⟩ (.int .u64 (G x1))).setCell ⟨blk, off + x1, none⟩ (.int .u64 (G idx))).drewN 1).heap[g]? = some (.cells #[.int .u64 x] 91 (0, 0))) := by
            obtain ⟨x, hx⟩ := HX2.out.cell
            refine ⟨x, ?_⟩
            show ((w3.setCell ⟨blk, off + idx, none⟩ (.int .u64 (G x1))).setCell ⟨blk, off + x1, none⟩ (.int .u64 (G idx))).heap[g]? = _
            have hne : g ≠ blk := by have h1 := HX2.out.new; have h2 := HX2.out.ro.lt; omega
            rw [Below.heap_setCell _ _ _ _ hne, Below.heap_setCell _ _ _ _ hne]
            exact hx
          have HPM : Hid (PermIn a b d (swp dk idx x1)) := permIn_trans _ _ _ _ _ HPK.out (swp_permIn dk a b idx x1 (by have := HQ.out; omega) (by have := HQ.out; omega) b3 b4 (by rw [HSK.out]; omega))
          clear hG hx1
          go_wp2_with fail
          go_region
          all_goals go_wp2_with fail
          go_roundw
          case rel => exact ⟨idx + 1, _, by go_num, by omega, by omega, by rw [swp_sz]; exact HSK.out, HPM.out, ⟨HSW.out, HXC.out, HX2.out.new⟩⟩
          case measure => simp [intOf]; omega
        · obtain ⟨o, ho⟩ : ∃ o, o = r := ⟨_, rfl⟩
          have e7 : ¬ (l : Int) ≤ (o : Int) := by omega
          have hol : o < l := by omega
          subst ho
          obtain ⟨x1, hx1⟩ : ∃ x1, x1 = a + o := ⟨_, rfl⟩
          have e9 : (a : Int) + (o : Int) = (x1 : Int) := by omega
          have b1 : x1 < n ∧ idx < n ∧ a ≤ x1 ∧ x1 < b := by have := HQ.out; omega
          obtain ⟨b1, b2, b3, b4⟩ := b1
          obtain ⟨G, hG, hcw, hfw⟩ := HX2.out.ro.fam
          rw [HSK.out] at hcw hfw
          have HGG := Lib.hid hG
          obtain ⟨z, ⟨q1, q2⟩, q3, q4⟩ := HX2.out.ro.cell2 (i := idx) (j := x1) (x := G x1) (by rw [HSK.out]; omega) (by rw [HSK.out]; omega)
          have HSW : Hid (Ro w (((w3.setCell ⟨blk, off + idx, none⟩ (.int .u64 (G x1))).setCell ⟨blk, off + x1, none⟩ (.int .u64 (G idx))).drewN 1) blk off (swp dk idx x1)) := Ro.swp 1 HX2.out.ro (by rw [HSK.out]; omega) (by rw [HSK.out]; omega) (by rw [HGG.out]; rfl) (by rw [HGG.out]; rfl)
          have HXC : Hid (∃ x : Int, (((w3.setCell ⟨blk, off + idx, none⟩ (.int .u64 (G x1))).setCell ⟨blk, off + x1, none⟩ (.int .u64 (G idx))).drewN 1).heap[g]? = some (.cells #[.int .u64 x] 91 (0, 0))) := by
            obtain ⟨x, hx⟩ := HX2.out.cell
            refine ⟨x, ?_⟩
            show ((w3.setCell ⟨blk, off + idx, none⟩ (.int .u64 (G x1))).setCell ⟨blk, off + x1, none⟩ (.int .u64 (G idx))).heap[g]? = _
            have hne : g ≠ blk := by have h1 := HX2.out.new; have h2 := HX2.out.ro.lt; omega
            rw [Below.heap_setCell _ _ _ _ hne, Below.heap_setCell _ _ _ _ hne]
            exact hx
          have HPM : Hid (PermIn a b d (swp dk idx x1)) := permIn_trans _ _ _ _ _ HPK.out (swp_permIn dk a b idx x1 (by have := HQ.out; omega) (by have := HQ.out; omega) b3 b4 (by rw [HSK.out]; omega))
          clear hG hx1
          go_wp2_with fail
          go_region
          all_goals go_wp2_with fail
          go_roundw
          case rel => exact ⟨idx + 1, _, by go_num, by omega, by omega, by rw [swp_sz]; exact HSK.out, HPM.out, ⟨HSW.out, HXC.out, HX2.out.new⟩⟩
          case measure => simp [intOf]; omega
      · have e6 : ¬ (idx : Int) ≤ (md : Int) + 1 := by omega
        go_wp2_with fail
        go_end0
        exact ⟨rfl, dk, HXK.out.ro, HPK.out⟩
  · have e8 : ¬ (8 : Int) ≤ (l : Int) := by omega
    go_wp2_with fail
    go_end0
    exact ⟨rfl, d, H0.out, permIn_refl d a b⟩

end Go.Proofs.Ytdfmgfclcbeeiaa
