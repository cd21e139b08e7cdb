/-
  What BestMerges does: it returns true, and turns nothing that was there.
-/
import Derived.Test.YtfhnhfppamnjhaaMerges0
namespace Go.Proofs.Ytfhnhfppamnjhaa
open Go.RowKit Go.Maps

theorem Try.info29 : (Try.prog.info? 29).map (fun i => (i.zero, i.size, i.bytes)) = some (some (.slice none 0 0), 1, 24) := by kernel_rfl

def G12 (p : List Hit) : List Hit := ((p.take 12).map cutHit).map can

theorem u64_bd {n : Int} (h : (Lit.int .u64 n).wf = true) : 0 ≤ n ∧ n ≤ 18446744073709551615 := by
  simpa [Lit.wf, IntKind.min, IntKind.max, IntKind.signed, IntKind.bits] using h
theorem flat_g12 {ps : List (List Hit)} (hok : ∀ l ∈ ps, OkHits l) : ∀ k, k ≤ ps.length → ((ps.take k).map G12).flatten.length ≤ 12 * k ∧ ∀ x ∈ ((ps.take k).map G12).flatten, Wf x ∧ Can x
  | 0, _ => ⟨by simp, fun x hx => by simp at hx⟩
  | k + 1, hk => by
    obtain ⟨h1, h2⟩ := flat_g12 hok k (by omega)
    have hlt : k < ps.length := by omega
    rw [List.take_succ_eq_append_getElem hlt, List.map_append, List.flatten_append]
    have hg : (List.map G12 [ps[k]]).flatten = G12 ps[k] := by simp
    rw [hg, List.length_append]
    have hl : (G12 ps[k]).length ≤ 12 := by unfold G12; rw [List.length_map, List.length_map, List.length_take]; omega
    refine ⟨by omega, fun x hx => ?_⟩
    rcases List.mem_append.1 hx with hx | hx
    · exact h2 x hx
    · unfold G12 at hx
      obtain ⟨y, hy, rfl⟩ := List.mem_map.1 hx
      exact ⟨can_wf (cut_wf (hok _ (List.getElem_mem hlt)).2.2 12 y hy), can_can y⟩
theorem all_le {M : Nat} : ∀ (xs T : List Hit), (putAll M T xs).1.length ≤ T.length + xs.length
  | [], T => by simp [putAll]
  | x :: xs, T => by
    rw [putAll_cons, List.length_cons]
    have h1 := all_le (M := M) xs (putOne M T x)
    have h2 := one_len (most := M) (hs := T) (x := x)
    omega

set_option maxRecDepth 100000 in
set_option maxHeartbeats 4000000 in
theorem law_merges (S : Nat → Prop) (m : Nat) (A : Option Addr) (c : Nat) (ps : List (List Hit)) (w : World) (hm : m < 256) (h : ListsAt S w A ps) (hl : ps.length ≤ 9223372036854775807) (hok : ∀ l ∈ ps, OkHits l) :
    Calls Try.prog 4 #[.int .u8 (m : Int), .slice A ps.length c] w fun e w' => e = .returned (.bool true) ∧ Below w.heap.size w w' := by
  obtain ⟨r, hr⟩ : ∃ r, r = m % 20 := ⟨_, rfl⟩
  have e1 : (m : Int) % 20 = (r : Int) := by omega
  have e2 : Int.tmod (m : Int) 20 = (r : Int) := by rw [Int.tmod_eq_emod_of_nonneg (by omega)]; exact e1
  have hr20 : r < 20 := by omega
  clear hr
  obtain ⟨n, hn, hn1, hn2⟩ : ∃ n : Nat, (1 : Int) + (r : Int) = (n : Int) ∧ 1 ≤ n ∧ n ≤ 20 := ⟨1 + r, by omega, by omega, by omega⟩
  have HAW := Lib.hid (awake_any w)
  have HAT := Lib.hid h
  have HOK := Lib.hid hok
  clear h hok
  go_enter Try.func4, Try.ntmps4
  go_wp2_with fail
  refine (HAW.out).mono ?_
  rintro e w1 ⟨rfl, hb1⟩
  obtain ⟨w2, hw2⟩ : ∃ x, x = w1.alloc (.cells #[.int .i64 1048576, .slice none 0 0] 31) := ⟨_, rfl⟩
  obtain ⟨B, hB⟩ : ∃ x, x = w1.heap.size := ⟨_, rfl⟩
  have hb2 : Below w.heap.size w w2 := by rw [hw2]; exact hb1.alloc hb1.size _
  have HB2 := Lib.hid hb2
  have hBw : w.heap.size ≤ B := by rw [hB]; exact hb1.size
  have hB2 : B + 1 = w2.heap.size := by rw [hw2, hB]; simp
  have HB2S := Lib.hid hB2
  have HMI0 : Hid (MI B B w2 [] (.slice none 0 0) (.slice none 0 0) [] [] none 0 []) := by
    have hblk : w2.heap[B]? = some (.cells #[.int .i64 1048576, .slice none 0 0] 31 (0, 0)) := by rw [hw2, hB]; exact heap_alloc_new w1 _
    refine ⟨⟨rfl, .inl ⟨rfl, rfl⟩⟩, ⟨rfl, .inl ⟨rfl, rfl⟩⟩, Vals.nil, Vals.nil, ⟨hblk, ⟨[], ⟨rfl, .inl ⟨rfl, rfl⟩⟩, Cells3.nil⟩, fun g e => by simp [Value.ownBlock] at e, fun g s => s.2.1⟩, by simp [putAll], by simp [Value.ownBlock], fun g e => by simp [Value.ownBlock] at e⟩
  have HB1 := Lib.hid hB
  clear hb1 hb2 hB2 HAW hB
  go_wp2_with fail
  rw [← hw2, ← HB1.out]
  clear hw2
  go_loopw [6, 7, 9, 10, 11, 24, 33, 34, 35] (fun v1 v2 _ _ _ i _ _ _ wr => ∃ (k : Nat) (vs us : List Value) (Ax : Option Addr) (cx : Nat) (L : List Hit), k ≤ ps.length ∧ k ≤ 6 ∧ i = .int .i64 k ∧ MI B B wr ((ps.take k).map G12) v1 v2 vs us Ax cx L ∧ Below w.heap.size w wr) (fun _ _ _ _ _ i _ _ _ _ => ps.length - (intOf i).toNat)
  case atStart => exact ⟨0, [], [], none, 0, [], Nat.zero_le _, Nat.zero_le _, rfl, by simpa using HMI0.out, HB2.out⟩
  case round =>
    obtain ⟨k, vs, us, Ax, cx, L, hk, hk6, rfl, hMI, hBr⟩ := hrel
    by_cases hlt : k < ps.length ∧ k < 6
    case' pos =>
      obtain ⟨hlt1, hlt6⟩ := hlt
      have i1 : (k : Int) < (ps.length : Int) := by omega
      have i2 : ¬ (6 : Int) ≤ (k : Int) := by omega
      obtain ⟨ad, X, cp, rfl, _, _, g0, hatp⟩ := (HAT.out.below hBr) k hlt1
      obtain ⟨o1, o2, o3⟩ := HOK.out _ (List.getElem_mem hlt1)
      have HCUT := Lib.hid (cutHits_any _ X cp 12 ps[k] wr hatp o1 o2 (by decide))
      have HWF := Lib.hid (cut_wf o3 12)
      have HLL := Lib.hid (cut_len ps[k] 12)
      have HSTEP := Lib.hid (show (ps.take (k + 1)).map G12 = (ps.take k).map G12 ++ [((ps[k].take 12).map cutHit).map can] by rw [List.take_succ_eq_append_getElem hlt1, List.map_append]; rfl)
      have HMI := Lib.hid hMI
      have HBR := Lib.hid hBr
      clear hMI hBr hatp o1 o2 o3
      generalize (ps[k].take 12).map cutHit = qs at *
      generalize ps[k].length = pl at *
      go_wp2_with fail
      refine (HCUT.out).mono ?_
      rintro e w5 ⟨vp, rfl, Op, hb5⟩
      have HOP := Lib.hid Op
      have HB5 := Lib.hid hb5
      obtain ⟨Ap, cq, rfl, hcq, _⟩ := Op.hits
      have hll := HLL.out
      clear Op hb5 HCUT
      go_wp2_with fail
      obtain ⟨w4, hw4⟩ : ∃ x, x = wr := ⟨_, rfl⟩
      subst hw4
      obtain ⟨ls, hls⟩ : ∃ x, x = (ps.take k).map G12 := ⟨_, rfl⟩
      rw [← hls] at HMI HSTEP
      have hlen : ls.length = k := by rw [hls, List.length_map, List.length_take]; omega
      have hBlt : B < w4.heap.size := lt_of_block HMI.out.rl.blk
      have hflat : ls.flatten.length ≤ 12 * k ∧ ∀ x ∈ ls.flatten, Wf x ∧ Can x := by
        rw [hls]
        exact flat_g12 (fun l hl => HOK.out l hl) k hk
      have HFL := Lib.hid hflat
      have HLS := Lib.hid hls
      obtain ⟨T0, hT0⟩ : ∃ x, x = (putAll 1048576 [] ls.flatten).1 := ⟨_, rfl⟩
      have HGT : Hid (Good 1048576 T0) := by rw [hT0]; exact (Good.start _).all (by decide) fun x hx => (hflat.2 x hx).1
      have hTl : T0.length ≤ 72 := by
        have h1 := HMI.out.perm.length_eq
        have h2 := all_le (M := 1048576) ls.flatten []
        rw [hT0]
        rw [List.length_nil, Nat.zero_add] at h2
        omega
      have HT0 := Lib.hid hT0
      clear hls hflat hT0
      have hv1 : ∀ g, u6.ownBlock = some g → g < w4.heap.size := fun g e => (own_lt HMI.out.own1 e).2
      have HV1 := Lib.hid hv1
      have HSTART : Hid (∃ (Ay : Option Addr) (cy : Nat) (L' : List Hit), RL w5 (fun g => SM B B u6 g ∧ some g ≠ (Value.slice Ap qs.length cq).ownBlock) B B 1048576 Ay cy L' ∧ L'.Perm (putAll 1048576 T0 ((qs.map can).take 0)).1) := by
        refine ⟨Ax, cx, L, ?_, by simpa [putAll, HT0.out] using HMI.out.perm⟩
        refine (HMI.out.rl.lt.below HB5.out).mono (fun g s => ⟨s.2, fun e => ?_⟩) (fun g s => s.1.2.1)
        have := (HOP.out.low e.symm).1
        omega
      clear hv1
      go_loopw [11, 35] (fun _ i wr => ∃ (j : Nat) (Ay : Option Addr) (cy : Nat) (L' : List Hit), j ≤ qs.length ∧ i = .int .i64 j ∧ Own3 wr w4.heap.size (.slice Ap qs.length cq) (cans j qs) ∧ RL wr (fun g => SM B B u6 g ∧ some g ≠ (Value.slice Ap qs.length cq).ownBlock) B B 1048576 Ay cy L' ∧ L'.Perm (putAll 1048576 T0 ((qs.map can).take j)).1 ∧ Only B w4 wr) (fun _ i _ => qs.length - (intOf i).toNat)
      case atStart =>
        obtain ⟨Ay, cy, L', q1, q2⟩ := HSTART.out
        exact ⟨0, Ay, cy, L', Nat.zero_le _, rfl, by rw [cans_zero]; exact HOP.out, q1, q2, Only.of_below HB5.out⟩
      case round =>
        obtain ⟨j, Ay, cy, L', hj, rfl, hO3, hRL, hPm, hOn⟩ := hrel
        by_cases hjl : j < qs.length
        · have j1 : (j : Int) < (qs.length : Int) := by omega
          have hjc : j < (cans j qs).length := by rw [cans_len]; exact hjl
          obtain ⟨gp, rfl, hgB, hgl, d0, d1, ⟨Y, dy, d2, _, _⟩, hfz⟩ := hO3.at3 hjc
          rw [cans_get hjl hjc] at d0 d1 d2
          have hwf := HWF.out _ (List.getElem_mem hjl)
          have hi0 := u64_bd hwf.1
          have hi1 := u64_bd hwf.2.1
          obtain ⟨a7, ha7⟩ : ∃ x, x = qs[j].1 % 7 := ⟨_, rfl⟩
          obtain ⟨b7, hb7⟩ : ∃ x, x = qs[j].2.1 % 7 := ⟨_, rfl⟩
          have fz := hfz (j * 3 + 2)
          obtain ⟨w6, hw6⟩ : ∃ x, x = (wr.drew.alloc (.cells #[.int .i32 a7, .int .i32 b7] 21)).setCell ⟨gp, j * 3 + 2, none⟩ (.slice (some ⟨wr.heap.size, 0, none⟩) 2 2) := ⟨_, rfl⟩
          have hbal : Below wr.heap.size wr (wr.drew.alloc (.cells #[.int .i32 a7, .int .i32 b7] 21)) := ((Below.refl _ _).drew).alloc (Nat.le_refl _) _
          have hs6 : w6.heap.size = wr.heap.size + 1 := by rw [hw6, set_size]; simp
          have h6 : ∀ g, g < wr.heap.size → g ≠ gp → w6.heap[g]? = wr.heap[g]? := fun g hg hne => by rw [hw6, Below.heap_setCell _ _ _ _ hne]; exact hbal.block g hg
          have hnew : (wr.drew.alloc (.cells #[.int .i32 a7, .int .i32 b7] 21)).heap[wr.heap.size]? = some (.cells #[.int .i32 a7, .int .i32 b7] 21 (0, 0)) := heap_alloc_new wr.drew _
          have hvrow : Row (fun k => w4.heap.size ≤ k ∧ k ≠ gp) (wr.drew.alloc (.cells #[.int .i32 a7, .int .i32 b7] 21)) (some ⟨wr.heap.size, 0, none⟩) (i32s [a7, b7]) := Row.of_block (xs := i32s [a7, b7]) hnew ⟨hOn.size, by omega⟩
          have hO6 : Own3 w6 w4.heap.size (.slice (some ⟨gp, 0, none⟩) qs.length cq) (cans (j + 1) qs) := by
            have h1 := (hO3.below hbal).setVec (l := [a7, b7]) (c := 2) hjc (Nat.le_refl _) hvrow
            rw [cans_get hjl hjc] at h1
            rw [hw6, cans_step hjl, ← ha7, ← hb7]
            exact h1
          have hR6 : RL w6 (fun g => SM B B u6 g ∧ some g ≠ (Value.slice (some ⟨gp, 0, none⟩) qs.length cq).ownBlock) B B 1048576 Ay cy L' := hRL.kept (by omega) fun g hg s => h6 g hg (by
            rcases s with s | s
            · intro e; exact s.2 (by rw [e]; rfl)
            · omega)
          have hOn6 : Only B w4 w6 := by
            have h1 := hOn.then_below hbal
            refine ⟨?_, ?_, ?_, ?_, fun g hg hne => ?_⟩
            · rw [hw6]; exact h1.os
            · rw [hw6]; exact h1.tape
            · rw [hw6]; exact h1.output
            · have := hOn.size; omega
            · rw [hw6, Below.heap_setCell _ _ _ _ (show g ≠ gp by omega)]; exact h1.block g hg hne
          have hjc' : j < (cans (j + 1) qs).length := by rw [cans_len]; exact hjl
          have hget : (cans (j + 1) qs)[j] = can qs[j] := by
            have := cans_at (j + 1) qs j
            rw [List.getElem?_eq_getElem hjc', List.getElem?_eq_getElem hjl] at this
            simpa using this
          have hv6 : Row (fun _ => True) w6 (some ⟨wr.heap.size, 0, none⟩) (i32s (can qs[j]).2.2) := by
            have h1 : Row (fun k => w4.heap.size ≤ k ∧ k ≠ gp) w6 (some ⟨wr.heap.size, 0, none⟩) (i32s [a7, b7]) := by
              rw [hw6]
              exact hvrow.kept (by rw [set_size]; exact Nat.le_refl _) fun k _ s => Below.heap_setCell _ _ _ _ s.2
            rw [ha7, hb7] at h1
            exact h1.any
          have hgk : Good 1048576 (putAll 1048576 T0 ((qs.map can).take j)).1 := HGT.out.all (by decide) fun x hx => by
            obtain ⟨y, hy, rfl⟩ := List.mem_map.1 (List.mem_of_mem_take hx)
            exact can_wf (HWF.out y hy)
          have hLl : L'.length ≤ 999999 := by
            have h1 := hPm.length_eq
            have h2 := all_le (M := 1048576) ((qs.map can).take j) T0
            rw [List.length_take, List.length_map] at h2
            omega
          have hadd := refAdd_any _ _ B B 1048576 Ay cy L' _ (can qs[j]) (some ⟨wr.heap.size, 0, none⟩) 2 w6 hR6 (by have := hOn.size; omega) hPm hgk (by decide) (by decide) hLl hv6 (by simp [can]) (by simp [can])
          have HADD : Hid (Calls Try.prog 12 #[.pointer (some ⟨B, 0, none⟩), .agg #[.int .u64 qs[j].1, .int .u64 qs[j].2.1, .slice (some ⟨wr.heap.size, 0, none⟩) 2 2]] w6 fun e w' => ∃ bo, e = .returned (.bool bo) ∧ ∃ (Az : Option Addr) (cz : Nat) (L'' : List Hit), Own3 w' w4.heap.size (.slice (some ⟨gp, 0, none⟩) qs.length cq) (cans (j + 1) qs) ∧ RL w' (fun g => SM B B u6 g ∧ some g ≠ (Value.slice (some ⟨gp, 0, none⟩) qs.length cq).ownBlock) B B 1048576 Az cz L'' ∧ L''.Perm (putAll 1048576 T0 ((qs.map can).take (j + 1))).1 ∧ Only B w4 w') := hadd.mono (by
            rintro e w7 ⟨rfl, ⟨Az, cz, L'', r1, r2⟩, r3⟩
            refine ⟨_, rfl, Az, cz, L'', hO6.keep r3.size (fun g hg hlt => r3.block g hlt (by omega)), r1.mono (fun g s => ?_) (fun g s => s.1.2.1), ?_, hOn6.trans r3⟩
            · rcases s.2 with s2 | s2
              · exact s2
              · have h4 := hOn.size
                refine ⟨⟨by omega, s.1, fun e => by have := HV1.out g e.symm; omega⟩, fun e => ?_⟩
                have : g = gp := by simpa [Value.ownBlock] using e
                omega
            · rw [List.take_succ_eq_append_getElem (by rw [List.length_map]; exact hjl), putAll_snoc, List.getElem_map]
              exact r2)
          obtain ⟨gp', e', _, _, x0, x1, ⟨Y2, dy2, x2, _, _⟩, _⟩ := hO6.at3 hjc'
          injection e' with e'
          injection e' with e' _ _
          subst e'
          have y2 : w6.cell? ⟨gp, j * 3 + 2, none⟩ = some (.slice (some ⟨wr.heap.size, 0, none⟩) 2 2) := by
            rw [hw6]
            have hc2 := (hbal.cell (p := ⟨gp, j * 3 + 2, none⟩) hgl).trans d2
            exact World.cell?_setCell_same _ _ _ hc2
          rw [hget] at x0 x1
          have x0' : w6.cell? ⟨gp, j * 3, none⟩ = some (.int .u64 qs[j].1) := x0
          have x1' : w6.cell? ⟨gp, j * 3 + 1, none⟩ = some (.int .u64 qs[j].2.1) := x1
          have ta : Int.tmod qs[j].1 7 = a7 := by rw [Int.tmod_eq_emod_of_nonneg hi0.1, ha7]
          have tb : Int.tmod qs[j].2.1 7 = b7 := by rw [Int.tmod_eq_emod_of_nonneg hi1.1, hb7]
          have ea : qs[j].1 % 7 = a7 := ha7.symm
          have eb : qs[j].2.1 % 7 = b7 := hb7.symm
          have wa : IntKind.i32.wrap a7 = a7 := by rw [IntKind.wrap_i32]; omega
          have wb : IntKind.i32.wrap b7 = b7 := by rw [IntKind.wrap_i32]; omega
          have HW6 : Hid (w6 = ((wr.setCell ⟨gp, j * 3 + 2, none⟩ (.slice (some ⟨wr.heap.size, 0, none⟩) 2 2)).alloc (.cells #[.int .i32 a7, .int .i32 b7] 21)).drew) := by
            rw [hw6, World.setCell_alloc_past _ _ _ _ (by exact hgl)]
            rfl
          have hx0 := x0'
          have hx1 := x1'
          rw [HW6.out] at hx0 hx1
          clear hO3 hRL hPm hOn hbal hs6 h6 hnew hvrow hO6 hR6 hOn6 hget hv6 hgk hLl hadd x0 x1 x2 ha7 hb7 hwf hw6 hfz
          generalize qs[j].1 = ki at *
          generalize qs[j].2.1 = kd at *
          generalize qs[j].2.2.length = kl at *
          go_wp2_with fail
          go_region_held3 (fun w' => w'.cell? ⟨gp, j * 3, none⟩ = some (.int .u64 ki) ∧ w'.cell? ⟨gp, j * 3 + 1, none⟩ = some (.int .u64 kd)) (first | exact ⟨d0, d1⟩ | exact ⟨hx0, hx1⟩ | go_keep) (fail)
          rw [← HW6.out]
          clear d0 d1 d2 fz ta tb ea eb wa wb hx0 hx1
          go_wp2_with fail
          refine (HADD.out).mono ?_
          rintro e w7 ⟨bo, rfl, Az, cz, L'', r1, r2, r3, r4⟩
          go_wp2_with fail
          go_roundw
          case rel => exact ⟨j + 1, Az, cz, L'', by omega, by go_num, r1, r2, r3, r4⟩
          case measure => simp [intOf]; omega
        · obtain rfl : j = qs.length := by omega
          have j1 : ¬ ((qs.length : Int) < (qs.length : Int)) := by omega
          rw [cans_all] at hO3
          rw [List.take_of_length_le (by rw [List.length_map]; exact Nat.le_refl _)] at hPm
          have hMI := HMI.out
          obtain ⟨i0, hi0, hz0, hz1, hz2⟩ := info_parts Try.info29
          have hgr : w4.grownBy wr (some B) := ⟨hOn.os, hOn.tape, hOn.output, hOn.size, fun g hg hne => hOn.block g hg (fun e => hne (by rw [e]))⟩
          have ho1 := own_kept hMI.own1 hgr (fun g e e' => hMI.off1 (by rw [e]; exact e'.symm))
          have ho2 := own_kept hMI.own2 hgr (fun g e e' => (hMI.off2 g e).2.1 (by injection e' with e'; exact e'.symm))
          rw [hlen] at ho1 ho2
          obtain ⟨A2, c2, hv2, _, hul, hr2⟩ := Row.of_own ho2
          obtain ⟨pv, hpv⟩ : ∃ x : Value, x = .slice Ap qs.length cq := ⟨_, rfl⟩
          have hOh : HitsAt (fun g => w4.heap.size ≤ g) wr Ap (qs.map can) := by
            obtain ⟨A', c', e, _, hh⟩ := hO3.hits
            injection e with e _ _
            subst e
            exact hh
          have hBW : Below w.heap.size w wr := HBR.out.trans ⟨hOn.os, hOn.tape, hOn.output, hOn.size, fun g hg => hOn.block g (by have := HBR.out.size; omega) (by omega)⟩
          have HFIN : Hid (∀ w6 w7 A6 c6 A7 c7, (wr.alloc (.cells #[pv] 29)).grownBy w6 u6.ownBlock → w6.ownsRow B 29 1 (.slice A6 (k + 1) c6) (k + 1) (vs ++ [pv]) → ((Value.slice A6 (k + 1) c6).ownBlock = u6.ownBlock ∨ (Value.slice A6 (k + 1) c6).ownBlock = some (wr.alloc (.cells #[pv] 29)).heap.size) → (w6.alloc (.cells #[pv] 29)).grownBy w7 (some w6.heap.size) → w7.ownsRow B 29 1 (.slice A7 (1 + k) c7) (1 + k) ([pv] ++ us) → ((Value.slice A7 (1 + k) c7).ownBlock = some w6.heap.size ∨ (Value.slice A7 (1 + k) c7).ownBlock = some (w6.alloc (.cells #[pv] 29)).heap.size) →
              MI B B w7 ((ps.take (k + 1)).map G12) (.slice A6 (k + 1) c6) (.slice A7 (1 + k) c7) (vs ++ [pv]) ([pv] ++ us) Ay cy L' ∧ Below w.heap.size w w7) := fun w6 w7 A6 c6 A7 c7 q1 q2 q3 q4 q5 q6 => by
            have z1 : (wr.alloc (.cells #[pv] 29)).heap.size = wr.heap.size + 1 := by simp
            have z2 : (w6.alloc (.cells #[pv] 29)).heap.size = w6.heap.size + 1 := by simp
            rw [z1] at q3
            rw [z2] at q6
            constructor
            · rw [HSTEP.out]
              exact hMI.step (vp := .slice Ap qs.length cq) (X := Ap) (c := cq) (by omega) hOn hRL (by rw [← HT0.out]; exact hPm) (by rw [List.length_map]; exact hpv) hOh q1 (by rw [hlen]; exact q2) q3 q4 (by rw [hlen]; exact q5) q6
            · have s1 := hBW.size
              have h6 : Below w.heap.size w w6 := (hBW.alloc hBW.size _).grown q1 (by rw [z1]; omega) (fun g e => by have := (own_lt ho1 e).1; omega)
              exact (h6.alloc h6.size _).grown q4 (by rw [z2]; have := h6.size; omega) (fun g e => by injection e with e; have := h6.size; omega)
          have HO1 := Lib.hid ho1
          have HR6 : Hid (∀ w6, (wr.alloc (.cells #[pv] 29)).grownBy w6 u6.ownBlock → Row (fun _ => True) (w6.alloc (.cells #[pv] 29)) A2 us) := fun w6 q1 => by
            have z1 : (wr.alloc (.cells #[pv] 29)).heap.size = wr.heap.size + 1 := by simp
            have h1 : Row (fun g => B ≤ g ∧ some g = u7.ownBlock) (wr.alloc (.cells #[pv] 29)) A2 us := hr2.alloc _
            have h2 := h1.kept (w' := w6) q1.size fun g hg s => q1.block g hg (fun e => by
              have h3 := hMI.off2 g s.2.symm
              exact h3.2.2 e)
            exact (h2.alloc _).any
          have HV2 := Lib.hid hMI.vals2.oneCell
          have HBB : Hid (B ≤ wr.heap.size) := by have := hOn.size; exact (by omega : B ≤ wr.heap.size)
          have HUL := Lib.hid hul
          have hon2 : ∀ g, g < w4.heap.size → g ≠ B → wr.heap[g]? = w4.heap[g]? := hOn.block
          clear hMI hgr ho1 ho2 hOh hBW hr2 hul hO3 hRL hPm hOn hon2
          subst hv2 hpv
          go_wp2_with (first
            | (at_builtin; refine wpList_append_row _ rfl (.tmp 64) (.tmp 66) 22 rfl B 29 i0 (.slice none 0 0) 24 Try.underlying22 hi0 hz0 hz1 hz2 rfl u6 k vs rfl (HO1.out.alloc _) (fun _ => True) (some ⟨wr.heap.size, 0, none⟩) 1 1 [.slice Ap qs.length cq] rfl rfl (Row.of_block (xs := [.slice Ap qs.length cq]) (heap_alloc_new wr _) trivial) (by simp [Value.oneCell']) (by unfold maxLen; omega) (by omega) (by have := HBB.out; simp; omega) ?_; intro A6 c6 w6 o6 g6 a6; have hb6 : wr.heap.size + 1 ≤ w6.heap.size := (by have := g6.size; simp at this; exact this); have HO6 := Lib.hid o6; have HG6 := Lib.hid g6; have HA6 := Lib.hid a6; clear o6 g6 a6)
            | (at_builtin; refine wpList_append_row _ rfl (.tmp 69) (.tmp 70) 22 rfl B 29 i0 (.slice none 0 0) 24 Try.underlying22 hi0 hz0 hz1 hz2 rfl (.slice (some ⟨w6.heap.size, 0, none⟩) 1 1) 1 [.slice Ap qs.length cq] rfl (World.ownsRow_lit w6 #[.slice Ap qs.length cq] 1 (by have := HBB.out; omega) (by decide) rfl) _ A2 k c2 us rfl HUL.out (HR6.out w6 HG6.out) HV2.out (by unfold maxLen; omega) (by omega) (by have := HBB.out; simp; omega) ?_; intro A7 c7 w7 o7 g7 a7)
            | fail)
          obtain ⟨f1, f2⟩ := HFIN.out w6 w7 A6 c6 A7 c7 HG6.out HO6.out HA6.out g7 o7 a7
          exact ⟨⟨k + 1, _, _, Ay, cy, L', by omega, by omega, by go_num, f1, f2⟩, by simp [intOf]; omega⟩
    case' neg =>
      obtain ⟨ls, hls⟩ : ∃ x, x = (ps.take k).map G12 := ⟨_, rfl⟩
      rw [← hls] at hMI
      have hlen : ls.length = k := by rw [hls, List.length_map, List.length_take]; omega
      have hflat : ls.flatten.length ≤ 12 * k ∧ ∀ x ∈ ls.flatten, Wf x ∧ Can x := by
        rw [hls]
        exact flat_g12 (fun l hl => HOK.out l hl) k hk
      obtain ⟨rv, hrv⟩ : ∃ x, x = ls.reverse := ⟨_, rfl⟩
      have hv2r := hMI.vals2
      rw [← hrv] at hv2r
      obtain ⟨A1, c1, e1', hL1⟩ := hMI.vals1.lists hMI.own1
      obtain ⟨A2, c2, e2', hL2⟩ := hv2r.lists hMI.own2
      obtain ⟨T0, hT0⟩ : ∃ x, x = (putAll 1048576 [] ls.flatten).1 := ⟨_, rfl⟩
      have hGT : Good 1048576 T0 := by rw [hT0]; exact (Good.start _).all (by decide) fun x hx => (hflat.2 x hx).1
      have hTl : T0.length ≤ 72 := by
        have h2 := all_le (M := 1048576) ls.flatten []
        rw [hT0]
        rw [List.length_nil, Nat.zero_add] at h2
        omega
      have hP1 : (putAll n [] ls.flatten).1 = T0.take n := by
        have h1 := take_all (n := n) (M := 1048576) hn1 ls.flatten [] (Good.start _) (fun x hx => (hflat.2 x hx).1) (by rw [List.length_nil]; omega)
        rw [List.take_nil] at h1
        rw [h1, hT0]
      have hpm : ls.flatten.Perm rv.flatten := by rw [hrv]; exact (List.reverse_perm ls).flatten.symm
      have hP2 : (putAll n [] rv.flatten).1 = T0.take n := by
        have h1 := take_all (n := n) (M := 1048576) hn1 rv.flatten [] (Good.start _) (fun x hx => (hflat.2 x (hpm.mem_iff.2 hx)).1) (by rw [List.length_nil, ← hpm.length_eq]; omega)
        rw [List.take_nil] at h1
        rw [h1, hT0, all_perm hpm (fun x hx => (hflat.2 x hx).1) (fun x hx => (hflat.2 x hx).2) (by omega)]
      have hrl : rv.length ≤ 6 := by rw [hrv, List.length_reverse]; omega
      have HM1 : Hid (∀ W, Below wr.heap.size wr W → Calls Try.prog 20 #[.int .i64 (n : Int), .slice A1 ls.length c1] W fun e w' => ∃ A4 c4, e = .returned (.slice A4 (T0.take n).length c4) ∧ HitsAt (fun _ => True) w' A4 (T0.take n) ∧ Below W.heap.size W w') := fun W hW =>
        (merge_any _ n A1 c1 ls W hn1 (by omega) (hL1.below hW) (by omega) (by omega) (fun x hx => (hflat.2 x hx).1)).mono (by
          rintro e w' ⟨v4, rfl, O4, hb4⟩
          rw [hP1] at O4
          obtain ⟨A4, c4, rfl, _, hat4⟩ := O4.hits
          exact ⟨A4, c4, rfl, hat4.mono fun _ _ _ => trivial, hb4⟩)
      have HM2 : Hid (∀ W, Below wr.heap.size wr W → Calls Try.prog 20 #[.int .i64 (n : Int), .slice A2 rv.length c2] W fun e w' => ∃ A4 c4, e = .returned (.slice A4 (T0.take n).length c4) ∧ HitsAt (fun _ => True) w' A4 (T0.take n) ∧ Below W.heap.size W w') := fun W hW =>
        (merge_any _ n A2 c2 rv W hn1 (by omega) (hL2.below hW) (by omega) (by rw [← hpm.length_eq]; omega) (fun x hx => (hflat.2 x (hpm.mem_iff.2 hx)).1)).mono (by
          rintro e w' ⟨v4, rfl, O4, hb4⟩
          rw [hP2] at O4
          obtain ⟨A4, c4, rfl, _, hat4⟩ := O4.hits
          exact ⟨A4, c4, rfl, hat4.mono fun _ _ _ => trivial, hb4⟩)
      have HM3 : Hid (∀ W, Below wr.heap.size wr W → Calls Try.prog 20 #[.int .i64 0, .slice A1 ls.length c1] W fun e w' => e = .returned (.slice none 0 0) ∧ W = w') := fun W hW => merge_zero _ A1 c1 ls W (hL1.below hW) (by omega)
      have HRH := Lib.hid (refHits_any _ B B 1048576 Ax cx L T0 wr hMI.rl (by rw [hT0]; exact hMI.perm) hGT.srt (by
        have := hMI.perm.length_eq
        rw [← hT0] at this
        omega))
      have HTW : Hid (∀ x ∈ T0.take n, x.2.2.length ≤ 1000) := fun x hx => (hGT.wf x (List.mem_of_mem_take hx)).2.2
      have HBR := Lib.hid hBr
      have HE1 := Lib.hid e1'
      have HE2 := Lib.hid e2'
      clear hflat hls hrv hv2r hMI hT0 hGT hP1 hP2 hpm hL1 hL2 hlen e1' e2'
      rcases Nat.lt_or_ge k ps.length with c9 | c9
      case' inl =>
        have i1 : (k : Int) < (ps.length : Int) := by omega
        have i2 : (6 : Int) ≤ (k : Int) := by omega
        obtain ⟨ad, X, cp, rfl, _, _, g0, _⟩ := (HAT.out.below hBr) k c9
        generalize ps[k].length = pl at *
      case' inr =>
        have i1 : ¬ (k : Int) < (ps.length : Int) := by omega
      all_goals
        rw [HE1.out, HE2.out]
        clear hBr hlt
        go_wp2_with fail
        refine (HRH.out).mono ?_
        rintro e w6 ⟨Aa, ca, rfl, hca, hata, hb6⟩
        have HATA : Hid (HitsAt (fun _ => True) w6 Aa (T0.take n)) := (hata.take n).mono fun _ _ _ => trivial
        have HB6 := Lib.hid hb6
        clear hata hb6
        by_cases hcase : n < T0.length
        · have k1 : (n : Int) < (T0.length : Int) := by omega
          have k2 : (n : Int) ≤ (ca : Int) := by omega
          have HLW : Hid ((T0.take n).length = n) := by rw [List.length_take]; exact Nat.min_eq_left (by omega)
          have HM1' := Lib.hid (HM1.out w6 HB6.out)
          rw [HLW.out] at HM1'
          clear HM1
          go_wp2_with fail
          refine (HM1'.out).mono ?_
          rintro e w7 ⟨A4, c4, rfl, hat4, hb7⟩
          have hb67 : Below w6.heap.size w6 w7 := hb7
          have hs1 := sameHits_any _ _ A4 Aa c4 ca (T0.take n) w7 hat4 (HATA.out.below hb7) (by rw [List.length_take]; omega) HTW.out
          rw [HLW.out] at hs1
          have HS1 := Lib.hid hs1
          have HB7 : Hid (Below wr.heap.size wr w7) := HB6.out.trans (hb7.mono HB6.out.size)
          have HAT7 : Hid (HitsAt (fun _ => True) w7 Aa (T0.take n)) := HATA.out.below hb7
          clear hs1 hb7 hb67 hat4 HM1'
          go_wp2_with fail
          refine (HS1.out).mono ?_
          rintro e w8 ⟨rfl, hb8⟩
          have HB8 : Hid (Below wr.heap.size wr w8) := HB7.out.trans (hb8.mono HB7.out.size)
          have HAT8 : Hid (HitsAt (fun _ => True) w8 Aa (T0.take n)) := HAT7.out.below hb8
          have HM2' := Lib.hid (HM2.out w8 HB8.out)
          rw [HLW.out] at HM2'
          clear hb8 HS1 HM2
          go_wp2_with fail
          refine (HM2'.out).mono ?_
          rintro e w9 ⟨A5, c5, rfl, hat5, hb9⟩
          have hs2 := sameHits_any _ _ A5 Aa c5 ca (T0.take n) w9 hat5 (HAT8.out.below hb9) (by rw [List.length_take]; omega) HTW.out
          rw [HLW.out] at hs2
          have HS2 := Lib.hid hs2
          have HB9 : Hid (Below wr.heap.size wr w9) := HB8.out.trans (hb9.mono HB8.out.size)
          clear hs2 hb9 hat5 HM2'
          go_wp2_with fail
          refine (HS2.out).mono ?_
          rintro e w10 ⟨rfl, hb10⟩
          have HB10 : Hid (Below wr.heap.size wr w10) := HB9.out.trans (hb10.mono HB9.out.size)
          have HM3' := Lib.hid (HM3.out w10 HB10.out)
          clear hb10 HS2 HM3
          go_wp2_with fail
          refine (HM3'.out).mono ?_
          rintro e w11 ⟨rfl, rfl⟩
          go_wp2_with fail
          go_ret
          exact ⟨rfl, HBR.out.trans (HB10.out.mono HBR.out.size)⟩
        · have k1 : ¬ (n : Int) < (T0.length : Int) := by omega
          have k2 : (T0.length : Int) ≤ (ca : Int) := by omega
          have HLW : Hid ((T0.take n).length = T0.length) := by rw [List.length_take]; exact Nat.min_eq_right (by omega)
          have HM1' := Lib.hid (HM1.out w6 HB6.out)
          rw [HLW.out] at HM1'
          clear HM1
          go_wp2_with fail
          refine (HM1'.out).mono ?_
          rintro e w7 ⟨A4, c4, rfl, hat4, hb7⟩
          have hb67 : Below w6.heap.size w6 w7 := hb7
          have hs1 := sameHits_any _ _ A4 Aa c4 ca (T0.take n) w7 hat4 (HATA.out.below hb7) (by rw [List.length_take]; omega) HTW.out
          rw [HLW.out] at hs1
          have HS1 := Lib.hid hs1
          have HB7 : Hid (Below wr.heap.size wr w7) := HB6.out.trans (hb7.mono HB6.out.size)
          have HAT7 : Hid (HitsAt (fun _ => True) w7 Aa (T0.take n)) := HATA.out.below hb7
          clear hs1 hb7 hb67 hat4 HM1'
          go_wp2_with fail
          refine (HS1.out).mono ?_
          rintro e w8 ⟨rfl, hb8⟩
          have HB8 : Hid (Below wr.heap.size wr w8) := HB7.out.trans (hb8.mono HB7.out.size)
          have HAT8 : Hid (HitsAt (fun _ => True) w8 Aa (T0.take n)) := HAT7.out.below hb8
          have HM2' := Lib.hid (HM2.out w8 HB8.out)
          rw [HLW.out] at HM2'
          clear hb8 HS1 HM2
          go_wp2_with fail
          refine (HM2'.out).mono ?_
          rintro e w9 ⟨A5, c5, rfl, hat5, hb9⟩
          have hs2 := sameHits_any _ _ A5 Aa c5 ca (T0.take n) w9 hat5 (HAT8.out.below hb9) (by rw [List.length_take]; omega) HTW.out
          rw [HLW.out] at hs2
          have HS2 := Lib.hid hs2
          have HB9 : Hid (Below wr.heap.size wr w9) := HB8.out.trans (hb9.mono HB8.out.size)
          clear hs2 hb9 hat5 HM2'
          go_wp2_with fail
          refine (HS2.out).mono ?_
          rintro e w10 ⟨rfl, hb10⟩
          have HB10 : Hid (Below wr.heap.size wr w10) := HB9.out.trans (hb10.mono HB9.out.size)
          have HM3' := Lib.hid (HM3.out w10 HB10.out)
          clear hb10 HS2 HM3
          go_wp2_with fail
          refine (HM3'.out).mono ?_
          rintro e w11 ⟨rfl, rfl⟩
          go_wp2_with fail
          go_ret
          exact ⟨rfl, HBR.out.trans (HB10.out.mono HBR.out.size)⟩

end Go.Proofs.Ytfhnhfppamnjhaa
