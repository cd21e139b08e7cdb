/-
  The contracts of unfold and vectorOf.
-/
import Derived.Test.YtlambcmikfihgaaReads
import Derived.Test.YtlambcmikfihgaaVMath
import Derived.Test.YtlambcmikfihgaaAppend
import Derived.Test.YtlambcmikfihgaaVecs
namespace Go.Proofs.Ytlambcmikfihgaa
open Go.RowKit

theorem Try.info21 : (Try.prog.info? 21).map (fun i => (i.zero, i.size, i.bytes)) = some (some (.int .i32 0), 1, 4) := by kernel_rfl

theorem and1_u32 (n : Nat) (h : n ≤ 4294967295) : bits BinOp.and IntKind.u32 (n : Int) 1 = ((n % 2 : Nat) : Int) := by
  rw [show (1 : Int) = ((1 : Nat) : Int) from rfl, u32_and_nat n 1 (by omega) (by omega), Nat.and_one_is_mod]

set_option maxHeartbeats 400000 in
theorem unfold_any (n : Nat) (w : World) (h : n ≤ 4294967295) :
    Calls Try.prog 33 #[.int .u32 (n : Int)] w fun e w' => e = .returned (.int .i32 (unfI n)) ∧ w = w' := by
  have ha := and1_u32 n h
  by_cases ho : n % 2 = 1
  · have HU := Lib.hid (show unfI n = -((n / 2 : Nat) : Int) - 1 by simp [unfI, ho])
    have hb : bits BinOp.and IntKind.u32 (n : Int) 1 = 1 := by rw [ha, ho]; rfl
    clear ha ho
    go_enter Try.func33, Try.ntmps33
    go_wp2
    go_ret
    exact ⟨by rw [HU.out]; simp, rfl⟩
  · have HU := Lib.hid (show unfI n = ((n / 2 : Nat) : Int) by simp [unfI, ho])
    have hb : bits BinOp.and IntKind.u32 (n : Int) 1 = 0 := by rw [ha, show n % 2 = 0 by omega]; rfl
    clear ha ho
    go_enter Try.func33, Try.ntmps33
    go_wp2
    go_ret
    exact ⟨by rw [HU.out]; simp, rfl⟩

/-- What vectorOf answers: r, in new memory. -/
def GaveVec (r : List Int × Nat × Int) (w : World) (e : Ending) (w' : World) : Prop :=
  ∃ A c, e = .returned (.tuple #[.slice A r.1.length c, .int .i64 r.2.1, .int .i64 r.2.2]) ∧ r.1.length ≤ c ∧ Row (fun g => w.heap.size ≤ g) w' A (i32s r.1) ∧ Below w.heap.size w w'

theorem GaveVec.fault {f : Int} {w w' : World} (hb : Below w.heap.size w w') : GaveVec ([], 0, f) w (.returned (.tuple #[.slice none 0 0, .int .i64 0, .int .i64 f])) w' :=
  ⟨none, 0, rfl, Nat.le_refl _, Row.nil, hb⟩

set_option maxRecDepth 100000 in
set_option maxHeartbeats 800000 in
theorem vectorOf_bad (S : Nat → Prop) (A : Option Addr) (c most : Nat) (l : List Int) (w : World) (hrow : Row S w A (u8s l)) (hl : l.length ≤ 70368744177664) (hc : l.length ≤ c) (h8 : Bytes8 l) (hbad : (numR l most).2.2 ≠ 0) :
    Calls Try.prog 31 #[.slice A l.length c, .int .u64 most] w fun e w' => GaveVec (vecR l most) w e w' := by
  have hv : vecR l most = ([], 0, (numR l most).2.2) := by simp [vecR, hbad]
  rw [hv]
  have hnum := number_any S A c most l w hrow hl hc h8
  have hor := numR_or l most
  unfold numV at hnum
  clear hv
  obtain ⟨⟨n, s, f⟩, hR⟩ : ∃ r, r = numR l most := ⟨_, rfl⟩
  rw [← hR] at hor hnum hbad ⊢
  simp only at hor hnum hbad ⊢
  have HN := Lib.hid hnum
  have hf' : (f != 0) = true := by simpa using hbad
  clear hR hnum hor hbad
  go_enter Try.func31, Try.ntmps31
  go_wp2_with fail
  refine HN.out.mono ?_
  rintro e w1 ⟨rfl, rfl⟩
  go_wp2_with fail
  go_ret3
  exact GaveVec.fault (Below.refl _ _)

theorem number_max (S : Nat → Prop) (A : Option Addr) (m c : Nat) (l : List Int) (n s : Nat) (f : Int) (w : World) (hm : l.length = m) (hrow : Row S w A (u8s l)) (hl : l.length ≤ 70368744177664) (hc : l.length ≤ c) (h8 : Bytes8 l) (hR : numR l M64 = (n, s, f)) :
    Calls Try.prog 29 #[.slice A m c, .int .u64 18446744073709551615] w fun e w' => e = .returned (.tuple #[.int .u64 n, .int .i64 s, .int .i64 f]) ∧ w = w' := by
  subst hm
  have h := number_any S A c M64 l w hrow hl hc h8
  unfold numV at h
  rw [hR] at h
  exact h

theorem run_make_i32 (C : Int) (k : Nat) (hk : C.toNat = k) (h0 : 0 ≤ C) (h : k ≤ 70368744177664) : ∃ L : Array Value, L.size = k ∧ ∀ u : World, (Instr.makeSlice 40 (.int .i64 0) (.int .u64 C)).run Try.prog u =
    .ok (.slice (some ⟨u.heap.size, 0, none⟩) 0 k) (u.alloc (.cells L 21)) := by
  obtain ⟨i0, hi, hz0, hz1, hz2⟩ := info_parts Try.info21
  refine ⟨madeCells #[.int .i32 0] k, by rw [← Array.length_toList, toList_madeCells_one]; simp, fun u => ?_⟩
  have hm := run_make (P := Try.prog) u 40 21 i0 (.int .i32 0) Try.underlying40 hi hz0 .i64 .u64 0 C (by omega) h0 (by rw [hz2]; omega) (by omega)
  subst hk
  simpa [hz1, Value.cells] using hm

/-- what holds at the head of each round of vectorOf's loop -/
def VRel (n s : Nat) (l : List Int) (w : World) (k z : Nat) (v : Value) (wr : World) : Prop :=
  ∃ xs : List Int, xs.length = k ∧ wr.ownsRow w.heap.size 21 1 v k (i32s xs) ∧ ahead [] s (wholesR n (l.drop s)) = ahead xs z (wholesR (n - k) (l.drop z)) ∧ Below w.heap.size w wr

theorem VRel.step {n s k z g cap : Nat} {l : List Int} {w wr w1 : World} {v : Value} {o : Obj} {a b : Nat} {xs : List Int} (hx : xs.length = k) (hown : wr.ownsRow w.heap.size 21 1 v k (i32s xs))
    (heq : ahead [] s (wholesR n (l.drop s)) = ahead xs z (wholesR (n - k) (l.drop z))) (hb : Below w.heap.size w wr) (hkn : k < n)
    (hR : numR (l.drop z) M64 = (a, b, 0)) (ha : ¬ 4294967295 < a)
    (hown1 : w1.ownsRow w.heap.size 21 1 (.slice (some ⟨g, 0, none⟩) (k + 1) cap) (k + 1) (i32s xs ++ [.int .i32 (unfI a)])) (hgrow : (wr.alloc o).grownBy w1 v.ownBlock) :
    VRel n s l w (k + 1) (z + b) (.slice (some ⟨g, 0, none⟩) (k + 1) cap) w1 := by
  refine ⟨xs ++ [unfI a], by simp [hx], by simpa [i32s] using hown1, ?_, (hb.alloc hb.size o).grown hgrow (by have := hb.size; simp; omega) (fun g e => (hown.lt g e).1)⟩
  rw [heq, show n - k = (n - (k + 1)) + 1 by omega, ahead_more _ _ _ _ (by rw [hR]) (by rw [hR]; exact ha), hR, List.drop_drop]

theorem GaveVec.fin {xs : List Int} {n z : Nat} {v : Value} {w wr : World} (hown : wr.ownsRow w.heap.size 21 1 v n (i32s xs)) (hn : xs.length = n) (hb : Below w.heap.size w wr) :
    GaveVec (xs, z, 0) w (.returned (.tuple #[v, .int .i64 z, .int .i64 0])) wr := by
  obtain ⟨A, c, rfl, hc, _, hr⟩ := Row.of_own hown
  subst hn
  exact ⟨A, c, rfl, hc, hr.mono fun g _ h => h.1, hb⟩

set_option maxRecDepth 100000 in
set_option maxHeartbeats 1600000 in
theorem vectorOf_good (S : Nat → Prop) (A : Option Addr) (c most : Nat) (l : List Int) (w : World) (hrow : Row S w A (u8s l)) (hl : l.length ≤ 17592186044416) (hc : l.length ≤ c) (h8 : Bytes8 l) (hgood : (numR l most).2.2 = 0) (hmost : most ≤ 9223372036854775807) :
    Calls Try.prog 31 #[.slice A l.length c, .int .u64 most] w fun e w' => GaveVec (vecR l most) w e w' := by
  have hnum := number_any S A c most l w hrow (by omega) hc h8
  have hor := numR_or l most
  have hle := numR_le l most
  unfold numV at hnum
  have hv : vecR l most = ahead [] (numR l most).2.1 (wholesR (numR l most).1 (l.drop (numR l most).2.1)) := by simp [vecR, hgood]
  rw [hv]
  clear hv
  obtain ⟨⟨n, s, f⟩, hR⟩ : ∃ r, r = numR l most := ⟨_, rfl⟩
  rw [← hR] at hor hnum hgood hle ⊢
  simp only at hor hnum hgood hle ⊢
  subst hgood
  have hs : s ≤ l.length := by rcases hor with ⟨h, _⟩ | ⟨_, h⟩; exact absurd rfl h; exact h
  have HN := Lib.hid hnum
  clear hR hnum hor
  obtain ⟨i0, hi, hz0, hz1, hz2⟩ := info_parts Try.info21
  by_cases hmin : (l.length : Int) - (s : Int) < (n : Int)
  all_goals
    first
      | (have hmin2 : (n : Int) ≤ (l.length : Int) - (s : Int) := by omega
         obtain ⟨L, hL, hmk⟩ := run_make_i32 (n : Int) n (by omega) (by omega) (by omega))
      | obtain ⟨L, hL, hmk⟩ := run_make_i32 ((l.length : Int) - (s : Int)) (l.length - s) (by omega) (by omega) (by omega)
    have HL := Lib.hid hL
    clear hL
    go_enter Try.func31, Try.ntmps31
    go_wp2_with fail
    refine HN.out.mono ?_
    rintro e w1 ⟨rfl, rfl⟩
    go_wp2_with fail
    have hb0 : Below w.heap.size w (w.alloc (.cells L 21)) := (Below.refl _ _).alloc (Nat.le_refl _) _
    clear hmk
    go_loopw [8, 10, 33] (fun sz vec i wr => ∃ k z : Nat, sz = .int .i64 z ∧ i = .int .u64 k ∧ k ≤ n ∧ s + k ≤ z ∧ z ≤ l.length ∧ VRel n s l w k z vec wr) (fun _ _ i _ => n - (intOf i).toNat)
    case atStart =>
      exact ⟨0, s, rfl, rfl, Nat.zero_le _, Nat.le_refl _, hs, [], rfl, World.ownsRow_made w L _ (Nat.le_refl _) (by unfold maxLen; omega) (by rw [HL.out]; omega), rfl, hb0⟩
    case round =>
      obtain ⟨k, z, rfl, rfl, hkn, hsz, hzl, xs, hxk, hown, heq, hbl⟩ := hrel
      have HEQ := Lib.hid heq
      have HXK := Lib.hid hxk
      clear heq hxk hb0
      by_cases hk : k < n
      · have hk' : (k : Int) < (n : Int) := by omega
        have hrowz := (hrow.kept hbl.size (fun g hg _ => hbl.block g hg)).cut z c (by rw [u8s_len]; exact hc)
        have hlz : (l.drop z).length = l.length - z := List.length_drop ..
        have huz : (u8s l).drop z = u8s (l.drop z) := by simp [u8s]
        have h8z : Bytes8 (l.drop z) := fun x hx => h8 x (List.mem_of_mem_drop hx)
        rw [huz] at hrowz
        have HLZ := Lib.hid hlz
        clear huz hlz
        obtain ⟨⟨a, b, f⟩, hR⟩ : ∃ r, numR (l.drop z) M64 = r := ⟨_, rfl⟩
        have hor := numR_or (l.drop z) M64
        have hle2 := numR_le (l.drop z) M64
        have hps := numR_pos (l.drop z) M64
        rw [hR, HLZ.out] at hor
        rw [hR] at hle2 hps
        simp only at hor hle2 hps
        have HR := Lib.hid hR
        clear hR
        have hcz : c ≤ z ∨ z < c := by omega
        have hbig : f = 0 → (a ≤ 4294967295 ∨ (4294967295 : Int) < (a : Int)) := fun _ => by omega
        rcases hor with ⟨hf, ha, hb⟩ | ⟨hf, hbl2⟩
        · have hf' : (f != 0) = true := by simpa using hf
          have HF := Lib.hid (show ahead [] s (wholesR n (l.drop s)) = ([], 0, f) by
            rw [HEQ.out, show n - k = (n - (k + 1)) + 1 by omega, ahead_fault _ _ _ _ (by rw [HR.out]; exact hf), HR.out])
          clear hf hbig hps hle2
          subst ha hb
          rcases hcz with hcz | hcz
          · rw [if_pos (by omega)] at hrowz
            go_wp2_with fail
            refine (number_max _ _ _ _ (l.drop z) 0 0 f _ HLZ.out hrowz (by rw [HLZ.out]; omega) (by rw [HLZ.out]; omega) h8z HR.out).mono ?_
            rintro e w2 ⟨rfl, rfl⟩
            go_wp2_with fail
            go_ret3
            rw [HF.out]
            exact GaveVec.fault hbl
          · rw [if_neg (by omega)] at hrowz
            go_wp2_with fail
            refine (number_max _ _ _ _ (l.drop z) 0 0 f _ HLZ.out hrowz (by rw [HLZ.out]; omega) (by rw [HLZ.out]; omega) h8z HR.out).mono ?_
            rintro e w2 ⟨rfl, rfl⟩
            go_wp2_with fail
            go_ret3
            rw [HF.out]
            exact GaveVec.fault hbl
        · subst hf
          have hbp := hps rfl
          have hcz' : z < c := by omega
          rw [if_neg (by omega)] at hrowz
          rcases hbig rfl with hsm | hgr
          · have hns : ¬ 4294967295 < a := by omega
            have hns' : ¬ (4294967295 : Int) < (a : Int) := by omega
            clear hbig hps hle2 hcz
            go_wp2_with fail
            refine (number_max _ _ _ _ (l.drop z) a b 0 _ HLZ.out hrowz (by rw [HLZ.out]; omega) (by rw [HLZ.out]; omega) h8z HR.out).mono ?_
            rintro e w2 ⟨rfl, rfl⟩
            go_wp2_with fail
            refine (unfold_any a _ hsm).mono ?_
            rintro e w2 ⟨rfl, rfl⟩
            go_wp2_with (at_builtin; refine wpList_append_lies _ rfl (.tmp 48) (.tmp 52) 40 rfl w.heap.size 21 i0 (.int .i32 0) 1 4 Try.underlying40 hi hz0 hz1 hz2 rfl (by decide) u10 k (i32s xs) rfl (hown.alloc _) ⟨wr.heap.size, 0, none⟩ 1 1 [.int .i32 (unfI a)] rfl rfl (cell_one_new _ _ _) (by simp [Value.oneCell']) (by decide) (by unfold maxLen; omega) (by omega) (by have := hbl.size; simp; omega) (wr.heap.size + 1) (by simp) ?_; intro g cap w3 hown3 hgrow3 hat3 hglt3)
            have hst := VRel.step HXK.out hown HEQ.out hbl hk HR.out hns hown3 hgrow3
            clear hown3 hgrow3 hat3 hglt3
            go_wp2_with fail
            go_roundw
            case rel => exact ⟨k + 1, z + b, by go_num, by go_num, by omega, by omega, by omega, hst⟩
            case measure => simp [intOf]; omega
          · have HF := Lib.hid (show ahead [] s (wholesR n (l.drop s)) = ([], 0, 4) by
              rw [HEQ.out, show n - k = (n - (k + 1)) + 1 by omega, ahead_great _ _ _ _ (by rw [HR.out]) (by rw [HR.out]; simp only; omega)])
            clear hbig hps hle2 hcz
            go_wp2_with fail
            refine (number_max _ _ _ _ (l.drop z) a b 0 _ HLZ.out hrowz (by rw [HLZ.out]; omega) (by rw [HLZ.out]; omega) h8z HR.out).mono ?_
            rintro e w2 ⟨rfl, rfl⟩
            go_wp2_with fail
            go_ret3
            rw [HF.out]
            exact GaveVec.fault hbl
      · obtain rfl : n = k := by omega
        have hk' : ¬ (n : Int) < (n : Int) := by omega
        have hfin := HEQ.out
        rw [Nat.sub_self] at hfin
        have HF := Lib.hid (show ahead [] s (wholesR n (l.drop s)) = (xs, z, 0) by rw [hfin]; simp [ahead, wholesR])
        clear hfin
        go_wp2_with fail
        go_ret3
        rw [HF.out]
        exact GaveVec.fin hown HXK.out hbl

theorem vectorOf_any (S : Nat → Prop) (A : Option Addr) (c most : Nat) (l : List Int) (w : World) (hrow : Row S w A (u8s l)) (hl : l.length ≤ 17592186044416) (hc : l.length ≤ c) (h8 : Bytes8 l) (hmost : most ≤ 9223372036854775807) :
    Calls Try.prog 31 #[.slice A l.length c, .int .u64 most] w fun e w' => GaveVec (vecR l most) w e w' := by
  by_cases h : (numR l most).2.2 = 0
  · exact vectorOf_good S A c most l w hrow hl hc h8 h hmost
  · exact vectorOf_bad S A c most l w hrow (by omega) hc h8 h

end Go.Proofs.Ytlambcmikfihgaa
