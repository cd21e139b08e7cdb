/-
  The contracts of vec's twice and Check.
-/
import Derived.Test.YtnpbfacmjmgfaaaCheck
namespace Go.Proofs.Ytnpbfacmjmgfaaa
open Go.RowKit Go.Maps

theorem law25 : Keyed Try.prog 25 := int_keyed Try.underlying25
theorem u64_wf {n : Int} (h : U64 n) : (Lit.int .u64 n).wf = true := by
  unfold U64 at h
  simp [Lit.wf, IntKind.min, IntKind.max, IntKind.signed, IntKind.bits]
  omega

/-- The set of the IDs l. -/
def IdSet (D : DataW Unit) (l : List Int) : Prop :=
  (∀ x, has D (.int .u64 x) = decide (x ∈ l)) ∧ size D ≤ l.length ∧ (size D = l.length ↔ l.Nodup)
theorem IdSet.start : IdSet (.map []) [] := ⟨fun x => by simp [has], by simp [size], by simp [size]⟩
theorem IdSet.step {D : DataW Unit} {l : List Int} (h : IdSet D l) (ht : Tidy D) (x : Int) (d : DataW Unit) : IdSet (D.put (.int .u64 x) d) (l ++ [x]) := by
  obtain ⟨h1, h2, h3⟩ := h
  have hs : size (D.put (.int .u64 x) d) = if x ∈ l then size D else size D + 1 := by
    rw [size_put ht, h1 x]; simp
  have hn : (l ++ [x]).Nodup ↔ l.Nodup ∧ x ∉ l := by
    rw [List.nodup_append]
    constructor
    · rintro ⟨a, _, b⟩
      exact ⟨a, fun hx => b x hx x (by simp) rfl⟩
    · rintro ⟨a, b⟩
      exact ⟨a, by simp, fun y hy z hz => by simp at hz; subst hz; rintro rfl; exact b hy⟩
  refine ⟨fun y => ?_, ?_, ?_⟩
  · by_cases e : x = y
    · subst e
      rw [has_put_same (k := .int .u64 x) ht.isMap trivial]; simp
    · rw [has_put_other (by simpa using fun e' => e e'.symm), h1 y]
      have : ¬ y = x := fun e' => e e'.symm
      simp [this]
  · rw [hs, List.length_append, List.length_singleton]; split <;> omega
  · rw [hs, hn, List.length_append, List.length_singleton]
    by_cases e : x ∈ l
    · rw [if_pos e]
      exact ⟨fun h => by omega, fun h => absurd e h.2⟩
    · rw [if_neg e]
      exact ⟨fun h => ⟨h3.1 (by omega), e⟩, fun h => by have := h3.2 h.1; omega⟩

theorem take_ids (ops : List (Int × List Int)) (k : Nat) (h : k < ops.length) : (ops.take (k + 1)).map (·.1) = (ops.take k).map (·.1) ++ [ops[k].1] := by
  rw [List.take_succ_eq_append_getElem h, List.map_append]; rfl

set_option maxRecDepth 100000 in
set_option maxHeartbeats 1000000 in
theorem twice_any (S : Nat → Prop) (A : Option Addr) (c : Nat) (ops : List (Int × List Int)) (w : World) (h : OpsAt S w A ops) (hl : ops.length ≤ 1000) (hid : ∀ o ∈ ops, U64 o.1) :
    Calls Try.prog 33 #[.slice A ops.length c] w fun e w' => e = .returned (.bool (!decide ((ops.map (·.1)).Nodup))) ∧ Below w.heap.size w w' := by
  have hmm : ∀ (n : Int) (W : World), (Instr.makeMap 65 (some (.int .i64 n))).run Try.prog W = .ok (.map (some W.heap.size)) (W.alloc (.map #[] 0)) := fun n W => by
    simp [Instr.makeMap, run_underlying Try.underlying65]; rfl
  go_enter Try.func33, Try.ntmps33
  go_wp2_with fail
  go_loopw [5, 11] (fun _ i wr => ∃ k : Nat, k ≤ ops.length ∧ i = .int .i64 k ∧ (∃ D, wr.ownsMap Try.prog 25 (unitElem (H := Unit)) w.heap.size k D ∧ IdSet D ((ops.take k).map (·.1))) ∧ Below w.heap.size w wr) (fun _ i _ => ops.length - (intOf i).toNat)
  case atStart => exact ⟨0, Nat.zero_le _, rfl, ⟨_, World.ownsMap_made _ _ _ _, by simpa using IdSet.start⟩, (Below.refl _ _).alloc (Nat.le_refl _) _⟩
  case round =>
    obtain ⟨k, hk, rfl, ⟨D, hown, hset⟩, hbl⟩ := hrel
    have HS := Lib.hid hset
    clear hset
    by_cases hlt : k < ops.length
    · obtain ⟨ad, rfl, _, hlt2, hc0, X, cx, hc1, hcx, hrow⟩ := (h.below hbl) k hlt
      have i1 : (k : Int) < (ops.length : Int) := by omega
      have hwf := u64_wf (hid _ (List.getElem_mem hlt))
      have HN := Lib.hid (take_ids ops k hlt)
      have HST : Hid (∀ d, IdSet (D.put (.int .u64 ops[k].1) d) ((ops.take (k + 1)).map (·.1))) := fun d => by rw [HN.out]; exact HS.out.step (hown.tidy law25) _ d
      clear h hid hrow HN HS
      generalize ops[k].1 = id at *
      generalize ops[k].2 = vec at *
      have hkey : keyOf Try.prog 25 (.int .u64 id) = some (.int .u64 id) := keyOf_int_mk Try.underlying25 hwf
      have hown' := hown.alloc (.cells #[.int .u64 id, .slice X vec.length cx] 48)
      clear hwf
      go_wp2_with (first
        | (at_mapUpdate; refine wpList_mapUpdate_own _ rfl _ _ _ 65 rfl 25 66 law25 Try.underlying65 (unitElem (H := Unit)) w.heap.size k _ rfl hown' (by unfold maxLen; omega) _ _ _ rfl rfl hkey _ [] unitElem_mk ?_; intro w2 hown2 hgrow2))
      go_roundw
      case rel => exact ⟨k + 1, by omega, by go_num, ⟨_, hown2, HST.out _⟩, (hbl.alloc hbl.size _).grown hgrow2 (by have := hbl.size; simp; omega) (fun j hj => by cases hj; exact Nat.le_refl _)⟩
      case measure => simp [intOf]; omega
    · have i1 : ¬ (k : Int) < (ops.length : Int) := by omega
      have hfin : IdSet D (ops.map (·.1)) := by have h := HS.out; rw [List.take_of_length_le (by omega)] at h; exact h
      obtain ⟨_, f2, f3⟩ := hfin
      rw [List.length_map] at f2 f3
      have HF := Lib.hid (show (!decide ((ops.map (·.1)).Nodup)) = decide ((size D : Int) < (ops.length : Int)) by
        by_cases e : (ops.map (·.1)).Nodup
        · have := f3.2 e
          simp [e]; omega
        · have : size D ≠ ops.length := fun e' => e (f3.1 e')
          simp [e]; omega)
      clear f2 f3 HS h hid
      go_wp2_with (first
        | (at_len; refine wpList_len_own _ rfl _ 65 rfl 25 66 Try.underlying65 _ w.heap.size k _ rfl hown ?_))
      go_ret
      exact ⟨by rw [HF.out]; first | rfl | simp, hbl⟩

set_option maxRecDepth 100000 in
set_option maxHeartbeats 1000000 in
theorem check_any (S : Nat → Prop) (dim : Int) (A : Option Addr) (c : Nat) (ops : List (Int × List Int)) (w : World) (h : OpsAt S w A ops)
    (hl : ops.length ≤ 1000) (hv : ∀ o ∈ ops, o.2.length ≤ 1000) (hid : ∀ o ∈ ops, U64 o.1) :
    Calls Try.prog 23 #[.int .i64 dim, .slice A ops.length c] w fun e w' => e = .returned (.int .i64 (chk dim ops)) ∧ Below w.heap.size w w' := by
  obtain ⟨w1, hw1⟩ : ∃ x, x = w.alloc (.cells #[.int .i64 dim] 3) := ⟨_, rfl⟩
  have hb1 : Below w.heap.size w w1 := by rw [hw1]; exact (Below.refl _ _).alloc (Nat.le_refl _) _
  have hc1 : w1.cell? ⟨w.heap.size, 0, none⟩ = some (.int .i64 dim) := by rw [hw1]; go_simp
  have hlt1 : w.heap.size < w1.heap.size := by rw [hw1]; simp
  have HC := Lib.hid (containsUnfit_any S dim w.heap.size A c ops w1 hc1 hlt1 (h.below hb1) hl hv)
  have HT : Hid (∀ W, Below w1.heap.size w1 W → Calls Try.prog 33 #[.slice A ops.length c] W fun e w' => e = .returned (.bool (!decide ((ops.map (·.1)).Nodup))) ∧ Below W.heap.size W w') := fun W hW => twice_any S A c ops W ((h.below hb1).below hW) hl hid
  clear h hv hid
  by_cases d1 : dim < 1
  · have HV := Lib.hid (show chk dim ops = 1 by unfold chk; rw [if_pos (.inl d1)])
    go_enter Try.func23, Try.ntmps23
    go_wp2_with fail
    go_ret
    exact ⟨by rw [HV.out]; rfl, by rw [← hw1]; exact hb1⟩
  · by_cases d2 : 8 < dim
    · have HV := Lib.hid (show chk dim ops = 1 by unfold chk; rw [if_pos (.inr d2)])
      go_enter Try.func23, Try.ntmps23
      go_wp2_with fail
      go_ret
      exact ⟨by rw [HV.out]; rfl, by rw [← hw1]; exact hb1⟩
    · by_cases l0 : ops.length = 0
      · have HV := Lib.hid (show chk dim ops = 2 by unfold chk; rw [if_neg (by omega), if_pos l0])
        have l0' : ((ops.length : Int) == 0) = true := by simp [l0]
        clear l0
        go_enter Try.func23, Try.ntmps23
        go_wp2_with fail
        go_ret
        exact ⟨by rw [HV.out]; rfl, by rw [← hw1]; exact hb1⟩
      · have l0' : ((ops.length : Int) == 0) = false := by simp; intro e; exact l0 (by rw [e]; rfl)
        by_cases l16 : 16 < ops.length
        · have HV := Lib.hid (show chk dim ops = 3 by unfold chk; rw [if_neg (by omega), if_neg l0, if_pos l16])
          have l16' : (16 : Int) < (ops.length : Int) := by omega
          go_enter Try.func23, Try.ntmps23
          go_wp2_with fail
          go_ret
          exact ⟨by rw [HV.out]; rfl, by rw [← hw1]; exact hb1⟩
        · have l16' : ¬ (16 : Int) < (ops.length : Int) := by omega
          cases ha : ops.all (fitsB dim) with
          | false =>
            have HV := Lib.hid (show chk dim ops = 4 by unfold chk; rw [if_neg (by omega), if_neg l0, if_neg l16, if_neg (by rw [ha]; decide)])
            rw [ha] at HC
            clear ha
            go_enter Try.func23, Try.ntmps23
            go_wp2_with fail
            rw [← hw1]
            refine (HC.out).mono ?_
            rintro e w2 ⟨rfl, hb2⟩
            go_wp2_with fail
            go_ret
            exact ⟨by rw [HV.out]; rfl, hb1.trans (hb2.mono hb1.size)⟩
          | true =>
            have hv0 : chk dim ops = if (ops.map (·.1)).Nodup then 0 else 7 := by unfold chk; rw [if_neg (by omega), if_neg l0, if_neg l16, if_pos ha]
            rw [ha] at HC
            clear ha
            by_cases hn : (ops.map (·.1)).Nodup
            · rw [if_pos hn] at hv0
              have HV := Lib.hid hv0
              rw [decide_eq_true hn] at HT
              clear hv0 hn
              go_enter Try.func23, Try.ntmps23
              go_wp2_with fail
              rw [← hw1]
              refine (HC.out).mono ?_
              rintro e w2 ⟨rfl, hb2⟩
              go_wp2_with fail
              refine (HT.out _ hb2).mono ?_
              rintro e w3 ⟨rfl, hb3⟩
              go_wp2_with fail
              go_ret
              exact ⟨by rw [HV.out]; rfl, (hb1.trans (hb2.mono hb1.size)).trans (hb3.mono (Nat.le_trans hb1.size hb2.size))⟩
            · rw [if_neg hn] at hv0
              have HV := Lib.hid hv0
              rw [decide_eq_false hn] at HT
              clear hv0 hn
              go_enter Try.func23, Try.ntmps23
              go_wp2_with fail
              rw [← hw1]
              refine (HC.out).mono ?_
              rintro e w2 ⟨rfl, hb2⟩
              go_wp2_with fail
              refine (HT.out _ hb2).mono ?_
              rintro e w3 ⟨rfl, hb3⟩
              go_wp2_with fail
              go_ret
              exact ⟨by rw [HV.out]; rfl, (hb1.trans (hb2.mono hb1.size)).trans (hb3.mono (Nat.le_trans hb1.size hb2.size))⟩

end Go.Proofs.Ytnpbfacmjmgfaaa
