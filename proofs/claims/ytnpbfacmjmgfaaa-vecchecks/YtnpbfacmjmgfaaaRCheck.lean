/-
  The contracts of ref03's SameOps (of ops that are alike) and Check.
-/
import Derived.Test.YtnpbfacmjmgfaaaTwice
namespace Go.Proofs.Ytnpbfacmjmgfaaa
open Go.RowKit

set_option maxRecDepth 100000 in
set_option maxHeartbeats 400000 in
/-- SameVec only reads. -/
theorem sameVec_q (S T : Nat → Prop) (A B : Option Addr) (c d : Nat) (l : List Int) (w : World) (h1 : Row S w A (i32s l)) (h2 : Row T w B (i32s l)) (hl : l.length ≤ 17592186044416) :
    Calls Try.prog 17 #[.slice A l.length c, .slice B l.length d] w fun e w' => e = .returned (.bool true) ∧ ∃ n, w' = w.drewN n := by
  have hne' : ((l.length : Int) != (l.length : Int)) = false := by simp
  go_enter Try.func17, Try.ntmps17
  go_wp2_with fail
  go_loopw [13] (fun i wr => ∃ k : Nat, k ≤ l.length ∧ i = .int .i64 k ∧ ∃ n, wr = w.drewN n) (fun i _ => l.length - (intOf i).toNat)
  case atStart => exact ⟨0, Nat.zero_le _, rfl, 0, rfl⟩
  case round =>
    obtain ⟨k, hk, rfl, n, rfl⟩ := hrel
    by_cases hlt : k < l.length
    · obtain ⟨ad, rfl, _, _, hcA⟩ := h1 k (by rw [i32s_len]; exact hlt)
      obtain ⟨bd, rfl, _, _, hcB⟩ := h2 k (by rw [i32s_len]; exact hlt)
      rw [i32s_at hlt] at hcA hcB
      have i1 : (k : Int) < (l.length : Int) := by omega
      have hx' : (l[k] != l[k]) = false := by simp
      go_wp2_with fail
      go_quiet (fail)
      go_wp2_with fail
      go_roundw
      case rel => exact ⟨k + 1, by omega, by go_num, _, rfl⟩
      case measure => simp [intOf]; omega
    · have i1 : ¬ (k : Int) < (l.length : Int) := by omega
      go_wp2_with fail
      go_ret
      exact ⟨rfl, n, rfl⟩

theorem OpsAt.drewN {S : Nat → Prop} {w : World} {A : Option Addr} {ops : List (Int × List Int)} (h : OpsAt S w A ops) (n : Nat) : OpsAt S (w.drewN n) A ops := h

set_option maxRecDepth 100000 in
set_option maxHeartbeats 1000000 in
theorem sameOps_any (S T : Nat → Prop) (A B : Option Addr) (c d : Nat) (ops : List (Int × List Int)) (w : World) (h1 : OpsAt S w A ops) (h2 : OpsAt T w B ops) (hl : ops.length ≤ 1000) (hv : ∀ o ∈ ops, o.2.length ≤ 1000) :
    Calls Try.prog 25 #[.slice A ops.length c, .slice B ops.length d] w fun e w' => e = .returned (.bool true) ∧ Below w.heap.size w w' := by
  have hne' : ((ops.length : Int) != (ops.length : Int)) = false := by simp
  go_enter Try.func25, Try.ntmps25
  go_wp2_with fail
  go_loopw [5, 13] (fun _ i wr => ∃ k : Nat, k ≤ ops.length ∧ i = .int .i64 k ∧ Below w.heap.size w wr) (fun _ i _ => ops.length - (intOf i).toNat)
  case atStart => exact ⟨0, Nat.zero_le _, rfl, Below.refl _ _⟩
  case round =>
    obtain ⟨k, hk, rfl, hbl⟩ := hrel
    by_cases hlt : k < ops.length
    · obtain ⟨ad, rfl, _, _, a0, X, cx, a1, _, ra⟩ := (h1.below hbl) k hlt
      obtain ⟨bd, rfl, _, _, b0, Y, cy, b1, _, rb⟩ := (h2.below hbl) k hlt
      have hvl := hv _ (List.getElem_mem hlt)
      have i1 : (k : Int) < (ops.length : Int) := by omega
      have HS : Hid (∀ n, Calls Try.prog 17 #[.slice X ops[k].2.length cx, .slice Y ops[k].2.length cy] (wr.drewN n) fun e w' => e = .returned (.bool true) ∧ ∃ m, w' = wr.drewN m) := fun n => (sameVec_q S T X Y cx cy ops[k].2 (wr.drewN n) ra rb (by omega)).mono fun _ _ ⟨he, m, hm⟩ => ⟨he, n + m, by rw [hm, World.drewN_drewN]⟩
      clear h1 h2 hv ra rb
      generalize ops[k].1 = id at *
      generalize ops[k].2 = vec at *
      have hx' : (id != id) = false := by simp
      go_wp2_with fail
      go_quiet (first | (go_at_call 17; exact HS.out _))
      go_wp2_with fail
      go_roundw
      case rel => exact ⟨k + 1, by omega, by go_num, below_drewN hbl _⟩
      case measure => simp [intOf]; omega
    · have i1 : ¬ (k : Int) < (ops.length : Int) := by omega
      go_wp2_with fail
      go_ret
      exact ⟨rfl, hbl⟩

theorem fits_parts (dim id : Int) (vec : List Int) : fitsB dim (id, vec) = (decide (id ≤ 1099511627776) && (decide (vec.length = 0) || (decide ((vec.length : Int) = dim) && rightB vec))) := rfl
theorem all_false {dim : Int} {ops : List (Int × List Int)} {k : Nat} (h : k < ops.length) (hx : fitsB dim ops[k] = false) : ops.all (fitsB dim) = false := by
  rw [List.all_eq_false]
  exact ⟨_, List.getElem_mem h, by simp [hx]⟩
theorem all_true {dim : Int} {ops : List (Int × List Int)} (h : ∀ j (hj : j < ops.length), fitsB dim ops[j] = true) : ops.all (fitsB dim) = true := by
  rw [List.all_eq_true]
  intro x hx
  obtain ⟨j, hj, rfl⟩ := List.getElem_of_mem hx
  exact h j hj
theorem nodup_step {ids : List Int} {k : Nat} (h : k < ids.length) (hn : (ids.take k).Nodup) (hno : ∀ j (hj : j < k), ids[j]'(by omega) ≠ ids[k]) : (ids.take (k + 1)).Nodup := by
  rw [List.take_succ_eq_append_getElem h, List.nodup_append]
  refine ⟨hn, by simp, fun y hy z hz => ?_⟩
  simp at hz
  subst hz
  obtain ⟨j, hj, rfl⟩ := List.getElem_of_mem hy
  rw [List.length_take] at hj
  rw [List.getElem_take]
  exact hno j (by omega)
theorem not_nodup {ids : List Int} {j k : Nat} (hk : k < ids.length) (hj : j < k) (he : ids[j]'(by omega) = ids[k]) : ¬ ids.Nodup := by
  intro hn
  rw [List.Nodup, List.pairwise_iff_getElem] at hn
  exact hn j k (by omega) hk hj he

set_option maxRecDepth 100000 in
set_option maxHeartbeats 2000000 in
theorem refCheck_any (S : Nat → Prop) (dim : Int) (A : Option Addr) (c : Nat) (ops : List (Int × List Int)) (w : World) (h : OpsAt S w A ops) (hc : ops.length ≤ c)
    (hl : ops.length ≤ 1000) (hv : ∀ o ∈ ops, o.2.length ≤ 1000) :
    Calls Try.prog 24 #[.int .i64 dim, .slice A ops.length c] w fun e w' => e = .returned (.int .i64 (chk dim ops)) ∧ Below w.heap.size w w' := by
  by_cases d1 : dim < 1
  · have HV := Lib.hid (show chk dim ops = 1 by unfold chk; rw [if_pos (.inl d1)])
    go_enter Try.func24, Try.ntmps24
    go_wp2_with fail
    go_ret
    exact ⟨by rw [HV.out]; rfl, Below.refl _ _⟩
  · by_cases d2 : 8 < dim
    · have HV := Lib.hid (show chk dim ops = 1 by unfold chk; rw [if_pos (.inr d2)])
      go_enter Try.func24, Try.ntmps24
      go_wp2_with fail
      go_ret
      exact ⟨by rw [HV.out]; rfl, Below.refl _ _⟩
    · by_cases l0 : ops.length = 0
      · have HV := Lib.hid (show chk dim ops = 2 by unfold chk; rw [if_neg (by omega), if_pos l0])
        have l0' : (ops.length : Int) < 1 := by omega
        clear l0
        go_enter Try.func24, Try.ntmps24
        go_wp2_with fail
        go_ret
        exact ⟨by rw [HV.out]; rfl, Below.refl _ _⟩
      · have l0' : ¬ (ops.length : Int) < 1 := by omega
        by_cases l16 : 16 < ops.length
        · have HV := Lib.hid (show chk dim ops = 3 by unfold chk; rw [if_neg (by omega), if_neg l0, if_pos l16])
          have l16' : (16 : Int) < (ops.length : Int) := by omega
          go_enter Try.func24, Try.ntmps24
          go_wp2_with fail
          go_ret
          exact ⟨by rw [HV.out]; rfl, Below.refl _ _⟩
        · have l16' : ¬ (16 : Int) < (ops.length : Int) := by omega
          have HBAD : Hid (∀ k (hk : k < ops.length), fitsB dim ops[k] = false → chk dim ops = 4) := fun k hk hx => by
            unfold chk; rw [if_neg (by omega), if_neg l0, if_neg l16, if_neg (by rw [all_false hk hx]; decide)]
          have HGOOD : Hid ((∀ j (hj : j < ops.length), fitsB dim ops[j] = true) → chk dim ops = if (ops.map (·.1)).Nodup then 0 else 7) := fun hx => by
            unfold chk; rw [if_neg (by omega), if_neg l0, if_neg l16, if_pos (all_true hx)]
          have d0 : 1 ≤ dim := by omega
          go_enter Try.func24, Try.ntmps24
          go_wp2_with fail
          go_loopw [6, 25] (fun _ i wr => ∃ k : Nat, k ≤ ops.length ∧ i = .int .i64 k ∧ (∀ j (hj : j < k) (hjl : j < ops.length), fitsB dim ops[j] = true) ∧ Below w.heap.size w wr) (fun _ i _ => ops.length - (intOf i).toNat)
          case atStart => exact ⟨0, Nat.zero_le _, rfl, fun j hj => by omega, Below.refl _ _⟩
          case round =>
            obtain ⟨k, hk, rfl, hno, hbl⟩ := hrel
            have HN := Lib.hid hno
            clear hno
            by_cases hlt : k < ops.length
            · obtain ⟨ad, rfl, _, hlt2, hc0, X, cx, hc1, hcx, hrow⟩ := (h.below hbl) k hlt
              have hvl := hv _ (List.getElem_mem hlt)
              have i1 : (k : Int) < (ops.length : Int) := by omega
              have hfp := fits_parts dim ops[k].1 ops[k].2
              have HX := Lib.hid (HBAD.out k hlt)
              have HNN : Hid (fitsB dim ops[k] = true → ∀ j (hj : j < k + 1) (hjl : j < ops.length), fitsB dim ops[j] = true) := fun hx j hj hjl => by
                rcases Nat.lt_or_ge j k with h1 | h1
                · exact HN.out j h1 hjl
                · obtain rfl : j = k := by omega
                  exact hx
              have hrow2 := hrow.alloc (.cells #[.int .u64 ops[k].1, .slice X ops[k].2.length cx] 48)
              have HR := Lib.hid (refRight_any S X cx ops[k].2 _ hrow2 (by omega))
              have hpk : fitsB dim ops[k] = fitsB dim (ops[k].1, ops[k].2) := rfl
              rw [hpk] at HX HNN
              clear h hv hrow hrow2 hpk HN HBAD HGOOD
              generalize ops[k].1 = id at *
              generalize ops[k].2 = vec at *
              have HFP := Lib.hid hfp
              clear hfp
              have hbA : Below w.heap.size w (wr.alloc (.cells #[.int .u64 id, .slice X vec.length cx] 48)) := hbl.alloc hbl.size _
              by_cases g1 : 1099511627776 < id
              · have HV := Lib.hid (HX.out (by rw [HFP.out]; simp; omega))
                go_wp2_with fail
                go_ret
                exact ⟨by rw [HV.out]; rfl, hbA⟩
              · have e1 : decide (id ≤ 1099511627776) = true := by simp; omega
                by_cases g2 : vec.length = 0
                · have HF := Lib.hid (HNN.out (by rw [HFP.out]; simp [g2]; omega))
                  have g2' : decide ((0 : Int) < (vec.length : Int)) = false := by simp [g2]
                  have g2'' : decide (0 < vec.length) = false := by simp [g2]
                  clear g2 e1
                  go_wp2_with fail
                  go_roundw
                  case rel => exact ⟨k + 1, by omega, by go_num, HF.out, hbA⟩
                  case measure => simp [intOf]; omega
                · have g2' : (0 : Int) < (vec.length : Int) := by omega
                  cases hr : rightB vec with
                  | false =>
                    have HV := Lib.hid (HX.out (by rw [HFP.out]; simp [hr, g2]))
                    rw [hr] at HR
                    clear hr e1
                    go_wp2_with (go_at_call 16; refine (HR.out).mono ?_; rintro e w' ⟨rfl, rfl⟩)
                    go_ret
                    exact ⟨by rw [HV.out]; rfl, hbA⟩
                  | true =>
                    by_cases g3 : (vec.length : Int) = dim
                    · have HF := Lib.hid (HNN.out (by rw [HFP.out]; simp [hr, g3]; omega))
                      have g3' : ((vec.length : Int) != dim) = false := by simp [g3]
                      rw [hr] at HR
                      clear hr e1 g3
                      go_wp2_with (go_at_call 16; refine (HR.out).mono ?_; rintro e w' ⟨rfl, rfl⟩)
                      go_roundw
                      case rel => exact ⟨k + 1, by omega, by go_num, HF.out, hbA⟩
                      case measure => simp [intOf]; omega
                    · have HV := Lib.hid (HX.out (by rw [HFP.out]; simp [g2, g3]))
                      have g3' : ((vec.length : Int) != dim) = true := by simp [g3]
                      rw [hr] at HR
                      clear hr e1 g3
                      go_wp2_with (go_at_call 16; refine (HR.out).mono ?_; rintro e w' ⟨rfl, rfl⟩)
                      go_ret
                      exact ⟨by rw [HV.out]; rfl, hbA⟩
            · have i1 : ¬ (k : Int) < (ops.length : Int) := by omega
              have HG := Lib.hid (HGOOD.out (fun j hj => HN.out j (by omega) hj))
              clear HGOOD HBAD HN
              go_wp2_with fail
              go_loopw [7, 8, 10, 54] (fun _ _ _ i wr2 => ∃ m : Nat, m ≤ ops.length ∧ i = .int .i64 m ∧ ((ops.map (·.1)).take m).Nodup ∧ Below w.heap.size w wr2) (fun _ _ _ i _ => ops.length - (intOf i).toNat)
              case atStart => exact ⟨0, Nat.zero_le _, rfl, by simp, hbl⟩
              case round =>
                clear hbl
                obtain ⟨m, hm, rfl, hnd, hbl⟩ := hrel
                have HND := Lib.hid hnd
                clear hnd
                by_cases hlt : m < ops.length
                · obtain ⟨ad, hA, _, hlt2, hc0, X, cx, hc1, hcx, hrow⟩ := (h.below hbl) m hlt
                  have i2 : (m : Int) < (ops.length : Int) := by omega
                  have hbA : Below w.heap.size w (wr.alloc (.cells #[.int .u64 ops[m].1, .slice X ops[m].2.length cx] 48)) := hbl.alloc hbl.size _
                  have HID : Hid (∀ q (hq : q < (ops.map (·.1)).length), (ops.map (·.1))[q] = (ops[q]'(by simpa using hq)).1) := fun q hq => by simp
                  obtain ⟨idm, hidm⟩ : ∃ x, ops[m].1 = x := ⟨_, rfl⟩
                  obtain ⟨vecm, hvecm⟩ : ∃ x, ops[m].2 = x := ⟨_, rfl⟩
                  rw [hidm] at hc0 hbA
                  rw [hvecm] at hc1 hbA
                  have HIM := Lib.hid hidm
                  clear hidm hvecm hcx hrow
                  have hA' := hA
                  subst hA
                  have hcm : m ≤ c := by omega
                  go_wp2_with fail
                  obtain ⟨wb, hwb⟩ : ∃ x, x = wr.alloc (.cells #[.int .u64 idm, .slice X vecm.length cx] 48) := ⟨_, rfl⟩
                  have hb0 : wb.cell? ⟨wr.heap.size, 0, none⟩ = some (.int .u64 idm) := by rw [hwb]; go_simp
                  have hblt : wr.heap.size < wb.heap.size := by rw [hwb]; simp
                  rw [← hwb] at hbA ⊢
                  clear hwb hc0 hc1 hbl hlt2
                  generalize wr.heap.size = b8 at *
                  go_loopw [10, 63] (fun _ i wq => ∃ j : Nat, j ≤ m ∧ i = .int .i64 j ∧ (∀ q (hq : q < j) (hql : q < ops.length), ops[q].1 ≠ idm) ∧ Below wb.heap.size wb wq) (fun _ i _ => m - (intOf i).toNat)
                  case atStart => exact ⟨0, Nat.zero_le _, rfl, fun q hq => by omega, Below.refl _ _⟩
                  case round =>
                    obtain ⟨j, hj, rfl, hnq, hbq⟩ := hrel
                    have HNQ := Lib.hid hnq
                    clear hnq
                    have hbw := hbA.trans (hbq.mono hbA.size)
                    have hb0' := (hbq.cell (p := ⟨b8, 0, none⟩) hblt).trans hb0
                    have hbs := hbq.size
                    by_cases hjm : j < m
                    · obtain ⟨ad2, hA2, _, hlt3, hd0, Y, cy, hd1, _, _⟩ := (h.below hbw) j (by omega)
                      injection hA2 with hA2
                      subst hA2
                      have i3 : (j : Int) < (m : Int) := by omega
                      obtain ⟨idj, hidj⟩ : ∃ x, (ops[j]'(by omega)).1 = x := ⟨_, rfl⟩
                      obtain ⟨vecj, hvecj⟩ : ∃ x, (ops[j]'(by omega)).2 = x := ⟨_, rfl⟩
                      rw [hidj] at hd0
                      rw [hvecj] at hd1
                      have HIJ := Lib.hid hidj
                      clear hidj hvecj
                      have hbB : Below w.heap.size w (wr.alloc (.cells #[.int .u64 idj, .slice Y vecj.length cy] 48)) := hbw.alloc hbw.size _
                      have hbC : Below wb.heap.size wb (wr.alloc (.cells #[.int .u64 idj, .slice Y vecj.length cy] 48)) := hbq.alloc hbq.size _
                      have hb0'' : (wr.alloc (.cells #[.int .u64 idj, .slice Y vecj.length cy] 48)).cell? ⟨b8, 0, none⟩ = some (.int .u64 idm) := (hbC.cell (p := ⟨b8, 0, none⟩) hblt).trans hb0
                      have HBB := Lib.hid hbB
                      have HBC := Lib.hid hbC
                      clear hbB hbC hb0'
                      by_cases he : idj = idm
                      · have HV := Lib.hid (show chk dim ops = 7 by
                          rw [HG.out, if_neg]
                          exact not_nodup (j := j) (k := m) (by simpa using hlt) hjm (by rw [HID.out, HID.out, HIJ.out, HIM.out]; exact he))
                        have he' : (idj == idm) = true := by simp [he]
                        clear he
                        go_wp2_with fail
                        go_ret
                        exact ⟨by rw [HV.out]; rfl, HBB.out⟩
                      · have he' : (idj == idm) = false := by simp [he]
                        have HNN : Hid (∀ q (hq : q < j + 1) (hql : q < ops.length), ops[q].1 ≠ idm) := fun q hq hql => by
                          rcases Nat.lt_or_ge q j with h1 | h1
                          · exact HNQ.out q h1 hql
                          · obtain rfl : q = j := by omega
                            rw [HIJ.out]; exact he
                        clear he
                        go_wp2_with fail
                        go_roundw
                        case rel => exact ⟨j + 1, by omega, by go_num, HNN.out, HBC.out⟩
                        case measure => simp [intOf]; omega
                    · have i3 : ¬ (j : Int) < (m : Int) := by omega
                      have HNS := Lib.hid (nodup_step (ids := ops.map (·.1)) (k := m) (by simpa using hlt) HND.out (fun q hq => by
                        rw [HID.out, HID.out, HIM.out]
                        exact HNQ.out q (by omega) (by omega)))
                      clear HNQ
                      go_wp2_with fail
                      go_roundw
                      case rel => exact ⟨m + 1, by omega, by go_num, HNS.out, hbw⟩
                      case measure => simp [intOf]; omega
                · have i2 : ¬ (m : Int) < (ops.length : Int) := by omega
                  have HV := Lib.hid (show chk dim ops = 0 by
                    rw [HG.out, if_pos]
                    have h := HND.out
                    rw [List.take_of_length_le (by simp; omega)] at h
                    exact h)
                  go_wp2_with fail
                  go_ret
                  exact ⟨by rw [HV.out]; rfl, hbl⟩

end Go.Proofs.Ytnpbfacmjmgfaaa
