/-
  The contract of vec's Check: may ops be a batch?
-/
import Derived.Test.YtnpbfacmjmgfaaaOps
import Derived.Maps.OwnOps
import Derived.Maps.OwnSet
namespace Go.Proofs.Ytnpbfacmjmgfaaa
open Go.RowKit Go.Maps

def fitsB (dim : Int) (o : Int × List Int) : Bool := decide (o.1 ≤ 1099511627776) && (decide (o.2.length = 0) || (decide ((o.2.length : Int) = dim) && rightB o.2))
def U64 (n : Int) : Prop := 0 ≤ n ∧ n ≤ 18446744073709551615
def chk (dim : Int) (ops : List (Int × List Int)) : Int :=
  if dim < 1 ∨ 8 < dim then 1 else if ops.length = 0 then 2 else if 16 < ops.length then 3 else if ops.all (fitsB dim) = true then (if (ops.map (·.1)).Nodup then 0 else 7) else 4

set_option maxRecDepth 100000 in
set_option maxHeartbeats 400000 in
theorem fits_any (S : Nat → Prop) (dim id : Int) (X : Option Addr) (c : Nat) (vec : List Int) (w : World) (hr : Row S w X (i32s vec)) (hl : vec.length ≤ 1000) :
    Calls Try.prog 32 #[.int .i64 dim, .agg #[.int .u64 id, .slice X vec.length c]] w fun e w' => e = .returned (.bool (fitsB dim (id, vec))) ∧ Below w.heap.size w w' := by
  have hb : Below w.heap.size w (w.alloc (.cells #[.int .u64 id, .slice X vec.length c] 48)) := (Below.refl _ _).alloc (Nat.le_refl _) _
  have HR := Lib.hid (right_any S X c vec _ (hr.below hb) (by omega))
  by_cases h1 : 1099511627776 < id
  · have HV := Lib.hid (show fitsB dim (id, vec) = false by unfold fitsB; simp; omega)
    go_enter Try.func32, Try.ntmps32
    go_wp2_with fail
    go_ret
    exact ⟨by rw [HV.out]; rfl, hb⟩
  · have e1 : decide (id ≤ 1099511627776) = true := by simp; omega
    by_cases h2 : vec.length = 0
    · have HV := Lib.hid (show fitsB dim (id, vec) = true by unfold fitsB; simp [h2]; omega)
      have h2' : ((vec.length : Int) == 0) = true := by simp [h2]
      clear h2 e1
      go_enter Try.func32, Try.ntmps32
      go_wp2_with fail
      go_ret
      exact ⟨by rw [HV.out]; rfl, hb⟩
    · have h2' : ((vec.length : Int) == 0) = false := by simp; intro e; exact h2 (by rw [e]; rfl)
      by_cases h3 : (vec.length : Int) = dim
      · have HV := Lib.hid (show fitsB dim (id, vec) = rightB vec by unfold fitsB; simp [h2, h3]; omega)
        have h3' : ((vec.length : Int) == dim) = true := by simp [h3]
        clear h3 e1
        generalize rightB vec = rb at HR HV
        go_enter Try.func32, Try.ntmps32
        go_wp2_with (go_at_call 15; refine (HR.out).mono ?_; rintro e w' ⟨rfl, rfl⟩)
        go_ret
        exact ⟨by rw [HV.out]; simp, hb⟩
      · have HV := Lib.hid (show fitsB dim (id, vec) = false by unfold fitsB; simp [h2, h3])
        have h3' : ((vec.length : Int) == dim) = false := by simp [h3]
        clear h3 e1
        go_enter Try.func32, Try.ntmps32
        go_wp2_with fail
        go_ret
        exact ⟨by rw [HV.out]; rfl, hb⟩

set_option maxRecDepth 100000 in
set_option maxHeartbeats 400000 in
theorem unfit_any (S : Nat → Prop) (dim id : Int) (b : Nat) (X : Option Addr) (c : Nat) (vec : List Int) (w : World) (hc : w.cell? ⟨b, 0, none⟩ = some (.int .i64 dim)) (hblt : b < w.heap.size) (hr : Row S w X (i32s vec)) (hl : vec.length ≤ 1000) :
    Calls Try.prog 31 #[.agg #[.int .u64 id, .slice X vec.length c], .pointer (some ⟨b, 0, none⟩)] w fun e w' => e = .returned (.bool (!fitsB dim (id, vec))) ∧ Below w.heap.size w w' := by
  have hb : Below w.heap.size w (w.alloc (.cells #[.int .u64 id, .slice X vec.length c] 48)) := (Below.refl _ _).alloc (Nat.le_refl _) _
  have HF := Lib.hid (fits_any S dim id X c vec _ (hr.below hb) hl)
  have hc' : (w.alloc (.cells #[.int .u64 id, .slice X vec.length c] 48)).cell? ⟨b, 0, none⟩ = some (.int .i64 dim) := (hb.cell (p := ⟨b, 0, none⟩) hblt).trans hc
  generalize fitsB dim (id, vec) = f at *
  go_enter Try.func31, Try.ntmps31
  go_wp2_with (go_at_call 32; refine (HF.out).mono ?_; rintro e w2 ⟨rfl, hb2⟩)
  go_ret
  exact ⟨rfl, hb.trans (hb2.mono hb.size)⟩

/-- where the first stands that doesn't fit; -1: nowhere -/
def unfitAt (dim : Int) (ops : List (Int × List Int)) : Int := if ops.all (fitsB dim) = true then -1 else (ops.findIdx (fun o => !fitsB dim o) : Nat)
theorem unfitAt_hit (dim : Int) (l : List (Int × List Int)) (k : Nat) (h : k < l.length) (hno : ∀ j (hj : j < k), fitsB dim (l[j]'(by omega)) = true) (hk : fitsB dim l[k] = false) : unfitAt dim l = k := by
  unfold unfitAt
  have h1 : ¬ l.all (fitsB dim) = true := by
    intro h2
    rw [List.all_eq_true] at h2
    rw [h2 _ (List.getElem_mem h)] at hk
    cases hk
  have h3 : l.findIdx (fun n => !fitsB dim n) = k := by
    rw [List.findIdx_eq h]
    refine ⟨by simp [hk], fun j hj => by simp [hno j hj]⟩
  rw [if_neg h1, h3]
theorem unfitAt_miss (dim : Int) (l : List (Int × List Int)) (hno : ∀ j (hj : j < l.length), fitsB dim l[j] = true) : unfitAt dim l = -1 := by
  unfold unfitAt
  rw [if_pos]
  rw [List.all_eq_true]
  intro x hx
  obtain ⟨j, hj, rfl⟩ := List.getElem_of_mem hx
  exact hno j hj
theorem unfitAt_sign (dim : Int) (l : List (Int × List Int)) : decide (0 ≤ unfitAt dim l) = !(l.all (fitsB dim)) := by
  unfold unfitAt
  by_cases h : l.all (fitsB dim) = true
  · rw [if_pos h, h]; rfl
  · rw [if_neg h]; simp at h ⊢; exact h

set_option maxRecDepth 100000 in
set_option maxHeartbeats 1000000 in
theorem indexUnfit_any (S : Nat → Prop) (dim : Int) (b : Nat) (A : Option Addr) (c : Nat) (ops : List (Int × List Int)) (w : World) (hc : w.cell? ⟨b, 0, none⟩ = some (.int .i64 dim)) (hblt : b < w.heap.size) (h : OpsAt S w A ops)
    (hl : ops.length ≤ 1000) (hv : ∀ o ∈ ops, o.2.length ≤ 1000) :
    Calls Try.prog 35 #[.slice A ops.length c, .func (.func 31) #[] #[.pointer (some ⟨b, 0, none⟩)]] w fun e w' => e = .returned (.int .i64 (unfitAt dim ops)) ∧ Below w.heap.size w w' := by
  go_enter Try.func35, Try.ntmps35
  go_wp2_with fail
  go_loopw [5, 8] (fun _ i wr => ∃ k : Nat, k ≤ ops.length ∧ i = .int .i64 k ∧ (∀ j (hj : j < k) (hjl : j < ops.length), fitsB dim ops[j] = true) ∧ Below w.heap.size w wr) (fun _ i _ => ops.length - (intOf i).toNat)
  case atStart => exact ⟨0, Nat.zero_le _, rfl, fun j hj => by omega, Below.refl _ _⟩
  case round =>
    obtain ⟨k, hk, rfl, hno, hbl⟩ := hrel
    have HN := Lib.hid hno
    clear hno
    by_cases hlt : k < ops.length
    · obtain ⟨ad, rfl, _, hlt2, hc0, X, cx, hc1, hcx, hrow⟩ := (h.below hbl) k hlt
      have hvl := hv _ (List.getElem_mem hlt)
      have i1 : (k : Int) < (ops.length : Int) := by omega
      have hcall := unfit_any S dim ops[k].1 b X cx ops[k].2 wr ((hbl.cell (p := ⟨b, 0, none⟩) hblt).trans hc) (by have := hbl.size; omega) hrow hvl
      cases hx : fitsB dim ops[k] with
      | false =>
        have HR := Lib.hid (unfitAt_hit dim ops k hlt (fun j hj => HN.out j hj (by omega)) hx)
        rw [show fitsB dim (ops[k].1, ops[k].2) = false from hx] at hcall
        have HC := Lib.hid hcall
        clear hcall hx h hv hrow
        generalize ops[k].1 = id at *
        generalize ops[k].2 = vec at *
        go_wp2_with (go_at_call 31; refine (HC.out).mono ?_; rintro e w2 ⟨rfl, hb2⟩)
        go_ret
        exact ⟨by rw [HR.out]; rfl, hbl.trans (hb2.mono hbl.size)⟩
      | true =>
        have HX := Lib.hid hx
        rw [show fitsB dim (ops[k].1, ops[k].2) = true from hx] at hcall
        have HC := Lib.hid hcall
        clear hcall hx h hv hrow
        have HNN : Hid (∀ j (hj : j < k + 1) (hjl : j < ops.length), fitsB dim ops[j] = true) := fun j hj hjl => by
          rcases Nat.lt_or_ge j k with h1 | h1
          · exact HN.out j h1 hjl
          · obtain rfl : j = k := by omega
            exact HX.out
        clear HX
        generalize ops[k].1 = id at *
        generalize ops[k].2 = vec at *
        go_wp2_with (go_at_call 31; refine (HC.out).mono ?_; rintro e w2 ⟨rfl, hb2⟩)
        go_roundw
        case rel => exact ⟨k + 1, by omega, by go_num, HNN.out, hbl.trans (hb2.mono hbl.size)⟩
        case measure => simp [intOf]; omega
    · have HR := Lib.hid (unfitAt_miss dim ops (fun j hj => HN.out j (by omega) hj))
      have i1 : ¬ (k : Int) < (ops.length : Int) := by omega
      go_wp2_with fail
      go_ret
      exact ⟨by rw [HR.out]; rfl, hbl⟩

set_option maxHeartbeats 400000 in
theorem containsUnfit_any (S : Nat → Prop) (dim : Int) (b : Nat) (A : Option Addr) (c : Nat) (ops : List (Int × List Int)) (w : World) (hc : w.cell? ⟨b, 0, none⟩ = some (.int .i64 dim)) (hblt : b < w.heap.size) (h : OpsAt S w A ops)
    (hl : ops.length ≤ 1000) (hv : ∀ o ∈ ops, o.2.length ≤ 1000) :
    Calls Try.prog 30 #[.slice A ops.length c, .func (.func 31) #[] #[.pointer (some ⟨b, 0, none⟩)]] w fun e w' => e = .returned (.bool (!(ops.all (fitsB dim)))) ∧ Below w.heap.size w w' := by
  have HC := Lib.hid (indexUnfit_any S dim b A c ops w hc hblt h hl hv)
  have HS := Lib.hid (unfitAt_sign dim ops)
  clear hc h hv
  generalize unfitAt dim ops = u at HC HS
  go_enter Try.func30, Try.ntmps30
  go_wp2_with (go_at_call 35; refine (HC.out).mono ?_; rintro e w' ⟨rfl, hb⟩)
  go_ret
  exact ⟨by rw [← HS.out]; rfl, hb⟩

end Go.Proofs.Ytnpbfacmjmgfaaa
