/-
  The contract of (*Writer).Vecs.
-/
import Derived.Test.YtlambcmikfihgaaNums
namespace Go.Proofs.Ytlambcmikfihgaa
open Go.RowKit

def i32s (xs : List Int) : List Value := xs.map fun (n : Int) => Value.int .i32 n
theorem i32s_at {xs : List Int} {k : Nat} (h : k < xs.length) : (i32s xs)[k]? = some (.int .i32 xs[k]) := by simp [i32s, h]

/-- A slice of vectors. -/
def Rows (S : Nat → Prop) (w : World) (A : Option Addr) (vss : List (List Int)) : Prop :=
  ∃ cells : List Value, cells.length = vss.length ∧ Row S w A cells ∧ ∀ k (h : k < vss.length), ∃ A' c, cells[k]? = some (.slice A' (vss[k]).length c) ∧ Row S w A' (i32s vss[k])

theorem Rows.wrote {b : Nat} {v v' : Value} {w w' : World} {A : Option Addr} {vss : List (List Int)} (h : Rows (OffW b v) w A vss) (hf : Fr b v.ownBlock w w') (hl : Later w v.ownBlock v'.ownBlock) : Rows (OffW b v') w' A vss := by
  obtain ⟨cells, h1, h2, h3⟩ := h
  refine ⟨cells, h1, h2.wrote hf hl, fun k hk => ?_⟩
  obtain ⟨A', c, e, r⟩ := h3 k hk
  exact ⟨A', c, e, r.wrote hf hl⟩

theorem Rows.at_ {S : Nat → Prop} {w : World} {A : Option Addr} {vss : List (List Int)} (h : Rows S w A vss) {k : Nat} (hk : k < vss.length) :
    ∃ ad A' c, A = some ad ∧ w.cell? (ad.add k) = some (.slice A' (vss[k]).length c) ∧ Row S w A' (i32s vss[k]) := by
  obtain ⟨cells, h1, h2, h3⟩ := h
  obtain ⟨A', c, e, r⟩ := h3 k hk
  obtain ⟨ad, rfl, _, _, hc⟩ := h2 k (by omega)
  exact ⟨ad, A', c, rfl, hc.trans e, r⟩

set_option maxRecDepth 100000 in
set_option maxHeartbeats 800000 in
theorem vecs_any (B b c : Nat) (v : Value) (l : List Int) (vss : List (List Int)) (A : Option Addr) (w : World) (hw : Wr w B b v l) (hr : Rows (OffW b v) w A vss)
    (hx : ∀ ys ∈ vss, (∀ y ∈ ys, I32 y) ∧ ys.length < U64) (hl : l.length + bulkV vss ≤ 70368744177664) (hn : vss.length ≤ 70368744177664) :
    Calls Try.prog 11 #[.pointer (some ⟨b, 0, none⟩), .slice A vss.length c] w fun e w' => e = .returned (.pointer (some ⟨b, 0, none⟩)) ∧ Wrote B b v w (l ++ vss.flatMap vecB) w' := by
  go_enter Try.func11, Try.ntmps11
  go_wp2
  go_loopw [13] (fun i wr => ∃ k : Nat, k ≤ vss.length ∧ i = .int .i64 k ∧ Wrote B b v w (l ++ (vss.take k).flatMap vecB) wr) (fun i _ => vss.length - (intOf i).toNat)
  case atStart => exact ⟨0, Nat.zero_le _, rfl, by simpa using Wrote.start hw⟩
  case round =>
    obtain ⟨k, hk, rfl, hwr⟩ := hrel
    by_cases hlt : k < vss.length
    · obtain ⟨v1, hw1, f1, t1⟩ := hwr
      obtain ⟨ad, A', c', rfl, hcell, hrow⟩ := (hr.wrote f1 t1).at_ hlt
      have hpre : (l ++ (vss.take k).flatMap vecB).length + (10 * (vss[k]).length + 10) ≤ 70368744177664 := by
        have h1 := vecs_len (vss.take k) fun x h => hx x (List.mem_of_mem_take h)
        have h2 := bulkV_take hlt
        rw [List.length_append]; omega
      obtain ⟨hys, hyl⟩ := hx _ (List.getElem_mem hlt)
      have hft := flatMap_take (f := vecB) hlt
      generalize hpe : (l ++ (vss.take k).flatMap vecB) = pre at *
      generalize vss[k] = ys at *
      have Hft := Lib.hid hft
      have HP := Lib.hid hpe
      clear hft hpe
      go_wp2_with fail
      refine (num_any B b ys.length v1 _ _ hw1 hyl (by omega)).mono ?_
      rintro e w2 ⟨rfl, hw2⟩
      obtain ⟨v2, hv2, f2, t2⟩ := hw2
      have hrow2 := hrow.wrote f2 t2
      obtain ⟨wo, hwo⟩ : ∃ x, x = wr := ⟨_, rfl⟩
      subst hwo
      go_wp2_with fail
      go_loopw [24] (fun i wi => ∃ j : Nat, j ≤ ys.length ∧ i = .int .i64 j ∧ Wrote B b v2 w2 (pre ++ vi ys.length ++ wholes (ys.take j)) wi) (fun i _ => ys.length - (intOf i).toNat)
      case atStart => exact ⟨0, Nat.zero_le _, rfl, by simpa [wholes] using Wrote.start hv2⟩
      case round =>
        obtain ⟨j, hj, rfl, hwi⟩ := hrel
        by_cases hjl : j < ys.length
        · obtain ⟨v3, hw3, f3, t3⟩ := hwi
          obtain ⟨ad', rfl, _, _, hcell'⟩ := (hrow2.wrote f3 t3) j (by simpa [i32s] using hjl)
          rw [i32s_at hjl] at hcell'
          have hy : I32 ys[j] := hys _ (List.getElem_mem hjl)
          have hpl : (pre ++ vi ys.length ++ wholes (ys.take j)).length ≤ 70368744177664 := by
            have h1 := wholes_len (ys.take j) fun x h => hys x (List.mem_of_mem_take h)
            have h2 := vi_len10 hyl
            rw [List.length_take] at h1
            rw [List.length_append, List.length_append]; omega
          go_wp2_with fail
          refine (fold_any ys[j] _ hy).mono ?_
          rintro e w3 ⟨rfl, rfl⟩
          go_wp2_with fail
          refine (num_any B b (foldI ys[j]) v3 _ _ hw3 (foldI_lt hy) hpl).mono ?_
          rintro e w4 ⟨rfl, hw4⟩
          go_wp2_with fail
          go_roundw
          case rel => exact ⟨j + 1, by omega, by go_num, by rw [wholes_take hjl, ← List.append_assoc]; exact hw4.more f3 t3⟩
          case measure => simp [intOf]; omega
        · have hjl' : j = ys.length := by omega
          rw [hjl', List.take_length] at hwi
          clear hjl'
          go_wp2_with fail
          go_roundw
          case rel => exact ⟨k + 1, by omega, by go_num, by
            rw [Hft.out, ← List.append_assoc, HP.out]
            have := (hwi.more f2 t2).more f1 t1
            rwa [List.append_assoc] at this⟩
          case measure => simp [intOf]; omega
    · have hkl : k = vss.length := by omega
      rw [hkl, List.take_length] at hwr
      clear hkl
      go_wp2_with fail
      go_ret
      exact ⟨rfl, hwr⟩

end Go.Proofs.Ytlambcmikfihgaa
