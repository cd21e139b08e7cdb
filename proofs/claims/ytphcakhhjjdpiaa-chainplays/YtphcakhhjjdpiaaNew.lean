/-
  The contract of New.
-/
import Derived.Test.YtphcakhhjjdpiaaPut
namespace Go.Proofs.Ytphcakhhjjdpiaa
open Go.RowKit

/-- versions put one by one, till one is refused: what is there then, and the error -/
def putAll : List Ver → List Ver → List Ver × Int
  | vs, [] => (vs, 0)
  | vs, x :: xs => if putE vs x = 0 then putAll (vs ++ [x]) xs else (vs, putE vs x)
theorem putAll_snoc : ∀ (xs vs : List Ver) (x : Ver), putAll vs (xs ++ [x]) = if (putAll vs xs).2 = 0 then (if putE (putAll vs xs).1 x = 0 then ((putAll vs xs).1 ++ [x], 0) else ((putAll vs xs).1, putE (putAll vs xs).1 x)) else putAll vs xs
  | [], vs, x => by
    by_cases h : putE vs x = 0 <;> simp [putAll, h]
  | y :: xs, vs, x => by
    simp only [List.cons_append, putAll]
    split
    · exact putAll_snoc xs _ x
    · rename_i h; simp [h]
theorem putAll_append_err : ∀ (xs ys vs : List Ver), (putAll vs xs).2 ≠ 0 → putAll vs (xs ++ ys) = putAll vs xs
  | [], ys, vs, h => absurd rfl h
  | y :: xs, ys, vs, h => by
    simp only [List.cons_append, putAll] at h ⊢
    split
    · rename_i h0
      rw [if_pos h0] at h
      exact putAll_append_err xs ys _ h
    · rfl
theorem putAll_len : ∀ (xs vs : List Ver), (putAll vs xs).1.length ≤ vs.length + xs.length
  | [], vs => Nat.le_refl _
  | x :: xs, vs => by
    simp only [putAll]
    split
    · have := putAll_len xs (vs ++ [x])
      simp only [List.length_append, List.length_cons, List.length_nil] at this ⊢
      omega
    · simp

/-- What New answers. -/
def NewGave (K : Nat → Prop) (w : World) (xs : List Ver) (e : Ending) (w' : World) : Prop :=
  Below w.heap.size w w' ∧
  (((putAll [] xs).2 = 0 ∧ ∃ v, e = .returned (.tuple #[.pointer (some ⟨w.heap.size, 0, none⟩), .int .i64 0]) ∧ Chn K w' w.heap.size w.heap.size v (putAll [] xs).1) ∨
  ((putAll [] xs).2 ≠ 0 ∧ e = .returned (.tuple #[.pointer none, .int .i64 (putAll [] xs).2])))

set_option maxRecDepth 100000 in
set_option maxHeartbeats 1000000 in
theorem new_any (S T K : Nat → Prop) (A : Option Addr) (c : Nat) (xs : List Ver) (w : World) (hat : VersAt S T w A xs) (hn : xs.length ≤ 100) (hw : ∀ x ∈ xs, x.2.length ≤ 1000) (hK : ∀ g, w.heap.size ≤ g → K g) :
    Calls Try.prog 9 #[.slice A xs.length c] w fun e w' => NewGave K w xs e w' := by
  have fin : Chn K (w.alloc (.cells #[.slice none 0 0] 61)) w.heap.size w.heap.size (.slice none 0 0) [] :=
    ⟨heap_alloc_new w _, Own2.start 41 _ _ _, Nat.le_refl _⟩
  have HF := Lib.hid fin
  have HAT := Lib.hid hat
  have HW := Lib.hid hw
  clear fin hat hw
  go_enter Try.func9, Try.ntmps9
  go_wp2_with fail
  go_loopw [6, 7, 12] (fun _ _ i wr => ∃ (k : Nat) (v : Value), k ≤ xs.length ∧ i = .int .i64 k ∧ (putAll [] (xs.take k)).2 = 0 ∧ Chn K wr w.heap.size w.heap.size v (putAll [] (xs.take k)).1 ∧ Below w.heap.size w wr) (fun _ _ i _ => xs.length - (intOf i).toNat)
  case atStart => exact ⟨0, _, Nat.zero_le _, rfl, rfl, by simpa [putAll] using HF.out, (Below.refl _ _).alloc (Nat.le_refl _) _⟩
  case round =>
    obtain ⟨k, v, hk, rfl, h0, hL, hbl⟩ := hrel
    by_cases hlt : k < xs.length
    · obtain ⟨ad, rfl, hj1, hadl, g0, Y, cy, g2, hj2, hrow⟩ := (HAT.out.below hbl) k hlt
      have i1 : (k : Int) < (xs.length : Int) := by omega
      have hvl := HW.out _ (List.getElem_mem hlt)
      have hT := putAll_snoc (xs.take k) [] xs[k]
      rw [← List.take_succ_eq_append_getElem hlt, if_pos h0] at hT
      have hll := putAll_len (xs.take k) []
      rw [List.length_take, List.length_nil] at hll
      obtain ⟨wa, hwa⟩ : ∃ x, x = wr.alloc (.cells #[.int .u64 xs[k].1, .slice Y xs[k].2.length cy] 41) := ⟨_, rfl⟩
      have hba : Below wr.heap.size wr wa := by rw [hwa]; exact (Below.refl _ _).alloc (Nat.le_refl _) _
      have hP := put_any T K w.heap.size w.heap.size v (putAll [] (xs.take k)).1 xs[k] Y cy wa (hL.below hba) (by omega) (hrow.below hba) hvl (fun g hg => hK g (by have := hba.size; have := hbl.size; omega))
      unfold PutGave at hP
      have HP := Lib.hid hP
      have HBA : Hid (Below w.heap.size w wa) := hbl.trans (hba.mono hbl.size)
      have HVB : Hid (∀ g, v.ownBlock = some g → w.heap.size ≤ g) := fun g e => (hL.low e).1
      have HERR : Hid ((putAll [] (xs.take (k + 1))).2 ≠ 0 → putAll [] xs = putAll [] (xs.take (k + 1))) := fun h => by
        have := putAll_append_err (xs.take (k + 1)) (xs.drop (k + 1)) [] h
        rwa [List.take_append_drop] at this
      by_cases hE : putE (putAll [] (xs.take k)).1 xs[k] = 0
      · rw [if_pos hE] at hT
        have HT := Lib.hid hT
        have hV : putV (putAll [] (xs.take k)).1 xs[k] = (putAll [] (xs.take (k + 1))).1 := by unfold putV; rw [if_pos hE, hT]
        rw [hV, hE] at HP
        have HWA := Lib.hid hwa
        clear hP hL hrow hj1 hj2 hT hV hll hE h0 hwa hba
        generalize xs[k].1 = xi at *
        generalize xs[k].2.length = xl at *
        go_wp2_with fail
        rw [← HWA.out]
        refine (HP.out).mono ?_
        rintro e w5 ⟨rfl, v5, hL5, hC5⟩
        go_wp2_with fail
        go_roundw
        case rel => exact ⟨k + 1, v5, by omega, by go_num, by rw [HT.out], hL5, hC5.below HBA.out (Nat.le_refl _) HVB.out⟩
        case measure => simp [intOf]; omega
      · rw [if_neg hE] at hT
        have HT : Hid (putAll [] xs = ((putAll [] (xs.take k)).1, putE (putAll [] (xs.take k)).1 xs[k])) := by
          have := HERR.out (by rw [hT]; exact hE)
          rw [this]; exact hT
        have hE' : ((putE (putAll [] (xs.take k)).1 xs[k]) != 0) = true := by simpa using hE
        have HNE := Lib.hid hE
        have HWA := Lib.hid hwa
        clear hP hL hrow hj1 hj2 hT hll hE h0 hwa hba
        generalize putE (putAll [] (xs.take k)).1 xs[k] = er at *
        generalize xs[k].1 = xi at *
        generalize xs[k].2.length = xl at *
        go_wp2_with fail
        rw [← HWA.out]
        refine (HP.out).mono ?_
        rintro e w5 ⟨rfl, v5, hL5, hC5⟩
        go_wp2_with fail
        go_ret2
        exact ⟨hC5.below HBA.out (Nat.le_refl _) HVB.out, .inr ⟨by rw [HT.out]; exact HNE.out, by rw [HT.out]; rfl⟩⟩
    · have i1 : ¬ (k : Int) < (xs.length : Int) := by omega
      rw [List.take_of_length_le (by omega)] at h0 hL
      have H0 := Lib.hid h0
      clear h0
      go_wp2_with fail
      go_ret2
      exact ⟨hbl, .inl ⟨H0.out, v, rfl, hL⟩⟩

end Go.Proofs.Ytphcakhhjjdpiaa
