/-
  The contracts of ref02's CutVec and SameVec.
-/
import Derived.Test.YtlambcmikfihgaaCut
import Derived.Test.YtlambcmikfihgaaVOf
import Derived.Deep.QuietTactic
import Derived.BigQuiet
namespace Go.Proofs.Ytlambcmikfihgaa
open Go.RowKit

theorem i32s_len (xs : List Int) : (i32s xs).length = xs.length := by simp [i32s]
theorem i32s_one (xs : List Int) : ∀ u ∈ i32s xs, u.oneCell' = true := ints_oneCell _ _

set_option maxRecDepth 100000 in
set_option maxHeartbeats 400000 in
theorem cutVec_any (S : Nat → Prop) (A : Option Addr) (c n : Nat) (l : List Int) (w : World) (hrow : Row S w A (i32s l)) (hc : l.length ≤ c) (hl : l.length ≤ 9223372036854775807) (hn : n ≤ 17592186044416) :
    Calls Try.prog 24 #[.slice A l.length c, .int .i64 (n : Int)] w fun e w' => Gives w (i32s (l.take n)) e w' := by
  obtain ⟨i0, hi, hz0, hz1, hz2⟩ := info_parts Try.info21
  have h0 : (w.alloc (.cells #[] 21)).ownsRow w.heap.size 21 1 (.slice (some ⟨w.heap.size, 0, none⟩) 0 0) 0 [] := World.ownsRow_lit w #[] 0 (Nat.le_refl _) (by decide) rfl
  have hrow1 := (hrow.alloc (.cells #[] 21)).take n
  have htl : ((i32s l).take n).length = min n l.length := by rw [List.length_take, i32s_len]
  have hut : (i32s l).take n = i32s (l.take n) := by simp [i32s]
  rw [hut] at hrow1 htl
  have h1c := i32s_one (l.take n)
  unfold Gives
  generalize i32s (l.take n) = ys at *
  have fin : ∀ (v' : Value) (w' : World), w'.ownsRow w.heap.size 21 1 v' ys.length ys → (w.alloc (.cells #[] 21)).grownBy w' (some w.heap.size) →
      ∃ A c, Ending.returned v' = .returned (.slice A ys.length c) ∧ ys.length ≤ c ∧ Row (fun g => w.heap.size ≤ g) w' A ys ∧ Below w.heap.size w w' := by
    intro v' w' hown hgrow
    obtain ⟨A', c', rfl, hc', _, hr'⟩ := Row.of_own hown
    exact ⟨A', c', rfl, hc', hr'.mono fun g _ h => h.1, ((Below.refl _ _).alloc (Nat.le_refl _) _).grown hgrow (by simp) (fun k e => by injection e with e; omega)⟩
  clear hut
  by_cases h : l.length ≤ n
  · have hm : ys.length = l.length := by omega
    have HM := Lib.hid hm
    clear htl hm
    go_enter Try.func24, Try.ntmps24
    go_wp2_with (at_builtin; refine wpList_append_row _ rfl (.tmp 5) (.tmp 11) 40 rfl w.heap.size 21 i0 (.int .i32 0) 4 Try.underlying40 hi hz0 hz1 hz2 rfl _ 0 [] rfl h0 S A l.length c ys rfl HM.out hrow1 h1c ?c3 ?c4 ?c5 ?_; rotate_right; intro A' c' w' hown hgrow hat)
    case c3 => unfold maxLen; omega
    case c4 => omega
    case c5 => simp
    go_ret
    rw [Nat.zero_add] at hown
    exact fin _ w' (by rw [HM.out]; exact hown) hgrow
  · have hm : ys.length = n := by omega
    have HM := Lib.hid hm
    clear htl hm
    go_enter Try.func24, Try.ntmps24
    go_wp2_with (at_builtin; refine wpList_append_row _ rfl (.tmp 5) (.tmp 11) 40 rfl w.heap.size 21 i0 (.int .i32 0) 4 Try.underlying40 hi hz0 hz1 hz2 rfl _ 0 [] rfl h0 S A n c ys rfl HM.out hrow1 h1c ?d3 ?d4 ?d5 ?_; rotate_right; intro A' c' w' hown hgrow hat)
    case d3 => unfold maxLen; omega
    case d4 => omega
    case d5 => simp
    go_ret
    rw [Nat.zero_add] at hown
    exact fin _ w' (by rw [HM.out]; exact hown) hgrow

set_option maxRecDepth 100000 in
set_option maxHeartbeats 400000 in
theorem sameVec_any (S T : Nat → Prop) (A B : Option Addr) (c d : Nat) (l m : List Int) (w : World) (h1 : Row S w A (i32s l)) (h2 : Row T w B (i32s m)) (hl : l.length ≤ 17592186044416) :
    Calls Try.prog 18 #[.slice A l.length c, .slice B m.length d] w fun e w' => e = .returned (.bool (l == m)) ∧ Below w.heap.size w w' := by
  by_cases hne : l.length = m.length
  · have HN := Lib.hid hne
    have hne' : ((l.length : Int) != (m.length : Int)) = false := by simp [hne]
    clear hne
    go_enter Try.func18, Try.ntmps18
    go_wp2_with fail
    go_loopw [13] (fun i wr => ∃ k : Nat, k ≤ l.length ∧ i = .int .i64 k ∧ l.take k = m.take k ∧ Below w.heap.size w wr) (fun i _ => l.length - (intOf i).toNat)
    case atStart => exact ⟨0, Nat.zero_le _, rfl, rfl, Below.refl _ _⟩
    case round =>
      obtain ⟨k, hk, rfl, heq, hbl⟩ := hrel
      have HEQ := Lib.hid heq
      clear heq
      by_cases hlt : k < l.length
      · have hlm : k < m.length := by rw [← HN.out]; exact hlt
        obtain ⟨ad, rfl, _, _, hcA⟩ := (h1.below hbl) k (by rw [i32s_len]; exact hlt)
        obtain ⟨bd, rfl, _, _, hcB⟩ := (h2.below hbl) k (by rw [i32s_len]; exact hlm)
        rw [i32s_at hlt] at hcA
        rw [i32s_at hlm] at hcB
        have i1 : (k : Int) < (l.length : Int) := by omega
        have i2 : (k : Int) < (m.length : Int) := by omega
        by_cases hx : l[k] = m[k]
        · have hx' : (l[k] != m[k]) = false := by simpa using hx
          have HX := Lib.hid hx
          clear hx
          go_wp2_with fail
          go_quiet (fail)
          go_wp2_with fail
          go_roundw
          case rel => exact ⟨k + 1, by omega, by go_num, by rw [List.take_succ_eq_append_getElem hlt, List.take_succ_eq_append_getElem hlm, HEQ.out, HX.out], ⟨hbl.os, hbl.tape, hbl.output, hbl.size, hbl.block⟩⟩
          case measure => simp [intOf]; omega
        · have hx' : (l[k] != m[k]) = true := by simpa using hx
          have HF := Lib.hid (show (l == m) = false by
            simp; rintro rfl; exact hx rfl)
          clear hx
          go_wp2_with fail
          go_quiet (fail)
          go_wp2_with fail
          go_ret
          exact ⟨by rw [HF.out]; rfl, ⟨hbl.os, hbl.tape, hbl.output, hbl.size, hbl.block⟩⟩
      · have HF := Lib.hid (show (l == m) = true by
          have h := HEQ.out
          rw [List.take_of_length_le (by omega), List.take_of_length_le (by have := HN.out; omega)] at h
          rw [h]; simp)
        go_wp2_with fail
        go_ret
        exact ⟨by rw [HF.out]; rfl, hbl⟩
  · have hne' : ((l.length : Int) != (m.length : Int)) = true := by simp; omega
    have HF := Lib.hid (show (l == m) = false by simp; intro e; exact hne (by rw [e]))
    clear hne
    go_enter Try.func18, Try.ntmps18
    go_wp2_with fail
    go_ret
    exact ⟨by rw [HF.out]; rfl, Below.refl _ _⟩

end Go.Proofs.Ytlambcmikfihgaa
