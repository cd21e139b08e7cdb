/-
  The contracts of ref02's CutVec and SameVec.
-/
import Derived.Test.YtphcakhhjjdpiaaMem
import Derived.BigQuiet
namespace Go.Proofs.Ytphcakhhjjdpiaa
open Go.RowKit

theorem quietL {P : Program} {f : FuncId} {args : Array Value} {w : World} {n : Nat} {v : Value}
    (h : Calls P f args (w.drewN n) fun e w' => e = .returned v ∧ w.drewN n = w') : Calls P f args (w.drewN n) fun e w2 => e = .returned v ∧ ∃ m, w2 = w.drewN m :=
  h.mono fun _ _ ⟨he, hm⟩ => ⟨he, n, hm.symm⟩
theorem below_drewN {B : Nat} {a w : World} (h : Below B a w) (n : Nat) : Below B a (w.drewN n) := ⟨h.os, h.tape, h.output, h.size, h.block⟩
theorem Row.drewN {S : Nat → Prop} {w : World} {A : Option Addr} {xs : List Value} (h : Row S w A xs) (n : Nat) : Row S (w.drewN n) A xs := h


theorem Try.info21 : (Try.prog.info? 21).map (fun i => (i.zero, i.size, i.bytes)) = some (some (.int .i32 0), 1, 4) := by kernel_rfl

/-- A slice whose block starts with it, and isn't frozen; of the block T holds. -/
def FreeA (T : Nat → Prop) (w : World) (A : Option Addr) : Prop := ∀ ad, A = some ad → ad = ⟨ad.block, 0, none⟩ ∧ T ad.block ∧ ad.block < w.heap.size ∧ ∀ i, w.frozen? ⟨ad.block, i, none⟩ = false
theorem FreeA.kept {T : Nat → Prop} {w w' : World} {A : Option Addr} (h : FreeA T w A) (hs : w.heap.size ≤ w'.heap.size) (hk : ∀ g, g < w.heap.size → T g → w'.heap[g]? = w.heap[g]?) : FreeA T w' A := fun ad e => by
  obtain ⟨h1, h2, h3, h4⟩ := h ad e
  exact ⟨h1, h2, by omega, fun i => (World.frozen?_of_block (w := w) (w' := w') (a := ⟨ad.block, i, none⟩) (hk _ h3 h2)).trans (h4 i)⟩
theorem FreeA.mono {T T' : Nat → Prop} {w : World} {A : Option Addr} (h : FreeA T w A) (hT : ∀ g, g < w.heap.size → T g → T' g) : FreeA T' w A := fun ad e => by
  obtain ⟨h1, h2, h3, h4⟩ := h ad e
  exact ⟨h1, hT _ h3 h2, h3, h4⟩
theorem freeA_own {w : World} {B n c : Nat} {e : TypeId} {A : Option Addr} {xs : List Value} (h : w.ownsRow B e 1 (.slice A n c) n xs) : FreeA (fun g => B ≤ g) w A := fun ad ea => by
  rcases h.2 with ⟨e0, _⟩ | ⟨g, cap, cur, e0, hg, hh, _⟩
  · injection e0 with e0 _ _
    rw [e0] at ea; cases ea
  · injection e0 with e0 _ _
    rw [e0] at ea
    injection ea with ea
    subst ea
    exact ⟨rfl, hg, lt_of_block hh, fun i => by simp [World.frozen?, hh]⟩

/-- New memory that reads as xs, and may be written to. -/
def GivesF (w : World) (k : List Value) (e : Ending) (w' : World) : Prop :=
  ∃ A c, e = .returned (.slice A k.length c) ∧ k.length ≤ c ∧ Row (fun g => w.heap.size ≤ g) w' A k ∧ FreeA (fun g => w.heap.size ≤ g) w' A ∧ Below w.heap.size w w'

set_option maxRecDepth 100000 in
set_option maxHeartbeats 400000 in
theorem cutVecF_any (S : Nat → Prop) (A : Option Addr) (c n : Nat) (l : List Int) (w : World) (hrow : Row S w A (i32s l)) (hc : l.length ≤ c) (hl : l.length ≤ 9223372036854775807) (hn : n ≤ 17592186044416) :
    Calls Try.prog 13 #[.slice A l.length c, .int .i64 (n : Int)] w fun e w' => GivesF w (i32s (l.take n)) e w' := by
  obtain ⟨i0, hi, hz0, hz1, hz2⟩ := info_parts Try.info21
  have h0 : (w.alloc (.cells #[] 21)).ownsRow w.heap.size 21 1 (.slice (some ⟨w.heap.size, 0, none⟩) 0 0) 0 [] := World.ownsRow_lit w #[] 0 (Nat.le_refl _) (by decide) rfl
  have hrow1 := (hrow.alloc (.cells #[] 21)).take n
  have htl : ((i32s l).take n).length = min n l.length := by rw [List.length_take, i32s_len]
  have hut : (i32s l).take n = i32s (l.take n) := by simp [i32s]
  rw [hut] at hrow1 htl
  have h1c := i32s_one (l.take n)
  unfold GivesF
  generalize i32s (l.take n) = ys at *
  have fin : ∀ (v' : Value) (w' : World), w'.ownsRow w.heap.size 21 1 v' ys.length ys → (w.alloc (.cells #[] 21)).grownBy w' (some w.heap.size) →
      ∃ A c, Ending.returned v' = .returned (.slice A ys.length c) ∧ ys.length ≤ c ∧ Row (fun g => w.heap.size ≤ g) w' A ys ∧ FreeA (fun g => w.heap.size ≤ g) w' A ∧ Below w.heap.size w w' := by
    intro v' w' hown hgrow
    obtain ⟨A', c', rfl, hc', _, hr'⟩ := Row.of_own hown
    exact ⟨A', c', rfl, hc', hr'.mono fun g _ h => h.1, freeA_own hown, ((Below.refl _ _).alloc (Nat.le_refl _) _).grown hgrow (by simp) (fun k e => by injection e with e; omega)⟩
  clear hut
  by_cases h : l.length ≤ n
  · have hm : ys.length = l.length := by omega
    have HM := Lib.hid hm
    clear htl hm
    go_enter Try.func13, Try.ntmps13
    go_wp2_with (at_builtin; refine wpList_append_row _ rfl (.tmp 5) (.tmp 11) 30 rfl w.heap.size 21 i0 (.int .i32 0) 4 Try.underlying30 hi hz0 hz1 hz2 rfl _ 0 [] rfl h0 S A l.length c ys rfl HM.out hrow1 h1c ?c3 ?c4 ?c5 ?_; rotate_right; intro A' c' w' hown hgrow hat)
    case c3 => unfold maxLen; omega
    case c4 => omega
    case c5 => simp
    go_ret
    rw [Nat.zero_add] at hown
    exact fin _ w' (by rw [HM.out]; exact hown) hgrow
  · have hm : ys.length = n := by omega
    have HM := Lib.hid hm
    clear htl hm
    go_enter Try.func13, Try.ntmps13
    go_wp2_with (at_builtin; refine wpList_append_row _ rfl (.tmp 5) (.tmp 11) 30 rfl w.heap.size 21 i0 (.int .i32 0) 4 Try.underlying30 hi hz0 hz1 hz2 rfl _ 0 [] rfl h0 S A n c ys rfl HM.out hrow1 h1c ?d3 ?d4 ?d5 ?_; rotate_right; intro A' c' w' hown hgrow hat)
    case d3 => unfold maxLen; omega
    case d4 => omega
    case d5 => simp
    go_ret
    rw [Nat.zero_add] at hown
    exact fin _ w' (by rw [HM.out]; exact hown) hgrow



set_option maxRecDepth 100000 in
set_option maxHeartbeats 400000 in
theorem sameVec_any (S T : Nat → Prop) (A B : Option Addr) (c d : Nat) (l m : List Int) (w : World) (h1 : Row S w A (i32s l)) (h2 : Row T w B (i32s m)) (hl : l.length ≤ 17592186044416) :
    Calls Try.prog 16 #[.slice A l.length c, .slice B m.length d] w fun e w' => e = .returned (.bool (l == m)) ∧ Below w.heap.size w w' := by
  by_cases hne : l.length = m.length
  · have HN := Lib.hid hne
    have hne' : ((l.length : Int) != (m.length : Int)) = false := by simp [hne]
    clear hne
    go_enter Try.func16, Try.ntmps16
    go_wp2_with fail
    go_loopw [13] (fun i wr => ∃ k : Nat, k ≤ l.length ∧ i = .int .i64 k ∧ l.take k = m.take k ∧ Below w.heap.size w wr) (fun i _ => l.length - (intOf i).toNat)
    case atStart => exact ⟨0, Nat.zero_le _, rfl, rfl, Below.refl _ _⟩
    case round =>
      obtain ⟨k, hk, rfl, heq, hbl⟩ := hrel
      have HEQ := Lib.hid heq
      clear heq
      by_cases hlt : k < l.length
      · have hlm : k < m.length := by rw [← HN.out]; exact hlt
        obtain ⟨ad, rfl, _, _, hcA⟩ := (h1.below hbl) k (by rw [i32s_len]; exact hlt)
        obtain ⟨bd, rfl, _, _, hcB⟩ := (h2.below hbl) k (by rw [i32s_len]; exact hlm)
        rw [i32s_at hlt] at hcA
        rw [i32s_at hlm] at hcB
        have i1 : (k : Int) < (l.length : Int) := by omega
        have i2 : (k : Int) < (m.length : Int) := by omega
        by_cases hx : l[k] = m[k]
        · have hx' : (l[k] != m[k]) = false := by simpa using hx
          have HX := Lib.hid hx
          clear hx
          go_wp2_with fail
          go_quiet (fail)
          go_wp2_with fail
          go_roundw
          case rel => exact ⟨k + 1, by omega, by go_num, by rw [List.take_succ_eq_append_getElem hlt, List.take_succ_eq_append_getElem hlm, HEQ.out, HX.out], ⟨hbl.os, hbl.tape, hbl.output, hbl.size, hbl.block⟩⟩
          case measure => simp [intOf]; omega
        · have hx' : (l[k] != m[k]) = true := by simpa using hx
          have HF := Lib.hid (show (l == m) = false by
            simp; rintro rfl; exact hx rfl)
          clear hx
          go_wp2_with fail
          go_quiet (fail)
          go_wp2_with fail
          go_ret
          exact ⟨by rw [HF.out]; rfl, ⟨hbl.os, hbl.tape, hbl.output, hbl.size, hbl.block⟩⟩
      · have HF := Lib.hid (show (l == m) = true by
          have h := HEQ.out
          rw [List.take_of_length_le (by omega), List.take_of_length_le (by have := HN.out; omega)] at h
          rw [h]; simp)
        go_wp2_with fail
        go_ret
        exact ⟨by rw [HF.out]; rfl, hbl⟩
  · have hne' : ((l.length : Int) != (m.length : Int)) = true := by simp; omega
    have HF := Lib.hid (show (l == m) = false by simp; intro e; exact hne (by rw [e]))
    clear hne
    go_enter Try.func16, Try.ntmps16
    go_wp2_with fail
    go_ret
    exact ⟨by rw [HF.out]; rfl, Below.refl _ _⟩

theorem ret_bool {a b : Bool} (h : a = b) : Ending.returned (.bool a) = .returned (.bool b) := by rw [h]

end Go.Proofs.Ytphcakhhjjdpiaa
