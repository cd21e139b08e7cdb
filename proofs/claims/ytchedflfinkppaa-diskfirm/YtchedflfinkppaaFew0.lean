/-
  Rows of bytes of the call's own that may be written to; the contract of ref01's Cut once more.
-/
import Derived.Test.YtchedflfinkppaaActs
namespace Go.Proofs.Ytchedflfinkppaa
open Go.RowKit Go.Maps

/-- A slice whose block starts with it, and isn't frozen; of the block T holds. -/
def FreeA (T : Nat → Prop) (w : World) (A : Option Addr) : Prop := ∀ ad, A = some ad → ad = ⟨ad.block, 0, none⟩ ∧ T ad.block ∧ ad.block < w.heap.size ∧ ∀ i, w.frozen? ⟨ad.block, i, none⟩ = false
theorem FreeA.kept {T : Nat → Prop} {w w' : World} {A : Option Addr} (h : FreeA T w A) (hs : w.heap.size ≤ w'.heap.size) (hk : ∀ g, g < w.heap.size → T g → w'.heap[g]? = w.heap[g]?) : FreeA T w' A := fun ad e => by
  obtain ⟨h1, h2, h3, h4⟩ := h ad e
  exact ⟨h1, h2, by omega, fun i => (World.frozen?_of_block (w := w) (w' := w') (a := ⟨ad.block, i, none⟩) (hk _ h3 h2)).trans (h4 i)⟩
theorem FreeA.mono {T T' : Nat → Prop} {w : World} {A : Option Addr} (h : FreeA T w A) (hT : ∀ g, g < w.heap.size → T g → T' g) : FreeA T' w A := fun ad e => by
  obtain ⟨h1, h2, h3, h4⟩ := h ad e
  exact ⟨h1, hT _ h3 h2, h3, h4⟩
theorem freeA_own {w : World} {B n c : Nat} {e : TypeId} {A : Option Addr} {xs : List Value} (h : w.ownsRow B e 1 (.slice A n c) n xs) : FreeA (fun g => B ≤ g) w A := fun ad ea => by
  rcases h.2 with ⟨e0, _⟩ | ⟨g, cap, cur, e0, hg, hh, _⟩
  · injection e0 with e0 _ _
    rw [e0] at ea; cases ea
  · injection e0 with e0 _ _
    rw [e0] at ea
    injection ea with ea
    subst ea
    exact ⟨rfl, hg, lt_of_block hh, fun i => by simp [World.frozen?, hh]⟩

/-- New bytes, that read as l, and may be written to. -/
def GivesF (w : World) (l : List Int) (e : Ending) (w' : World) : Prop :=
  ∃ A c, e = .returned (.slice A l.length c) ∧ l.length ≤ c ∧ Row (fun g => w.heap.size ≤ g) w' A (u8s l) ∧ FreeA (fun g => w.heap.size ≤ g) w' A ∧ Below w.heap.size w w'

set_option maxRecDepth 100000 in
set_option maxHeartbeats 400000 in
theorem rcutF_any (S : Nat → Prop) (A : Option Addr) (c n : Nat) (l : List Int) (w : World) (hrow : Row S w A (u8s l)) (hc : l.length ≤ c) (hl : l.length ≤ 9223372036854775807) (hn : n ≤ 70368744177664) :
    Calls Try.prog 30 #[.slice A l.length c, .int .i64 (n : Int)] w fun e w' => GivesF w (l.take n) e w' := by
  obtain ⟨i0, hi, hz0, hz1, hz2⟩ := info_parts Try.info5
  have h0 : (w.alloc (.cells #[] 5)).ownsRow w.heap.size 5 1 (.slice (some ⟨w.heap.size, 0, none⟩) 0 0) 0 [] := World.ownsRow_lit w #[] 0 (Nat.le_refl _) (by decide) rfl
  have hrow1 := (hrow.alloc (.cells #[] 5)).take n
  have htl : ((u8s l).take n).length = min n l.length := by rw [List.length_take, u8s_len]
  have hut : (u8s l).take n = u8s (l.take n) := by simp [u8s]
  rw [hut] at hrow1 htl
  have h1c := u8s_one (l.take n)
  unfold GivesF
  have hlen := u8s_len (l.take n)
  generalize l.take n = ls at *
  generalize u8s ls = ys at *
  have fin : ∀ (v' : Value) (w' : World), w'.ownsRow w.heap.size 5 1 v' ys.length ys → (w.alloc (.cells #[] 5)).grownBy w' (some w.heap.size) →
      ∃ A c, Ending.returned v' = .returned (.slice A ls.length c) ∧ ls.length ≤ c ∧ Row (fun g => w.heap.size ≤ g) w' A ys ∧ FreeA (fun g => w.heap.size ≤ g) w' A ∧ Below w.heap.size w w' := by
    intro v' w' hown hgrow
    rw [hlen] at hown
    obtain ⟨A', c', rfl, hc', _, hr'⟩ := Row.of_own hown
    exact ⟨A', c', rfl, hc', hr'.mono fun g _ h => h.1, freeA_own hown, ((Below.refl _ _).alloc (Nat.le_refl _) _).grown hgrow (by simp) (fun k e => by injection e with e; omega)⟩
  have FIN := Lib.hid fin
  clear hut hlen fin
  have hm : ys.length = (min (l.length : Int) (n : Int)).toNat := by omega
  have HM := Lib.hid hm
  clear htl hm
  go_enter Try.func30, Try.ntmps30
  go_wp2_with (at_builtin; refine wpList_append_row _ rfl (.tmp 5) (.tmp 11) 41 rfl w.heap.size 5 i0 (.int .u8 0) 1 Try.underlying41 hi hz0 hz1 hz2 rfl _ 0 [] rfl h0 S A (min (l.length : Int) (n : Int)).toNat c ys rfl HM.out hrow1 h1c ?c3 ?c4 ?c5 ?_; rotate_right; intro A' c' w' hown hgrow hat)
  case c3 => unfold maxLen; omega
  case c4 => omega
  case c5 => simp
  go_ret
  rw [Nat.zero_add] at hown
  exact FIN.out _ w' (by rw [HM.out]; exact hown) hgrow

end Go.Proofs.Ytchedflfinkppaa
