/-
  Where the law Needs stands behind some cuts.
-/
import Derived.Test.YtdfmgfclcbeeiaaGLaw1
namespace Go.Proofs.Ytdfmgfclcbeeiaa
open Go.RowKit Go.Maps Go.Sort
set_option linter.unusedSimpArgs false
set_option linter.unusedVariables false

structure CutS (w0 : World) (B b mb x : Nat) (N : List Int) (E : List Edg) (wr : World) : Prop where
  g : ∃ f, GS wr B b mb N f 120 ∧ Kd f ∧ (∀ a c, f a c = f c a) ∧ (∀ a c, fE E a c = 2 → f a c = 2) ∧ (∀ a c, f a c ≠ 0 → fE E a c ≠ 0)
  r : RS wr B x N E
  good : GoodE N E
  rise : N.Pairwise (fun x y => x < y)
  u64 : ∀ z ∈ N, U64 z
  nl : N.length ≤ 60
  el : E.length ≤ 60
  low : w0.heap.size ≤ B
  lo2 : B ≤ wr.heap.size
  below : Below w0.heap.size w0 wr
theorem TwoS.cutS {w0 wr : World} {B b mb x : Nat} {N : List Int} {E : List Edg} (h : TwoS w0 B b mb x 60 N E wr) : CutS w0 B b mb x N E wr :=
  ⟨⟨fE E, h.g, fE_kd E, fE_sym E, fun a c h => h, fun a c h => h⟩, h.r, h.good, h.rise, h.u64, h.nl, h.el, h.low, h.lo2, h.below⟩
section
variable {w0 wr W : World} {B b mb x : Nat} {N : List Int} {E : List Edg} {a c : Int}
theorem CutS.go (h : CutS w0 B b mb x N E wr) (hW : Below wr.heap.size wr W) : CutS w0 B b mb x N E W :=
  ⟨let ⟨f, h1, h2⟩ := h.g; ⟨f, h1.below hW, h2⟩, h.r.below hW, h.good, h.rise, h.u64, h.nl, h.el, h.low, Nat.le_trans h.lo2 hW.size, h.below.trans (hW.mono h.below.size)⟩
theorem CutS.cut (h : CutS w0 B b mb x N E wr) (hW : Below wr.heap.size wr W) (ha : U64 a) (hc : U64 c) :
    Calls Try.prog 24 #[.pointer (some ⟨b, 0, none⟩), .int .u64 a, .int .u64 c] W fun e w' => (∃ r : Int, e = .returned (.int .i64 r)) ∧ CutS w0 B b mb x N E w' := by
  have h' := h.go hW
  obtain ⟨f, ⟨n, D, nb, h1, h2, h3⟩, k1, k2, k3, k4⟩ := h'.g
  refine (cut_any h1 k1 ha hc).mono ?_
  rintro e w' ⟨rfl, ho⟩
  refine ⟨⟨_, rfl⟩, ?_⟩
  by_cases h0 : cutE nb f a c = 0
  · obtain ⟨q1, q2⟩ := ho.1 h0
    have hf : f a c = 1 := by
      unfold cutE at h0
      by_cases he : endsE nb a c = 0
      · rw [if_pos he] at h0
        by_cases hf : f a c = 1
        · exact hf
        · rw [if_neg hf] at h0
          split at h0 <;> omega
      · rw [if_neg he] at h0; exact absurd h0 he
    have hck := Kept.ck h1 q2
    refine ⟨⟨_, ⟨n, D, nb, q1, h2, h3⟩, k1.both a c (.inl rfl), fun u v => ?_, fun u v huv => ?_, fun u v huv => ?_⟩, h'.r.ck hck, h.good, h.rise, h.u64, h.nl, h.el, h.low, by have := hck.below.size; have := h'.lo2; omega, h'.below.trans (hck.below.mono h.low)⟩
    · rw [both_at, both_at]
      by_cases hc : (u = a ∧ v = c) ∨ (u = c ∧ v = a)
      · rw [if_pos hc, if_pos (by omega)]
      · rw [if_neg hc, if_neg (by omega), k2]
    · rw [both_at]
      have hne : ¬ ((u = a ∧ v = c) ∨ (u = c ∧ v = a)) := by
        rintro (⟨rfl, rfl⟩ | ⟨rfl, rfl⟩)
        · have := k3 _ _ huv; omega
        · have := k3 _ _ huv; rw [k2] at this; omega
      rw [if_neg hne]
      exact k3 u v huv
    · rw [both_at] at huv
      split at huv
      · exact absurd rfl huv
      · exact k4 u v huv
  · rw [ho.2 h0]
    exact h'
theorem CutS.reach (h : CutS w0 B b mb x N E wr) (hW : Below wr.heap.size wr W) (ha : U64 a) : ∃ f : Int → Int → Int, (∀ p q, RE E true p q → f p q ≠ 0) ∧ Calls Try.prog 17 #[.pointer (some ⟨b, 0, none⟩), .int .u64 a] W (RowK W fun z => a ∈ N ∧ Way (fun p q => f p q ≠ 0) a z) := by
  have h' := h.go hW
  obtain ⟨f, h1, k1, k2, k3, k4⟩ := h'.g
  have hin : ∀ p q, f p q ≠ 0 → q ∈ N := fun p q hh => (fE_nodes h.good (k4 p q hh)).2.1
  refine ⟨f, fun p q ⟨e, he, hn, hl⟩ => ?_, (h1.reach (by omega) (by have := h.nl; omega) hin ha).mono fun _ _ hh => hh.row (N := N) (fun y hy => hy.2.closed (fun z => z ∈ N) hy.1 fun _ _ _ hr => hin _ _ hr) (by have := h.nl; omega)⟩
  have := k3 p q ((fE_two h.good).2 ⟨e, he, hl, hn rfl⟩)
  omega
/-- what the document reaches over needed edges -/
theorem CutS.dreach (h : CutS w0 B b mb x N E wr) (hW : Below wr.heap.size wr W) (ha : a ∈ N) :
    Calls Try.prog 18 #[.pointer (some ⟨x, 0, none⟩), .int .u64 a, .bool true] W fun e w' => ∃ (A : Option Addr) (c m : Nat) (zs : List Int), e = .returned (.slice A m c) ∧ zs.length = m ∧ m ≤ 60 ∧ Row w' A (us zs) ∧ (∀ z ∈ zs, Way (RE E true) a z) ∧ Below W.heap.size W w' := by
  have h' := h.go hW
  obtain ⟨vN, vE, hr⟩ := h'.r
  refine (rreach_any hr h'.lo2 (by have := h.nl; omega) (by have := h.el; omega) true).mono ?_
  rw [if_pos (hasN_iff.2 ha)]
  rintro e w' ⟨A, c, rfl, ho, hb⟩
  obtain ⟨A', c', e', _, hrow⟩ := Row.of_own ho
  injection e' with e1 _ e3
  subst e1 e3
  have hri := roundsL_rise h.good (h.rise.imp fun h => by omega) true ha
  exact ⟨A, c, _, _, rfl, rfl, Nat.le_trans (rise_short hri fun y hy => hy.closed (fun z => z ∈ N) ha fun _ _ _ ⟨e, he, _, hl⟩ => by
    have h1 := h.good.lt e he
    have h2 := h.good.mem e he
    rcases (lnk_or h1).1 hl with ⟨rfl, rfl⟩ | ⟨rfl, rfl⟩
    · exact h2.2
    · exact h2.1) h.nl, hrow, fun z hz => (hri.2 z).1 hz, hb⟩
end

end Go.Proofs.Ytdfmgfclcbeeiaa
