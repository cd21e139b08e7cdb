/-
  A graph in memory. The contracts of Has and ends.
-/
import Derived.Test.YtdfmgfclcbeeiaaGMap
import Derived.RangeFuncBox
import Derived.WalkSpells
namespace Go.Proofs.Ytdfmgfclcbeeiaa
open Go.RowKit Go.Maps
set_option linter.unusedSimpArgs false
set_option linter.unusedVariables false

/-- a node's map: f x is the kind of the edge to x, 0 where there is none -/
structure Inn (w : World) (m n : Nat) (f : Int → Int) (D : DataW Unit) : Prop where
  map : w.ownsMap Try.prog 31 (plainElem Try.prog 65) m n D
  mem : ∀ x, has D (litU x) = true ↔ f x ≠ 0
  look : ∀ x, D.atKey (litU x) (kindD 0) = kindD (f x)

/-- a graph: nb x is the block of x's map, f x y the kind of the edge from x to y -/
structure Gr (w : World) (B b mb n : Nat) (D : DataW Unit) (nb : Int → Option Nat) (f : Int → Int → Int) : Prop where
  blk : Boxed w b 57 (.map (some mb))
  map : w.ownsMap Try.prog 31 rdM mb n D
  mem : ∀ x, has D (litU x) = true ↔ (nb x).isSome = true
  look : ∀ x m, nb x = some m → U64 x ∧ D.atKey (litU x) noneM = .lit (.int .i64 (m : Int))
  inn : ∀ x m, nb x = some m → ∃ D', Inn w m n (f x) D'
  non : ∀ x, nb x = Option.none → ∀ y, f x y = 0
  apart : ∀ x y m, nb x = some m → nb y = some m → x = y
  new : B ≤ b ∧ B ≤ mb ∧ ∀ x m, nb x = some m → B ≤ m ∧ m ≠ mb

section
variable {w : World} {B b mb n : Nat} {D : DataW Unit} {nb : Int → Option Nat} {f : Int → Int → Int} {x y : Int}

theorem Gr.hit {m : Nat} (h : Gr w B b mb n D nb f) (hm : nb x = some m) : (Instr.lookup 55 (.map (some mb)) (.int .u64 x) false).run Try.prog w = .ok (.map (some m)) w :=
  outer_hit h.map (h.look x m hm).1 (h.look x m hm).2

theorem Gr.miss (h : Gr w B b mb n D nb f) (hx : U64 x) (hm : nb x = Option.none) : (Instr.lookup 55 (.map (some mb)) (.int .u64 x) false).run Try.prog w = .ok (.map none) w :=
  outer_miss h.map hx (by
    cases hh : has D (litU x) with
    | false => rfl
    | true => have := (h.mem x).1 hh; rw [hm] at this; cases this)

set_option maxRecDepth 100000 in
set_option maxHeartbeats 1000000 in
theorem has_any (h : Gr w B b mb n D nb f) (hx : U64 x) : Calls Try.prog 19 #[.pointer (some ⟨b, 0, none⟩), .int .u64 x] w fun e w' => e = .returned (.bool (nb x).isSome) ∧ w' = w := by
  have hc := h.blk.cell
  have qT : ∀ (w : World) (r : Option Nat), (binOp .neq 64 (.map r) (.map none)).run Try.prog w = .ok (.bool (!r.isNone)) w := fun w r => run_neq_map_nil w _ _ _ r Try.underlying64
  cases hn : nb x with
  | none =>
    have hl := h.miss hx hn
    go_enter Try.func19, Try.ntmps19
    go_wp2_with fail
    go_ret
    exact ⟨rfl, rfl⟩
  | some m =>
    have hl := h.hit hn
    go_enter Try.func19, Try.ntmps19
    go_wp2_with fail
    go_ret
    exact ⟨rfl, rfl⟩

set_option maxRecDepth 100000 in
set_option maxHeartbeats 1000000 in
theorem has_nil (w : World) (x : Int) : Calls Try.prog 19 #[.pointer none, .int .u64 x] w fun e w' => e = .returned (.bool false) ∧ w' = w := by
  go_enter Try.func19, Try.ntmps19
  go_wp2_with fail
  go_ret
  exact ⟨rfl, rfl⟩

/-- what ends answers -/
def endsE (nb : Int → Option Nat) (x y : Int) : Int := if x = y then 1 else if (nb x).isSome && (nb y).isSome then 0 else 6

set_option maxRecDepth 100000 in
set_option maxHeartbeats 2000000 in
theorem ends_any (h : Gr w B b mb n D nb f) (hx : U64 x) (hy : U64 y) : Calls Try.prog 38 #[.pointer (some ⟨b, 0, none⟩), .int .u64 x, .int .u64 y] w fun e w' => e = .returned (.int .i64 (endsE nb x y)) ∧ w' = w := by
  have HX := Lib.hid (has_any h hx)
  have HY := Lib.hid (has_any h hy)
  by_cases hxy : x = y
  · subst hxy
    go_enter Try.func38, Try.ntmps38
    go_wp2_with fail
    go_ret
    exact ⟨by simp [endsE], rfl⟩
  · have e1 : (x == y) = false := by simp [hxy]
    cases h1 : (nb x).isSome <;> cases h2 : (nb y).isSome
    all_goals rw [h1] at HX
    all_goals rw [h2] at HY
    all_goals go_enter Try.func38, Try.ntmps38
    all_goals go_wp2_with (first | (go_at_call 19; refine Calls.mono (HX.out) ?_; rintro e w' ⟨rfl, rfl⟩; clear HX) | (go_at_call 19; refine Calls.mono (HY.out) ?_; rintro e w' ⟨rfl, rfl⟩))
    all_goals go_ret
    all_goals exact ⟨by simp [endsE, hxy, h1, h2], rfl⟩
end

end Go.Proofs.Ytdfmgfclcbeeiaa
