/-
  The contracts of Bind, Link and Cut.
-/
import Derived.Test.YtdfmgfclcbeeiaaGAdd
namespace Go.Proofs.Ytdfmgfclcbeeiaa
open Go.RowKit Go.Maps
set_option linter.unusedSimpArgs false
set_option linter.unusedVariables false

/-- there are two kinds of edges -/
def Kd (f : Int → Int → Int) : Prop := ∀ x y, f x y = 0 ∨ f x y = 1 ∨ f x y = 2

theorem Kd.upd2 {f : Int → Int → Int} (h : Kd f) (x y : Int) {k : Int} (hk : k = 0 ∨ k = 1 ∨ k = 2) : Kd (upd2 f x y k) := fun a b => by
  unfold Ytdfmgfclcbeeiaa.upd2 upd
  by_cases h1 : a = x <;> by_cases h2 : b = y <;> simp [h1, h2, hk] <;> exact h _ _

theorem endsE_zero {nb : Int → Option Nat} {x y : Int} (h : endsE nb x y = 0) : x ≠ y ∧ (∃ m, nb x = some m) ∧ ∃ m, nb y = some m := by
  unfold endsE at h
  by_cases hxy : x = y
  · simp [hxy] at h
  · rw [if_neg hxy] at h
    cases hx : nb x <;> cases hy : nb y <;> simp [hx, hy] at h
    exact ⟨hxy, ⟨_, rfl⟩, ⟨_, rfl⟩⟩

/-- OK gives the one, an error the other -/
def Out (e : Int) (p q : Prop) : Prop := (e = 0 → p) ∧ (e ≠ 0 → q)
theorem Out.ok {e : Int} {p q : Prop} (h : e = 0) (hp : p) : Out e p q := ⟨fun _ => hp, fun h' => absurd h h'⟩
theorem Out.err {e : Int} {p q : Prop} (h : e ≠ 0) (hq : q) : Out e p q := ⟨fun h' => absurd h' h, fun _ => hq⟩

/-- an edge laid on both sides -/
def both (f : Int → Int → Int) (x y k : Int) : Int → Int → Int := upd2 (upd2 f x y k) y x k

section
variable {w : World} {B b mb m n : Nat} {D : DataW Unit} {nb : Int → Option Nat} {f : Int → Int → Int} {g : Int → Int} {x y k : Int}

theorem Gr.inner (h : Gr w B b mb n D nb f) {m : Nat} (hm : nb x = some m) (hy : U64 y) : (Instr.lookup 64 (.map (some m)) (.int .u64 y) false).run Try.prog w = .ok (.int .u8 (f x y)) w := by
  obtain ⟨D', hI⟩ := h.inn x m hm
  exact inner_at hI.map hy (hI.look y)

/-- what Bind answers -/
def bindE (nb : Int → Option Nat) (f : Int → Int → Int) (x y : Int) : Int := if endsE nb x y = 0 then (if f x y = 2 then 7 else 0) else endsE nb x y

set_option maxRecDepth 100000 in
set_option maxHeartbeats 2000000 in
theorem bind_any (h : Gr w B b mb n D nb f) (hK : Kd f) (hx : U64 x) (hy : U64 y) (hn : n + 1 < maxLen) :
    Calls Try.prog 25 #[.pointer (some ⟨b, 0, none⟩), .int .u64 x, .int .u64 y] w fun e w' => e = .returned (.int .i64 (bindE nb f x y)) ∧ Out (bindE nb f x y) (Gr w' B b mb (n + 2) D nb (both f x y 2) ∧ Kept B mb nb w w') (w' = w) := by
  have HE := Lib.hid (ends_any h hx hy)
  have hc := h.blk.cell
  by_cases hE : endsE nb x y = 0
  · obtain ⟨hxy, ⟨mx, hmx⟩, ⟨my, hmy⟩⟩ := endsE_zero hE
    have hl := h.hit hmx
    have hi := h.inner hmx hy
    have HJ := Lib.hid (join_any (k := 2) h hmx hmy (by decide) hn)
    rw [hE] at HE
    obtain ⟨F, hF⟩ : ∃ F, F = f x y := ⟨_, rfl⟩
    have hk := hK x y
    rw [← hF] at hi hk
    have HV : Hid (bindE nb f x y = if F = 2 then 7 else 0) := by show _ = _; unfold bindE; rw [if_pos hE, ← hF]
    clear h hF hmx hmy
    obtain ⟨V, hV⟩ : ∃ V, V = bindE nb f x y := ⟨_, rfl⟩
    rw [← hV] at HV ⊢
    clear hV
    rcases hk with rfl | rfl | rfl
    all_goals go_enter Try.func25, Try.ntmps25
    all_goals go_wp2_with fail
    all_goals refine (HE.out).mono ?_
    all_goals rintro e w' ⟨rfl, rfl⟩
    all_goals go_wp2_with (go_at_call 39; refine Calls.mono (HJ.out) ?_; rintro e w2 ⟨rfl, hG, hB⟩; have HG := Lib.hid (And.intro hG hB); clear hG hB)
    all_goals go_ret
    all_goals have hv := HV.out
    all_goals simp at hv
    all_goals subst hv
    all_goals first
      | exact ⟨rfl, Out.ok rfl HG.out⟩
      | exact ⟨rfl, Out.err (by decide) rfl⟩
  · have HV : Hid (bindE nb f x y = endsE nb x y) := by show _ = _; unfold bindE; rw [if_neg hE]
    rw [HV.out]
    obtain ⟨E, hEE⟩ : ∃ E, E = endsE nb x y := ⟨_, rfl⟩
    rw [← hEE] at hE HE ⊢
    have hE2 : (E == 0) = false := by simp [hE]
    clear h hEE HV
    go_enter Try.func25, Try.ntmps25
    go_wp2_with fail
    refine (HE.out).mono ?_
    rintro e w' ⟨rfl, rfl⟩
    go_wp2_with fail
    go_ret
    exact ⟨rfl, Out.err hE rfl⟩

/-- what Link answers -/
def linkE (nb : Int → Option Nat) (f : Int → Int → Int) (x y : Int) : Int := if endsE nb x y = 0 then (if f x y ≠ 0 then 7 else 0) else endsE nb x y

set_option maxRecDepth 100000 in
set_option maxHeartbeats 2000000 in
theorem link_any (h : Gr w B b mb n D nb f) (hK : Kd f) (hx : U64 x) (hy : U64 y) (hn : n + 1 < maxLen) :
    Calls Try.prog 27 #[.pointer (some ⟨b, 0, none⟩), .int .u64 x, .int .u64 y] w fun e w' => e = .returned (.int .i64 (linkE nb f x y)) ∧ Out (linkE nb f x y) (Gr w' B b mb (n + 2) D nb (both f x y 1) ∧ Kept B mb nb w w') (w' = w) := by
  have HE := Lib.hid (ends_any h hx hy)
  have hc := h.blk.cell
  by_cases hE : endsE nb x y = 0
  · obtain ⟨hxy, ⟨mx, hmx⟩, ⟨my, hmy⟩⟩ := endsE_zero hE
    have hl := h.hit hmx
    have hi := h.inner hmx hy
    have HJ := Lib.hid (join_any (k := 1) h hmx hmy (by decide) hn)
    rw [hE] at HE
    obtain ⟨F, hF⟩ : ∃ F, F = f x y := ⟨_, rfl⟩
    have hk := hK x y
    rw [← hF] at hi hk
    have HV : Hid (linkE nb f x y = if F ≠ 0 then 7 else 0) := by show _ = _; unfold linkE; rw [if_pos hE, ← hF]
    clear h hF hmx hmy
    obtain ⟨V, hV⟩ : ∃ V, V = linkE nb f x y := ⟨_, rfl⟩
    rw [← hV] at HV ⊢
    clear hV
    rcases hk with rfl | rfl | rfl
    all_goals go_enter Try.func27, Try.ntmps27
    all_goals go_wp2_with fail
    all_goals refine (HE.out).mono ?_
    all_goals rintro e w' ⟨rfl, rfl⟩
    all_goals go_wp2_with (go_at_call 39; refine Calls.mono (HJ.out) ?_; rintro e w2 ⟨rfl, hG, hB⟩; have HG := Lib.hid (And.intro hG hB); clear hG hB)
    all_goals go_ret
    all_goals have hv := HV.out
    all_goals simp at hv
    all_goals subst hv
    all_goals first
      | exact ⟨rfl, Out.ok rfl HG.out⟩
      | exact ⟨rfl, Out.err (by decide) rfl⟩
  · have HV : Hid (linkE nb f x y = endsE nb x y) := by show _ = _; unfold linkE; rw [if_neg hE]
    rw [HV.out]
    obtain ⟨E, hEE⟩ : ∃ E, E = endsE nb x y := ⟨_, rfl⟩
    rw [← hEE] at hE HE ⊢
    have hE2 : (E == 0) = false := by simp [hE]
    clear h hEE HV
    go_enter Try.func27, Try.ntmps27
    go_wp2_with fail
    refine (HE.out).mono ?_
    rintro e w' ⟨rfl, rfl⟩
    go_wp2_with fail
    go_ret
    exact ⟨rfl, Out.err hE rfl⟩

/-- what Cut answers -/
def cutE (nb : Int → Option Nat) (f : Int → Int → Int) (x y : Int) : Int := if endsE nb x y = 0 then (if f x y = 1 then 0 else if f x y = 2 then 10 else 6) else endsE nb x y

set_option maxRecDepth 100000 in
set_option maxHeartbeats 2000000 in
theorem cut_any (h : Gr w B b mb n D nb f) (hK : Kd f) (hx : U64 x) (hy : U64 y) :
    Calls Try.prog 24 #[.pointer (some ⟨b, 0, none⟩), .int .u64 x, .int .u64 y] w fun e w' => e = .returned (.int .i64 (cutE nb f x y)) ∧ Out (cutE nb f x y) (Gr w' B b mb n D nb (both f x y 0) ∧ Kept B mb nb w w') (w' = w) := by
  have HE := Lib.hid (ends_any h hx hy)
  have hc := h.blk.cell
  by_cases hE : endsE nb x y = 0
  · obtain ⟨hxy, ⟨mx, hmx⟩, ⟨my, hmy⟩⟩ := endsE_zero hE
    have hl := h.hit hmx
    have hi := h.inner hmx hy
    obtain ⟨w1, hrun1, hG1, hB1⟩ := h.cut hmx hy 0
    have hc1 := hG1.blk.cell
    have hl1 := hG1.hit hmy
    obtain ⟨w2, hrun2, hG2, hB2⟩ := hG1.cut hmy hx 0
    have HG := Lib.hid (And.intro hG2 (hB1.trans hB2))
    rw [hE] at HE
    obtain ⟨F, hF⟩ : ∃ F, F = f x y := ⟨_, rfl⟩
    have hk := hK x y
    rw [← hF] at hi hk
    have HV : Hid (cutE nb f x y = if F = 1 then 0 else if F = 2 then 10 else 6) := by show _ = _; unfold cutE; rw [if_pos hE, ← hF]
    clear h hF hmx hmy hG1 hG2 hB1 hB2
    obtain ⟨V, hV⟩ : ∃ V, V = cutE nb f x y := ⟨_, rfl⟩
    rw [← hV] at HV ⊢
    clear hV
    rcases hk with rfl | rfl | rfl
    all_goals go_enter Try.func24, Try.ntmps24
    all_goals go_wp2_with fail
    all_goals refine (HE.out).mono ?_
    all_goals rintro e w' ⟨rfl, rfl⟩
    all_goals go_wp2_with fail
    all_goals go_ret
    all_goals have hv := HV.out
    all_goals simp at hv
    all_goals subst hv
    all_goals first
      | exact ⟨rfl, Out.ok rfl HG.out⟩
      | exact ⟨rfl, Out.err (by decide) rfl⟩
  · have HV : Hid (cutE nb f x y = endsE nb x y) := by show _ = _; unfold cutE; rw [if_neg hE]
    rw [HV.out]
    obtain ⟨E, hEE⟩ : ∃ E, E = endsE nb x y := ⟨_, rfl⟩
    rw [← hEE] at hE HE ⊢
    have hE2 : (E == 0) = false := by simp [hE]
    clear h hEE HV
    go_enter Try.func24, Try.ntmps24
    go_wp2_with fail
    refine (HE.out).mono ?_
    rintro e w' ⟨rfl, rfl⟩
    go_wp2_with fail
    go_ret
    exact ⟨rfl, Out.err hE rfl⟩
end

end Go.Proofs.Ytdfmgfclcbeeiaa
