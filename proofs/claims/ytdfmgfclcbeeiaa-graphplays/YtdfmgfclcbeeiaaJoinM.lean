/-
  What an edge joins.
-/
import Derived.Test.YtdfmgfclcbeeiaaGLaw1
namespace Go.Proofs.Ytdfmgfclcbeeiaa
open Go.RowKit Go.Maps Go.Sort
set_option linter.unusedSimpArgs false
set_option linter.unusedVariables false

/-- f' has one edge more than f -/
def OneMore (f f' : Int → Int → Int) (a b : Int) : Prop := ∀ u v, f' u v ≠ 0 ↔ f u v ≠ 0 ∨ (u = a ∧ v = b) ∨ (u = b ∧ v = a)

theorem bind_one {N : List Int} {E : List Edg} {a b : Int} (h0 : endsR N a b = 0) : (bindR N E a b = 0 ∨ bindR N E a b = 7) ∧ OneMore (fE E) (if bindR N E a b = 0 then both (fE E) a b 2 else fE E) a b := by
  unfold bindR
  rw [if_pos h0]
  by_cases h2 : fE E a b = 2
  · rw [if_pos h2]
    refine ⟨.inr rfl, fun u v => ?_⟩
    rw [if_neg (by decide)]
    constructor
    · exact .inl
    · rintro (h | ⟨rfl, rfl⟩ | ⟨rfl, rfl⟩)
      · exact h
      · omega
      · rw [fE_sym]; omega
  · rw [if_neg h2]
    refine ⟨.inl rfl, fun u v => ?_⟩
    rw [if_pos rfl, both_at]
    by_cases hc : (u = a ∧ v = b) ∨ (u = b ∧ v = a)
    · rw [if_pos hc]
      exact ⟨fun _ => .inr hc, fun _ => by decide⟩
    · rw [if_neg hc]
      exact ⟨.inl, fun h => h.resolve_right hc⟩

section
variable {f f' : Int → Int → Int} {a b : Int}
theorem OneMore.left (h : OneMore f f' a b) {z : Int} (hw : Way (fun u v => f u v ≠ 0) a z) : Way (fun u v => f' u v ≠ 0) a z := hw.mono fun u v hh => (h u v).2 (.inl hh)
theorem OneMore.right (h : OneMore f f' a b) {z : Int} (hw : Way (fun u v => f u v ≠ 0) b z) : Way (fun u v => f' u v ≠ 0) a z :=
  (Way.one (R := fun u v => f' u v ≠ 0) ((h a b).2 (.inr (.inl ⟨rfl, rfl⟩)))).trans (hw.mono fun u v hh => (h u v).2 (.inl hh))
theorem OneMore.one (h : OneMore f f' a b) {z : Int} (hw : Way (fun u v => f' u v ≠ 0) a z) : Way (fun u v => f u v ≠ 0) a z ∨ Way (fun u v => f u v ≠ 0) b z :=
  hw.closed (fun z => Way (fun u v => f u v ≠ 0) a z ∨ Way (fun u v => f u v ≠ 0) b z) (.inl .here) fun u v hu huv => by
    rcases (h u v).1 huv with h1 | ⟨_, rfl⟩ | ⟨_, rfl⟩
    · exact hu.imp (fun q => .step q h1) (fun q => .step q h1)
    · exact .inr .here
    · exact .inl .here
theorem OneMore.same (h : OneMore f f' a b) (z : Int) : Way (fun u v => f' u v ≠ 0) a z ↔ Way (fun u v => f' u v ≠ 0) b z :=
  ⟨fun hw => (Way.one (R := fun u v => f' u v ≠ 0) ((h b a).2 (.inr (.inr ⟨rfl, rfl⟩)))).trans hw, fun hw => (Way.one (R := fun u v => f' u v ≠ 0) ((h a b).2 (.inr (.inl ⟨rfl, rfl⟩)))).trans hw⟩
end

theorem Gr.grown31 {w w' : World} {B b mb n : Nat} {D : DataW Unit} {nb : Int → Option Nat} {f : Int → Int → Int} (h : Gr w B b mb n D nb f) {row : Option Nat} (hg : w.grownBy w' row) (hr : ∀ g, row = some g → ∃ cs fr, w.heap[g]? = some (Obj.cells cs 31 fr)) : Gr w' B b mb n D nb f where
  blk := by
    have hb : w.heap[b]? = some (.cells #[.map (some mb)] 57 (0, 0)) := h.blk
    refine (hg.block b h.blk.lt fun e => ?_).trans hb
    obtain ⟨cs, fr, hc⟩ := hr b e.symm
    rw [hb] at hc
    injection hc with hc
    injection hc with _ hc _
    cases hc
  map := h.map.kept hg (fun e => by
    obtain ⟨cs, fr, hc⟩ := hr mb e.symm
    exact (h.not_map hc).1 rfl)
  mem := h.mem
  look := h.look
  inn x m hm := by
    obtain ⟨D', hI⟩ := h.inn x m hm
    refine ⟨D', hI.map.kept hg (fun e => ?_), hI.mem, hI.look⟩
    obtain ⟨cs, fr, hc⟩ := hr m e.symm
    exact (h.not_map hc).2 x hm
  non := h.non
  apart := h.apart
  new := h.new
theorem GS.grown31 {w w' : World} {B b mb L : Nat} {N : List Int} {f : Int → Int → Int} (h : GS w B b mb N f L) {v : Value} {B' n : Nat} {xs : List Value} (ho : w.ownsRow B' 31 1 v n xs) (hg : w.grownBy w' v.ownBlock) : GS w' B b mb N f L := by
  obtain ⟨n, D, nb, h1, h2, h3⟩ := h
  refine ⟨n, D, nb, h1.grown31 hg (fun g e => ?_), h2, h3⟩
  obtain ⟨cur, hc⟩ := own_type ho e
  exact ⟨cur, (0, 0), hc⟩

/-- what is reached, as a row, when the edges lie among N -/
theorem GS.rows {w : World} {B b mb L : Nat} {N : List Int} {f : Int → Int → Int} (h : GS w B b mb N f L) (hL : L ≤ 1000) (hN : N.length ≤ 1000) (hf : ∀ a c, f a c ≠ 0 → c ∈ N) {y : Int} (hy : U64 y) : Calls Try.prog 17 #[.pointer (some ⟨b, 0, none⟩), .int .u64 y] w (RowK w fun z => y ∈ N ∧ Way (fun a c => f a c ≠ 0) y z) :=
  (h.reach (by omega) (by omega) hf hy).mono fun _ _ hh => hh.row (N := N) (fun y hy => hy.2.closed (fun z => z ∈ N) hy.1 fun _ _ _ hr => hf _ _ hr) hN
theorem GS.krow {w : World} {B b mb L : Nat} {N : List Int} {f : Int → Int → Int} (h : GS w B b mb N f L) (hL : L ≤ 1000) (hN : N.length ≤ 1000) : Calls Try.prog 21 #[.pointer (some ⟨b, 0, none⟩)] w (RowK w fun z => z ∈ N) :=
  (h.keys (by omega)).mono fun _ _ hh => hh.row (N := N) (fun y hy => hy) hN
theorem rise_none {p : Int → Prop} {zs : List Int} (h : Rise p zs) (hp : ∀ z, ¬ p z) : zs.length = 0 := by
  cases zs with
  | nil => rfl
  | cons z zs => exact absurd ((h.2 z).1 (by simp)) (hp z)
theorem rise_single {p : Int → Prop} {zs : List Int} (h : Rise p zs) {y : Int} (hp : ∀ z, p z ↔ z = y) : zs.length = 1 := rise_len (ys := [y]) h (by simp) fun z => by rw [hp z]; simp

end Go.Proofs.Ytdfmgfclcbeeiaa
