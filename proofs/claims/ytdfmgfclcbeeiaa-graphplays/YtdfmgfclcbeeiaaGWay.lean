/-
  Ways over edges, and lists without doubles.
-/
import Derived.Test.YtdfmgfclcbeeiaaGSoft
namespace Go.Proofs.Ytdfmgfclcbeeiaa
open Go.RowKit Go.Maps
set_option linter.unusedSimpArgs false
set_option linter.unusedVariables false

theorem nodup_le : ∀ (xs ys : List Int), xs.Nodup → (∀ x ∈ xs, x ∈ ys) → xs.length ≤ ys.length
  | [], ys, _, _ => Nat.zero_le _
  | x :: xs, ys, hn, hs => by
    have hx : x ∈ ys := hs x (by simp)
    have h1 := List.nodup_cons.1 hn
    have h2 := nodup_le xs (ys.erase x) h1.2 fun y hy => by
      have hne : y ≠ x := fun e => h1.1 (e ▸ hy)
      exact (List.mem_erase_of_ne hne).2 (hs y (by simp [hy]))
    have h3 := List.length_erase_of_mem hx
    have h4 : 0 < ys.length := List.length_pos_of_mem hx
    simp
    omega

/-- a way from a -/
inductive Way (R : Int → Int → Prop) (a : Int) : Int → Prop
  | here : Way R a a
  | step {y z : Int} : Way R a y → R y z → Way R a z

theorem Way.closed {R : Int → Int → Prop} {a z : Int} (h : Way R a z) (S : Int → Prop) (ha : S a) (hs : ∀ y z, S y → R y z → S z) : S z := by
  induction h with
  | here => exact ha
  | step _ hr ih => exact hs _ _ ih hr
theorem Way.trans {R : Int → Int → Prop} {a b c : Int} (h : Way R a b) (k : Way R b c) : Way R a c :=
  k.closed (fun z => Way R a z) h fun _ _ h1 h2 => .step h1 h2
theorem Way.one {R : Int → Int → Prop} {a b : Int} (h : R a b) : Way R a b := .step .here h
theorem Way.symm {R : Int → Int → Prop} (hR : ∀ x y, R x y → R y x) {a b : Int} (h : Way R a b) : Way R b a :=
  h.closed (fun z => Way R z a) .here fun _ _ h1 h2 => (Way.one (hR _ _ h2)).trans h1
theorem Way.mono {R R' : Int → Int → Prop} (hR : ∀ x y, R x y → R' x y) {a b : Int} (h : Way R a b) : Way R' a b :=
  h.closed (fun z => Way R' a z) .here fun _ _ h1 h2 => .step h1 (hR _ _ h2)

/-- rising lists with the same members are one -/
theorem rise_one {p : Int → Prop} : ∀ {xs ys : List Int}, Rise p xs → Rise p ys → xs = ys := by
  suffices h : ∀ (xs ys : List Int), xs.Pairwise (fun x y => x < y) → ys.Pairwise (fun x y => x < y) → (∀ y, y ∈ xs ↔ y ∈ ys) → xs = ys by
    intro xs ys h1 h2
    exact h xs ys h1.1 h2.1 fun y => (h1.2 y).trans (h2.2 y).symm
  intro xs
  induction xs with
  | nil =>
    intro ys _ _ h
    cases ys with
    | nil => rfl
    | cons y ys => have := (h y).2 (by simp); simp at this
  | cons x xs ih =>
    intro ys h1 h2 h
    cases ys with
    | nil => have := (h x).1 (by simp); simp at this
    | cons y ys =>
      have a1 := List.pairwise_cons.1 h1
      have a2 := List.pairwise_cons.1 h2
      have e : x = y := by
        rcases List.mem_cons.1 ((h x).1 (by simp)) with e | e
        · exact e
        · rcases List.mem_cons.1 ((h y).2 (by simp)) with e' | e'
          · exact e'.symm
          · have := a1.1 y e'; have := a2.1 x e; omega
      subst e
      rw [ih ys a1.2 a2.2 fun z => ?_]
      have hz := h z
      constructor
      · intro hm
        rcases List.mem_cons.1 (hz.1 (List.mem_cons_of_mem _ hm)) with e | e
        · subst e; have := a1.1 z hm; omega
        · exact e
      · intro hm
        rcases List.mem_cons.1 (hz.2 (List.mem_cons_of_mem _ hm)) with e | e
        · subst e; have := a2.1 z hm; omega
        · exact e

/-- what Reach keeps: what has been seen, and what of it is still to be gone through -/
structure Seen (R : Int → Int → Prop) (k : Int) (S : Int → Prop) (next : List Int) : Prop where
  key : S k
  way : ∀ x, S x → Way R k x
  sub : ∀ x ∈ next, S x
  done : ∀ x, S x → x ∉ next → ∀ y, R x y → S y

theorem Seen.all {R : Int → Int → Prop} {k : Int} {S : Int → Prop} (h : Seen R k S []) (x : Int) : S x ↔ Way R k x :=
  ⟨h.way x, fun hw => hw.closed S h.key fun y z hy hr => h.done y hy (by simp) z hr⟩

end Go.Proofs.Ytdfmgfclcbeeiaa
