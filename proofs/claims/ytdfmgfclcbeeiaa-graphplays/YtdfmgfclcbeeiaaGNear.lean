/-
  The contracts of Near and Keys.
-/
import Derived.Test.YtdfmgfclcbeeiaaGr
namespace Go.Proofs.Ytdfmgfclcbeeiaa
open Go.RowKit Go.Maps
set_option linter.unusedSimpArgs false
set_option linter.unusedVariables false

/-- xs are all y with p y, rising -/
def Rise (p : Int → Prop) (xs : List Int) : Prop := xs.Pairwise (fun x y => x < y) ∧ ∀ y, y ∈ xs ↔ p y

/-- a new row of keys, all y with p y -/
def GivesK (w : World) (p : Int → Prop) (e : Ending) (w' : World) : Prop :=
  ∃ (v : Value) (xs : List Int), e = .returned v ∧ w'.ownsRow w.heap.size 31 1 v xs.length (xs.map encU) ∧ (v = .slice none 0 0 ↔ xs = []) ∧ Below w.heap.size w w' ∧ Rise p xs

theorem GivesK.none (w w' : World) (p : Int → Prop) (hp : ∀ y, ¬ p y) (hB : Below w.heap.size w w') : GivesK w p (.returned (.slice none 0 0)) w' :=
  ⟨_, [], rfl, ⟨rfl, .inl ⟨rfl, rfl⟩⟩, by simp, hB, List.Pairwise.nil, fun y => by simp [hp y]⟩

theorem upU_len (xs : List Int) : (upU xs).length = xs.length := (upU_perm xs).length_eq
theorem upU_nil (xs : List Int) : upU xs = [] ↔ xs = [] := by
  rw [← List.length_eq_zero_iff, upU_len, List.length_eq_zero_iff]

section
variable {w : World} {B b mb n : Nat} {D : DataW Unit} {nb : Int → Option Nat} {f : Int → Int → Int} {x y : Int}

set_option maxRecDepth 100000 in
set_option maxHeartbeats 1000000 in
theorem near_any (h : Gr w B b mb n D nb f) (hx : U64 x) (hn : n ≤ 17592186044416) : Calls Try.prog 14 #[.pointer (some ⟨b, 0, none⟩), .int .u64 x] w (GivesK w fun y => f x y ≠ 0) := by
  have hc := h.blk.cell
  cases hnb : nb x with
  | none =>
    have hl := h.miss hx hnb
    have HK := Lib.hid (keys33 none w)
    have HS := Lib.hid (sortedN42 w)
    have HZ := Lib.hid (h.non x hnb)
    clear h
    go_enter Try.func14, Try.ntmps14
    go_wp2_with fail
    refine (HK.out).mono ?_
    rintro e w' ⟨rfl, rfl⟩
    go_wp2_with fail
    refine (HS.out).mono ?_
    rintro e w' ⟨rfl, hB⟩
    have HB := Lib.hid hB
    clear hB
    go_wp2_with fail
    go_ret
    exact GivesK.none w w' _ (fun y => by rw [HZ.out y]; simp) HB.out
  | some m =>
    have hl := h.hit hnb
    obtain ⟨D', hI⟩ := h.inn x m hnb
    have HK := Lib.hid (keys33 (some m) w)
    have HS := Lib.hid (sorted42 m n D' w hI.map (Nat.le_trans hI.map.size_le hn))
    have HI := Lib.hid hI
    clear h hI
    go_enter Try.func14, Try.ntmps14
    go_wp2_with fail
    refine (HK.out).mono ?_
    rintro e w' ⟨rfl, rfl⟩
    go_wp2_with fail
    refine (HS.out).mono ?_
    rintro e w' ⟨v, xs, rfl, hA, hr, hnl, hB⟩
    have HR := Lib.hid (And.intro hA (And.intro hr (And.intro hnl hB)))
    clear hA hr hnl hB
    go_wp2_with fail
    go_ret
    obtain ⟨⟨hA, _⟩, hr, hnl, hB⟩ := HR.out
    obtain ⟨k1, k2⟩ := upU_keys hA
    exact ⟨v, upU xs, rfl, by rw [upU_len]; exact hr, by rw [upU_nil]; exact hnl, hB, k1, fun y => by rw [k2 y]; exact HI.out.mem y⟩

set_option maxRecDepth 100000 in
set_option maxHeartbeats 1000000 in
theorem near_nil (w : World) (x : Int) : Calls Try.prog 14 #[.pointer none, .int .u64 x] w fun e w' => e = .returned (.slice none 0 0) ∧ w' = w := by
  go_enter Try.func14, Try.ntmps14
  go_wp2_with fail
  go_ret
  exact ⟨rfl, rfl⟩

set_option maxRecDepth 100000 in
set_option maxHeartbeats 1000000 in
theorem keys_any (h : Gr w B b mb n D nb f) (hn : n ≤ 17592186044416) : Calls Try.prog 21 #[.pointer (some ⟨b, 0, none⟩)] w (GivesK w fun y => (nb y).isSome = true) := by
  have hc := h.blk.cell
  have HK := Lib.hid (keys37 (some mb) w)
  have HS := Lib.hid (sorted46 mb n D w h.map (Nat.le_trans h.map.size_le hn))
  have HI := Lib.hid h
  clear h
  go_enter Try.func21, Try.ntmps21
  go_wp2_with fail
  refine (HK.out).mono ?_
  rintro e w' ⟨rfl, rfl⟩
  go_wp2_with fail
  refine (HS.out).mono ?_
  rintro e w' ⟨v, xs, rfl, hA, hr, hnl, hB⟩
  have HR := Lib.hid (And.intro hA (And.intro hr (And.intro hnl hB)))
  clear hA hr hnl hB
  go_wp2_with fail
  go_ret
  obtain ⟨⟨hA, _⟩, hr, hnl, hB⟩ := HR.out
  obtain ⟨k1, k2⟩ := upU_keys hA
  exact ⟨v, upU xs, rfl, by rw [upU_len]; exact hr, by rw [upU_nil]; exact hnl, hB, k1, fun y => by rw [k2 y]; exact HI.out.mem y⟩

set_option maxRecDepth 100000 in
set_option maxHeartbeats 1000000 in
theorem keys_nil (w : World) : Calls Try.prog 21 #[.pointer none] w fun e w' => e = .returned (.slice none 0 0) ∧ w' = w := by
  go_enter Try.func21, Try.ntmps21
  go_wp2_with fail
  go_ret
  exact ⟨rfl, rfl⟩
end

end Go.Proofs.Ytdfmgfclcbeeiaa
