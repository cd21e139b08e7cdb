/-
  What a law hears of a graph, as rows.
-/
import Derived.Test.YtdfmgfclcbeeiaaGLaw0
namespace Go.Proofs.Ytdfmgfclcbeeiaa
open Go.RowKit Go.Maps Go.Sort
set_option linter.unusedSimpArgs false
set_option linter.unusedVariables false

/-- a row of keys, all with p -/
def RowK (w : World) (p : Int → Prop) (e : Ending) (w' : World) : Prop :=
  ∃ (A : Option Addr) (c m : Nat) (zs : List Int), e = .returned (.slice A m c) ∧ zs.length = m ∧ m ≤ c ∧ m ≤ 1000 ∧ Row w' A (us zs) ∧ Rise p zs ∧ w'.ownsRow w.heap.size 31 1 (.slice A m c) m (us zs) ∧ Below w.heap.size w w'
theorem rise_short {p : Int → Prop} {zs N : List Int} (h : Rise p zs) (hp : ∀ y, p y → y ∈ N) : zs.length ≤ N.length :=
  nodup_le zs N (h.1.imp fun h => by omega) fun y hy => hp y ((h.2 y).1 hy)
theorem GivesK.row {w w' : World} {p : Int → Prop} {e : Ending} {N : List Int} (h : GivesK w p e w') (hp : ∀ y, p y → y ∈ N) (hN : N.length ≤ 1000) : RowK w p e w' := by
  obtain ⟨v, zs, rfl, hrow, _, hb, hri⟩ := h
  obtain ⟨A, c, rfl, hc, hr⟩ := Row.of_own hrow
  exact ⟨A, c, _, zs, rfl, rfl, hc, Nat.le_trans (rise_short hri hp) hN, hr, hri, hrow, hb⟩

section
variable {w0 wr W : World} {B b mb x L : Nat} {N : List Int} {E : List Edg} {a c : Int}
theorem TwoS.near (h : TwoS w0 B b mb x L N E wr) (hL : L ≤ 1000) (hW : Below wr.heap.size wr W) (ha : U64 a) : Calls Try.prog 14 #[.pointer (some ⟨b, 0, none⟩), .int .u64 a] W (RowK W fun z => fE E a z ≠ 0) :=
  (((h.go hW).g).near (by omega) ha).mono fun _ _ hh => hh.row (N := N) (fun y hy => (fE_nodes h.good hy).2.1) (Nat.le_trans h.nl hL)
theorem TwoS.soft (h : TwoS w0 B b mb x L N E wr) (hL : L ≤ 1000) (hW : Below wr.heap.size wr W) (ha : U64 a) : Calls Try.prog 16 #[.pointer (some ⟨b, 0, none⟩), .int .u64 a] W (RowK W fun z => fE E a z = 1) :=
  (((h.go hW).g).soft (by omega) ha).mono fun _ _ hh => hh.row (N := N) (fun y hy => (fE_nodes h.good (show fE E a y ≠ 0 by rw [hy]; decide)).2.1) (Nat.le_trans h.nl hL)
theorem TwoS.keys (h : TwoS w0 B b mb x L N E wr) (hL : L ≤ 1000) (hW : Below wr.heap.size wr W) : Calls Try.prog 21 #[.pointer (some ⟨b, 0, none⟩)] W (RowK W fun z => z ∈ N) :=
  (((h.go hW).g).keys (by omega)).mono fun _ _ hh => hh.row (N := N) (fun y hy => hy) (Nat.le_trans h.nl hL)
theorem reach_in (hG : GoodE N E) {k z : Int} (hk : k ∈ N) (h : Way (fun a c => fE E a c ≠ 0) k z) : z ∈ N := h.closed (fun z => z ∈ N) hk fun _ _ _ hr => (fE_nodes hG hr).2.1
theorem TwoS.reach (h : TwoS w0 B b mb x L N E wr) (hL : L ≤ 1000) (hW : Below wr.heap.size wr W) (ha : U64 a) : Calls Try.prog 17 #[.pointer (some ⟨b, 0, none⟩), .int .u64 a] W (RowK W fun z => a ∈ N ∧ Way (fun p q => fE E p q ≠ 0) a z) :=
  (((h.go hW).g).reach (by omega) (by have := h.nl; omega) (fun p q hh => (fE_nodes h.good hh).2.1) ha).mono fun _ _ hh => hh.row (N := N) (fun y hy => reach_in h.good hy.1 hy.2) (Nat.le_trans h.nl hL)
theorem keys_eq {zs : List Int} (h : TwoS w0 B b mb x L N E wr) (hr : Rise (fun z => z ∈ N) zs) : zs = N := rise_one hr ⟨h.rise, fun y => Iff.rfl⟩
theorem rise_has {p : Int → Prop} {zs : List Int} (h : Rise p zs) {y : Int} (hy : p y) : hasN zs y = true := hasN_iff.2 ((h.2 y).2 hy)
theorem rise_eqv {p q : Int → Prop} {zs ys : List Int} (h : Rise p zs) (k : Rise q ys) {y z : Int} (hyz : p y ↔ q z) : hasN zs y = hasN ys z := by
  cases h1 : hasN ys z with
  | true => exact hasN_iff.2 ((h.2 y).2 (hyz.2 ((k.2 z).1 (hasN_iff.1 h1))))
  | false => exact hasN_not.2 fun hm => (hasN_not.1 h1) ((k.2 z).2 (hyz.1 ((h.2 y).1 hm)))
theorem getD_mem {l : List Int} {k : Nat} (h : k < l.length) : l.getD k 0 ∈ l := by simp [List.getD, h]
end

end Go.Proofs.Ytdfmgfclcbeeiaa
