/-
  slices.Sorted at uint64.
-/
import Derived.Test.YtdfmgfclcbeeiaaSSeq
namespace Go.Proofs.Ytdfmgfclcbeeiaa
open Go.RowKit Go.Sort Go.Shelf
set_option linter.unusedSimpArgs false
set_option linter.unusedVariables false

section
variable {W w' : World} {g : Nat} {d' : Array Int}

theorem Ro.block (h : Ro W w' g 0 d') {cur : Array Value} {e : TypeId} {fr : Nat × Nat} (hb : W.heap[g]? = some (.cells cur e fr)) : w'.heap[g]? = some (.cells (putCells encU 0 d' cur) e fr) := by
  obtain ⟨n, os, rfl⟩ := h.mv
  rw [heap_grow_old _ _ (by simpa using h.lt)]
  simp [putRow, mapBlock, Sort.ahead, Array.getElem?_modify, hb, onCells]

theorem Ro.grown (h : Ro W w' g 0 d') : W.grownBy w' (some g) := by
  obtain ⟨n, os, rfl⟩ := h.mv
  refine ⟨rfl, rfl, rfl, by simp, fun k hk hne => ?_⟩
  rw [heap_grow_old _ _ (by simpa using hk)]
  have : g ≠ k := fun e => hne (by rw [e])
  simp [putRow, mapBlock, Sort.ahead, Array.getElem?_modify, this]

theorem Ro.own (h : Ro W w' g 0 d') {base cap : Nat} {cur : Array Value} (hb : W.heap[g]? = some (.cells cur 31 (0, 0))) (hbase : base ≤ g) (h1 : d'.size ≤ cap) (h2 : cap ≤ maxLen) (h3 : cur.size = cap * 1) :
    w'.ownsRow base 31 1 (.slice (some ⟨g, 0, none⟩) d'.size cap) d'.size (d'.toList.map encU) := by
  refine ⟨by simp, .inr ⟨g, cap, _, rfl, hbase, h.block hb, h1, h2, by simp [putCells, h3], ?_⟩⟩
  apply List.ext_getElem?
  intro j
  by_cases hj : j < d'.size
  · rw [Nat.mul_one, List.getElem?_take_of_lt hj, Array.getElem?_toList]
    simp [putCells, hj, show j < cur.size by omega]
  · rw [List.getElem?_take_eq_none (by omega), List.getElem?_eq_none (by simp; omega)]
end

theorem holds_row {w : World} {g : Nat} {cur : Array Value} {e : TypeId} {xs : List Int} (hb : w.heap[g]? = some (.cells cur e (0, 0))) (ht : cur.toList.take xs.length = xs.map encU) : Holds encU w g 0 xs.toArray := by
  intro j hj
  have hj' : j < xs.length := by simpa using hj
  refine ⟨?_, by simp [World.frozen?, hb]⟩
  have h1 : (cur.toList.take xs.length)[j]? = (xs.map encU)[j]? := by rw [ht]
  rw [List.getElem?_take_of_lt hj'] at h1
  simp only [World.cell?, hb, Nat.zero_add, Option.isSome_none, Bool.false_eq_true, if_false]
  rw [← Array.getElem?_toList, h1]
  simp [hj']

set_option maxRecDepth 100000 in
set_option maxHeartbeats 2000000 in
theorem sorted_any {g : Nat} {lb : Array Value} (eg : ∀ args w, (callFunc g args).run Try.prog w = .ok (.enter g args) w) {S Sp : List Int → Prop} {N : Nat} (hN : N ≤ 17592186044416) (w : World)
    (hseq : SeqStopsK Fence.wide 2 Try.prog g lb (fun x : Int => #[.int .u64 x]) KeepsWalks S Sp N w) :
    Calls Try.prog 32 #[.func (.func g) #[] lb] w fun e w' => ∃ (v : Value) (xs : List Int), e = .returned v ∧ (S xs ∧ xs.length ≤ N) ∧ w'.ownsRow w.heap.size 31 1 v xs.length ((upU xs).map encU) ∧ (v = .slice none 0 0 ↔ xs = []) ∧ Below w.heap.size w w' := by
  have HC := Lib.hid (collect_any eg hN w hseq)
  go_enter Try.func32, Try.ntmps32
  go_wp2_with fail
  refine (HC.out).mono ?_
  rintro e w1 ⟨v, xs, rfl, ⟨hS, hle⟩, hrow, hnil, hB⟩
  rcases hrow.2 with ⟨rfl, hz⟩ | ⟨gb, cap, cur, rfl, hbase, hgb, r1, r2, r3, r4⟩
  · have hxs : xs = [] := List.eq_nil_of_length_eq_zero hz
    subst hxs
    have HR : Hid (w1.ownsRow w.heap.size 31 1 (.slice none 0 0) ([] : List Int).length ((upU []).map encU)) := by show World.ownsRow _ _ _ _ _ _ _; simpa [upU] using hrow
    have HB := Lib.hid hB
    have HS := Lib.hid (And.intro hS hle)
    clear hrow hB hS hnil hz
    go_wp2_with fail
    refine (sort_none none 0 w1).mono ?_
    rintro e w2 ⟨rfl, rfl⟩
    go_wp2_with fail
    go_ret
    exact ⟨_, [], rfl, HS.out, HR.out, by simp, HB.out⟩
  · have hH : Holds encU w1 gb 0 xs.toArray := holds_row hgb (by simpa using r4)
    have hgl : gb < w1.heap.size := (Array.getElem?_eq_some_iff.1 hgb).1
    have hsz : xs.length < 4611686018427387904 := by omega
    have hc := sort_any w1 gb 0 cap xs.toArray hH hgl (by simpa using hsz)
    rw [show xs.toArray.size = xs.length from rfl] at hc
    have HCS := Lib.hid hc
    have HB := Lib.hid hB
    have HS := Lib.hid (And.intro hS hle)
    have HG := Lib.hid hgb
    have HR := Lib.hid r1
    have HR2 := Lib.hid r2
    have HR3 := Lib.hid r3
    have HBS := Lib.hid hbase
    have HNL := Lib.hid hnil
    clear hrow hB hS hnil hH hc hgb r4 r1 r2 r3 hbase
    go_wp2_with fail
    refine (HCS.out).mono ?_
    rintro e w2 ⟨rfl, d', hmv, hso⟩
    have hd : d'.toList = upU xs := moved_sorted (d := xs.toArray) hmv hso
    have hl : d'.size = xs.length := hmv.2.1
    have hown := hmv.1.own HG.out HBS.out (by rw [hl]; exact HR.out) HR2.out HR3.out
    rw [hd, hl] at hown
    have HO := Lib.hid hown
    have HB2 := Lib.hid (HB.out.grown hmv.1.grown HB.out.size (fun j hj => by cases hj; exact HBS.out))
    clear hown hd hl hmv hso
    go_wp2_with fail
    go_ret
    exact ⟨_, xs, rfl, HS.out, HO.out, by have := HNL.out; simpa using this, HB2.out⟩

end Go.Proofs.Ytdfmgfclcbeeiaa
