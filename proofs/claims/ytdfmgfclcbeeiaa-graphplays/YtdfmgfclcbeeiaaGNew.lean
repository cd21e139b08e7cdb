/-
  The contracts of New and Len.
-/
import Derived.Test.YtdfmgfclcbeeiaaGBind
namespace Go.Proofs.Ytdfmgfclcbeeiaa
open Go.RowKit Go.Maps
set_option linter.unusedSimpArgs false
set_option linter.unusedVariables false

theorem makeHint (n : Nat) (hn : n < 9223372036854775808) (w : World) : (Instr.makeMap 55 (some (.int .i64 (n : Int)))).run Try.prog w = .ok (.map (some w.heap.size)) (w.alloc (.map #[] 0)) := by
  rfl

section
variable {w : World} {B b mb m n : Nat} {D : DataW Unit} {nb : Int → Option Nat} {f : Int → Int → Int} {g : Int → Int} {x y k : Int}

set_option maxRecDepth 100000 in
set_option maxHeartbeats 1000000 in
theorem len_any9 (h : Gr w B b mb n D nb f) : Calls Try.prog 22 #[.pointer (some ⟨b, 0, none⟩)] w fun e w' => e = .returned (.int .i64 (Maps.size D)) ∧ w' = w := by
  have hc := h.blk.cell
  have hl := h.map.len Try.underlying55 3
  go_enter Try.func22, Try.ntmps22
  go_wp2_with fail
  go_ret
  exact ⟨rfl, rfl⟩

set_option maxRecDepth 100000 in
set_option maxHeartbeats 1000000 in
theorem len_nil9 (w : World) : Calls Try.prog 22 #[.pointer none] w fun e w' => e = .returned (.int .i64 0) ∧ w' = w := by
  go_enter Try.func22, Try.ntmps22
  go_wp2_with fail
  go_ret
  exact ⟨rfl, rfl⟩
end

/-- a graph without nodes -/
theorem Gr.empty (w : World) : Gr ((w.alloc (.map #[] 0)).alloc (.cells #[.map (some w.heap.size)] 57)) w.heap.size (w.heap.size + 1) w.heap.size 0 (.map []) (fun _ => none) (fun _ _ => 0) where
  blk := by have := Boxed.new (w.alloc (.map #[] 0)) 57 (.map (some w.heap.size)); simpa using this
  map := (World.ownsMap_made w Try.prog 31 _).alloc _
  mem x := by simp [has]
  look x m h := by cases h
  inn x m h := by cases h
  non x h y := rfl
  apart x y m h := by cases h
  new := ⟨by omega, Nat.le_refl _, fun x m h => by cases h⟩

/-- the nodes are the keys -/
def Nodes (nb : Int → Option Nat) (ks : List Int) : Prop := ∀ x, (nb x).isSome = true ↔ x ∈ ks

theorem take_snoc (ks : List Int) (i : Nat) (h : i < ks.length) : ks.take (i + 1) = ks.take i ++ [ks.getD i 0] := by
  rw [List.take_add_one, List.getElem?_eq_getElem h]
  simp [List.getD, List.getElem?_eq_getElem h]

set_option maxRecDepth 100000 in
set_option maxHeartbeats 2000000 in
theorem new_any (w : World) (A : Nat) (o cap : Nat) (ks : List Int) (hA : A < w.heap.size) (hk : ∀ i, i < ks.length → w.cell? ⟨A, o + i, none⟩ = some (.int .u64 (ks.getD i 0))) (hu : ∀ x ∈ ks, U64 x) (hn : ks.length < 4611686018427387904) :
    Calls Try.prog 10 #[.slice (some ⟨A, o, none⟩) ks.length cap] w fun e w' => e = .returned (.pointer (some ⟨w.heap.size + 1, 0, none⟩)) ∧ ∃ (n : Nat) (D : DataW Unit) (nb : Int → Option Nat), Gr w' w.heap.size (w.heap.size + 1) w.heap.size n D nb (fun _ _ => 0) ∧ n ≤ ks.length ∧ Nodes nb ks ∧ Below w.heap.size w w' := by
  obtain ⟨l, hl⟩ : ∃ l, l = ks.length := ⟨_, rfl⟩
  have hmm := makeHint l (by omega) w
  have HE := Lib.hid (Gr.empty w)
  have HK := Lib.hid hk
  have HU := Lib.hid hu
  have HL : Hid (ks.length = l) := hl.symm
  have HB0 : Hid (Below w.heap.size w ((w.alloc (.map #[] 0)).alloc (.cells #[.map (some w.heap.size)] 57))) := ((Below.refl _ w).alloc (Nat.le_refl _) _).alloc (by simp) _
  rw [← hl] at hn ⊢
  clear hk hu hl
  go_enter Try.func10, Try.ntmps10
  go_wp2_with fail
  go_loopw [13, 5] (fun s13 _ wr => ∃ (i n : Nat) (D : DataW Unit) (nb : Int → Option Nat), s13 = .int .i64 (i : Int) ∧ i ≤ l ∧ n ≤ i ∧ Gr wr w.heap.size (w.heap.size + 1) w.heap.size n D nb (fun _ _ => 0) ∧ Nodes nb (ks.take i) ∧ Below w.heap.size w wr) (fun s13 _ _ => l - (intOf s13).toNat)
  case atStart => exact ⟨0, 0, _, _, rfl, Nat.zero_le _, Nat.le_refl _, HE.out, fun x => by simp, HB0.out⟩
  case round =>
    obtain ⟨i, n, D, nb, rfl, hil, hni, hG, hN, hB⟩ := hrel
    have HG := Lib.hid hG
    have HN := Lib.hid hN
    have HB := Lib.hid hB
    clear hG hN hB
    by_cases hi : i < l
    · have e0 : (i : Int) < (l : Int) := by omega
      obtain ⟨x, hx⟩ : ∃ x, x = ks.getD i 0 := ⟨_, rfl⟩
      have hil' : i < ks.length := by rw [HL.out]; exact hi
      have hxu : U64 x := HU.out x (by rw [hx]; simp [List.getD, List.getElem?_eq_getElem hil'])
      have hcx : wr.cell? ⟨A, o + i, none⟩ = some (.int .u64 x) := by rw [hx]; exact (HB.out.cell (p := ⟨A, o + i, none⟩) hA).trans (HK.out i hil')
      have HT : Hid (ks.take (i + 1) = ks.take i ++ [x]) := by show _ = _; rw [hx]; exact take_snoc ks i hil'
      have HC := Lib.hid (add_any HG.out hxu (by unfold maxLen; omega))
      clear hx hil' HE HB0
      go_wp2_with fail
      refine (HC.out).mono ?_
      rintro e w2 ⟨rfl, h2⟩
      cases hnx : nb x with
      | some m =>
        rw [hnx] at h2
        simp at h2
        subst h2
        have HNN : Hid (Nodes nb (ks.take (i + 1))) := fun z => by
          rw [HT.out, List.mem_append, ← HN.out z]
          constructor
          · exact fun h => .inl h
          · rintro (h | h)
            · exact h
            · simp at h; subst h; rw [hnx]; rfl
        go_wp2_with fail
        go_roundw
        case rel => exact ⟨i + 1, n, D, nb, by go_num, by omega, by omega, HG.out, HNN.out, HB.out⟩
        case measure => simp [intOf]; omega
      | none =>
        rw [hnx] at h2
        simp at h2
        obtain ⟨⟨D2, m, hG2⟩, hB2⟩ := h2
        have HG2 := Lib.hid hG2
        have HB2 := Lib.hid (HB.out.trans hB2.1)
        have HNN : Hid (Nodes (node nb x m) (ks.take (i + 1))) := fun z => by
          rw [HT.out, List.mem_append, ← HN.out z]
          by_cases hz : z = x
          · subst hz; simp [node]
          · simp [node, hz]
        clear hG2 hB2
        go_wp2_with fail
        go_roundw
        case rel => exact ⟨i + 1, n + 1, D2, node nb x m, by go_num, by omega, by omega, HG2.out, HNN.out, HB2.out⟩
        case measure => simp [intOf]; omega
    · have e0 : ¬ (i : Int) < (l : Int) := by omega
      have HNN : Hid (Nodes nb ks) := by
        have := HN.out
        rw [List.take_of_length_le (by rw [HL.out]; omega)] at this
        exact this
      go_wp2_with fail
      go_ret
      exact ⟨rfl, n, D, nb, HG.out, by omega, HNN.out, HB.out⟩

end Go.Proofs.Ytdfmgfclcbeeiaa
