/-
  The contract of awake: the document's example.
-/
import Derived.Test.YtdfmgfclcbeeiaaGReach2
import Derived.Test.YtdfmgfclcbeeiaaGRMath
namespace Go.Proofs.Ytdfmgfclcbeeiaa
open Go.RowKit Go.Maps Go.Sort Go.WideElems
set_option linter.unusedSimpArgs false
set_option linter.unusedVariables false

theorem keysOf_own {R : Value → Option (DataW Unit × List MemPlace)} {w : World} {b n : Nat} {D : DataW Unit} (h : w.ownsMap Try.prog 31 R b n D) : ∃ ss, KeysOf D ss := by
  have hT := h.tidy law31
  obtain ⟨es, clock, hb, F, _, rfl⟩ := h
  obtain ⟨L, hL⟩ : ∃ L, L = (es.toList.map (rg Try.prog 31 R)).foldr DataW.insert [] := ⟨_, rfl⟩
  rw [← hL] at hT ⊢
  have hk : ∀ p ∈ L, ∃ x, p.1 = litU x := fun p hp => by
    rw [hL] at hp
    have hp := (WideShapes.sorted_perm _).mem_iff.1 hp
    obtain ⟨x, hx, rfl⟩ := List.mem_map.1 hp
    obtain ⟨y, hy⟩ := F.reads x hx
    obtain ⟨z, _, hz, _⟩ := Maps.keyOf_int_inv Try.underlying31 (rd_key hy)
    exact ⟨z, by rw [rg_of hy]; exact hz⟩
  obtain ⟨es', he, hne⟩ := hT
  injection he with he
  subst he
  clear hL hb F
  refine ⟨L.map (fun p => match p.1 with | .int _ x => x | _ => 0), ?_, fun y => ?_, by simp [Maps.size]⟩
  · unfold List.Nodup
    rw [List.pairwise_map]
    refine List.Pairwise.imp_of_mem ?_ hne
    intro p q hp hq hpq e
    obtain ⟨x, hx⟩ := hk p hp
    obtain ⟨x', hx'⟩ := hk q hq
    rw [hx, hx'] at e hpq
    simp only [litU] at e
    subst e
    exact hpq rfl
  · rw [has_eq, List.any_eq_true, List.mem_map]
    constructor
    · rintro ⟨p, hp, rfl⟩
      obtain ⟨x, hx⟩ := hk p hp
      exact ⟨p, hp, by rw [hx]; simp [litU, Lit.sameKey]⟩
    · rintro ⟨p, hp, hs⟩
      obtain ⟨x, hx⟩ := hk p hp
      rw [hx] at hs
      simp [litU, Lit.sameKey] at hs
      exact ⟨p, hp, by rw [hx]; simpa [litU] using hs⟩

/-- the numbers of a graph: the nodes, each once -/
theorem Gr.keys {w : World} {B b mb n : Nat} {D : DataW Unit} {nb : Int → Option Nat} {f : Int → Int → Int} (h : Gr w B b mb n D nb f) : ∃ ss : List Int, ss.Nodup ∧ (∀ y, y ∈ ss ↔ (nb y).isSome = true) ∧ Maps.size D = ss.length := by
  obtain ⟨ss, h1, h2, h3⟩ := keysOf_own h.map
  exact ⟨ss, h1, fun y => (h2 y).trans (h.mem y), h3⟩

theorem rise_len {p : Int → Prop} {xs ys : List Int} (h : Rise p xs) (hn : ys.Nodup) (hm : ∀ y, y ∈ ys ↔ p y) : xs.length = ys.length := by
  have h1 := nodup_le xs ys (h.1.imp fun h => by omega) fun y hy => (hm y).2 ((h.2 y).1 hy)
  have h2 := nodup_le ys xs hn fun y hy => (h.2 y).2 ((hm y).1 hy)
  omega

def fA1 : Int → Int → Int := both (fun _ _ => 0) 1 2 2
def fA2 : Int → Int → Int := both fA1 2 3 1
def fA3 : Int → Int → Int := both fA2 2 3 0
theorem kd0 : Kd (fun _ _ => 0) := fun _ _ => .inl rfl
theorem kd1 : Kd fA1 := kd0.both 1 2 (by decide)
theorem kd2 : Kd fA2 := kd1.both 2 3 (by decide)
theorem kd3 : Kd fA3 := kd2.both 2 3 (by decide)
theorem fA2_at (a c : Int) : fA2 a c ≠ 0 ↔ ((a = 1 ∧ c = 2) ∨ (a = 2 ∧ c = 1)) ∨ (a = 2 ∧ c = 3) ∨ (a = 3 ∧ c = 2) := by
  unfold fA2 fA1
  rw [both_at, both_at]
  split
  · simp; omega
  · split
    · simp; omega
    · simp; omega
theorem fA3_at (a c : Int) : fA3 a c ≠ 0 ↔ (a = 1 ∧ c = 2) ∨ (a = 2 ∧ c = 1) := by
  unfold fA3
  rw [both_at]
  split
  · simp; omega
  · have := fA2_at a c
    rw [this]; omega
theorem way2 (y : Int) : Way (fun a c => fA2 a c ≠ 0) 1 y ↔ y ∈ [1, 2, 3] := by
  constructor
  · intro h
    refine h.closed (fun z => z ∈ [1, 2, 3]) (by simp) fun a c ha hr => ?_
    have := (fA2_at a c).1 hr
    simp at ha ⊢
    omega
  · have h2 : Way (fun a c => fA2 a c ≠ 0) 1 2 := .one ((fA2_at _ _).2 (by omega))
    intro h
    simp at h
    rcases h with rfl | rfl | rfl
    · exact .here
    · exact h2
    · exact .step h2 ((fA2_at _ _).2 (by omega))
theorem way3 (y : Int) : Way (fun a c => fA3 a c ≠ 0) 1 y ↔ y ∈ [1, 2] := by
  constructor
  · intro h
    refine h.closed (fun z => z ∈ [1, 2]) (by simp) fun a c ha hr => ?_
    have := (fA3_at a c).1 hr
    simp at ha ⊢
    omega
  · intro h
    simp at h
    rcases h with rfl | rfl
    · exact .here
    · exact .one ((fA3_at _ _).2 (by omega))

set_option maxRecDepth 100000 in
set_option maxHeartbeats 4000000 in
theorem awake_any (w : World) : Calls Try.prog 9 #[] w fun e w' => e = .returned (.bool true) ∧ Below w.heap.size w w' := by
  have hB0 : Below w.heap.size w (w.alloc (.cells #[.int .u64 1, .int .u64 2, .int .u64 3] 31)) := (Below.refl _ w).alloc (Nat.le_refl _) _
  have hN := new_any (w.alloc (.cells #[.int .u64 1, .int .u64 2, .int .u64 3] 31)) w.heap.size 0 3 [1, 2, 3] (by simp) (fun i hi => by
    have hc : (w.alloc (.cells #[.int .u64 1, .int .u64 2, .int .u64 3] 31)).heap[w.heap.size]? = some (.cells #[.int .u64 1, .int .u64 2, .int .u64 3] 31 (0, 0)) := heap_alloc_new w _
    match i, hi with
    | 0, _ => unfold World.cell?; simp only [Nat.zero_add, hc]; rfl
    | 1, _ => unfold World.cell?; simp only [Nat.zero_add, hc]; rfl
    | 2, _ => unfold World.cell?; simp only [Nat.zero_add, hc]; rfl) (fun x hx => by simp at hx; unfold U64; omega) (by decide)
  have HN := Lib.hid hN
  have HB0 := Lib.hid hB0
  clear hN hB0
  go_enter Try.func9, Try.ntmps9
  go_wp2_with fail
  refine (HN.out).mono ?_
  rintro e w1 ⟨rfl, n, D, nb, hG, hn3, hNd, hB1⟩
  obtain ⟨b, hb⟩ : ∃ b, b = (w.alloc (.cells #[.int .u64 1, .int .u64 2, .int .u64 3] 31)).heap.size + 1 := ⟨_, rfl⟩
  obtain ⟨B, hBB⟩ : ∃ B, B = (w.alloc (.cells #[.int .u64 1, .int .u64 2, .int .u64 3] 31)).heap.size := ⟨_, rfl⟩
  rw [← hb, ← hBB] at hG
  rw [← hb]
  have hBw : w.heap.size ≤ B := by rw [hBB]; simp
  have HB1 := Lib.hid (HB0.out.trans (hB1.mono (by simp)))
  clear hB1 HN HB0 hb hBB
  have hs1 : (nb 1).isSome = true := (hNd 1).2 (by simp)
  have hs2 : (nb 2).isSome = true := (hNd 2).2 (by simp)
  have hs3 : (nb 3).isSome = true := (hNd 3).2 (by simp)
  have u1 : U64 1 := by unfold U64; omega
  have u2 : U64 2 := by unfold U64; omega
  have u3 : U64 3 := by unfold U64; omega
  have hn3' : n ≤ 3 := hn3
  have b1 : bindE nb (fun _ _ => 0) 1 2 = 0 := by simp [bindE, endsE, hs1, hs2]
  have HBI := Lib.hid (bind_any hG kd0 u1 u2 (by unfold maxLen; omega))
  rw [b1] at HBI
  clear hG b1
  go_wp2_with fail
  refine (HBI.out).mono ?_
  rintro e w2 ⟨rfl, h2⟩
  obtain ⟨hG2, hB2⟩ := h2.1 rfl
  have HB2 := Lib.hid (HB1.out.trans (hB2.1.mono hBw))
  have b2 : linkE nb fA1 2 3 = 0 := by simp [linkE, endsE, hs2, hs3, fA1, both_at]
  have HLI := Lib.hid (link_any (f := fA1) hG2 kd1 u2 u3 (by unfold maxLen; omega))
  rw [b2] at HLI
  clear hG2 b2 h2 hB2 HBI HB1
  go_wp2_with fail
  refine (HLI.out).mono ?_
  rintro e w3 ⟨rfl, h3⟩
  obtain ⟨hG3, hB3⟩ := h3.1 rfl
  have HB3 := Lib.hid (HB2.out.trans (hB3.1.mono hBw))
  have HRE := Lib.hid (reach_any (f := fA2) hG3 u1 (by omega) (ns := [1, 2, 3]) (fun z => (hNd z).symm) (fun a c h => by
    have := (fA2_at a c).1 h
    have : c = 1 ∨ c = 2 ∨ c = 3 := by omega
    rcases this with rfl | rfl | rfl
    · exact hs1
    · exact hs2
    · exact hs3) (by decide))
  have HG3 := Lib.hid hG3
  clear hG3 h3 hB3 HLI HB2
  go_wp2_with fail
  refine (HRE.out).mono ?_
  rintro e w4 ⟨v, xs, rfl, hrow, _, hB4, hri⟩
  obtain ⟨A, c, rfl, _⟩ := own_form hrow
  have hx3 : xs.length = 3 := rise_len (ys := [1, 2, 3]) hri (by decide) fun y => by rw [hs1]; simpa using (way2 y).symm
  rw [hx3]
  have hG4 := HG3.out.below hB4
  have HB4 := Lib.hid (HB3.out.trans (hB4.mono HB3.out.size))
  have b4 : cutE nb fA2 2 3 = 0 := by simp [cutE, endsE, hs2, hs3, fA2, both_at]
  have HCU := Lib.hid (cut_any (f := fA2) hG4 kd2 u2 u3)
  rw [b4] at HCU
  clear hrow hri hx3 hG4 hB4 b4 HG3 HB3 HRE
  go_wp2_with fail
  refine (HCU.out).mono ?_
  rintro e w5 ⟨rfl, h5⟩
  obtain ⟨hG5, hB5⟩ := h5.1 rfl
  have HB5 := Lib.hid (HB4.out.trans (hB5.1.mono hBw))
  have b5 : cutE nb fA3 1 2 = 10 := by simp [cutE, endsE, hs1, hs2, fA3, fA2, fA1, both_at]
  have HC2 := Lib.hid (cut_any (f := fA3) hG5 kd3 u1 u2)
  rw [b5] at HC2
  have HG5 := Lib.hid hG5
  clear hG5 h5 hB5 HCU HB4 b5
  go_wp2_with fail
  refine (HC2.out).mono ?_
  rintro e w6 ⟨rfl, h6⟩
  have h6 := h6.2 (by decide)
  have h6 := h6.symm
  subst h6
  have HRE := Lib.hid (reach_any (f := fA3) HG5.out u1 (by omega) (ns := [1, 2, 3]) (fun z => (hNd z).symm) (fun a c h => by
    have := (fA3_at a c).1 h
    have : c = 1 ∨ c = 2 := by omega
    rcases this with rfl | rfl
    · exact hs1
    · exact hs2) (by decide))
  clear HC2 HG5
  go_wp2_with fail
  refine (HRE.out).mono ?_
  rintro e w7 ⟨v, xs, rfl, hrow, _, hB7, hri⟩
  obtain ⟨A2, c2, rfl, _⟩ := own_form hrow
  have hx2 : xs.length = 2 := rise_len (ys := [1, 2]) hri (by decide) fun y => by rw [hs1]; simpa using (way3 y).symm
  rw [hx2]
  have HB7 := Lib.hid (HB5.out.trans (hB7.mono HB5.out.size))
  clear hrow hri hx2 hB7 HRE HB5
  go_wp2_with fail
  go_ret
  exact ⟨rfl, HB7.out⟩

end Go.Proofs.Ytdfmgfclcbeeiaa
