/-
  The contract of ref05's remove.
-/
import Derived.Test.YtchedflfinkppaaRef3
namespace Go.Proofs.Ytchedflfinkppaa
open Go.RowKit Go.Maps

/-- append of files onto an empty own row, in a region -/
theorem step_append_files0 {ops : Array Oper} {o : Oper} {a : Act} {w : World} {K : Act → World → Prop} {Q : Exit → Act → World → Prop} {E : Prop} (hgd : o.guard = none) (s x : Operand)
    (ho : o.op = .call { callee := .builtin .append, args := #[s, x], argTypes := #[70, 70] }) (base : Nat) (v : Value) (hs : a.eval s = v) (hown : w.ownsRow base 82 3 v 0 [])
    (A : Option Addr) (m c : Nat) (news : List Value) (hx : a.eval x = .slice A m c) (hl : news.length = m * 3) (hnews : ∀ j u, news[j]? = some u → ∃ ad, A = some ad ∧ w.cell? (ad.add j) = some u) (h1 : ∀ u ∈ news, u.oneCell' = true)
    (h63 : m ≤ 1000000) (hbase : base ≤ w.heap.size)
    (h : ∀ A' c' w', w'.ownsRow base 82 3 (.slice A' m c') m news → w.grownBy w' v.ownBlock → ((Value.slice A' m c').ownBlock = v.ownBlock ∨ (Value.slice A' m c').ownBlock = some w.heap.size) → K (a.put o.dst (.slice A' m c')) w') :
    if Region.wanted o (yielded ops a.tmps) = true then Oper.wp Try.prog o a w K Q else E := by
  refine step_append_files hgd s x ho base v 0 [] hs hown A m c news hx hl hnews h1 (by omega) hbase (fun A' c' w' k1 k2 k3 => ?_)
  rw [Nat.zero_add] at k1 k3 ⊢
  exact h A' c' w' k1 k2 k3

section
variable (w : World) (B : BK) (x room : Nat) (p : Pw) (v : Value) (L : List RF) (s : ByteArray)

set_option maxRecDepth 100000 in
set_option maxHeartbeats 400000 in
theorem rremove_none (h : RD w B x p room v L) (hl : L.length ≤ 1000) (hn : findR L s = -1) : Calls Try.prog 61 #[.pointer (some ⟨x, 0, none⟩), .string s] w fun e w' => e = .returned (.tuple #[]) ∧ Below w.heap.size w w' := by
  have hf := rfind_any w B x room p v L s h hl
  rw [hn] at hf
  have HF := Lib.hid hf
  clear h hf
  go_enter Try.func61, Try.ntmps61
  go_wp2_with fail
  refine (HF.out).mono ?_
  rintro e w1 ⟨rfl, hb1⟩
  have HB1 := Lib.hid hb1
  clear hb1
  go_wp2_with fail
  go_end0
  exact ⟨rfl, HB1.out⟩

set_option maxRecDepth 100000 in
set_option maxHeartbeats 1000000 in
theorem rremove_some (k : Nat) (hk : k < L.length) (h : RD w B x p room v L) (hl : L.length ≤ 1000) (hn : findR L s = (k : Int)) :
    Calls Try.prog 61 #[.pointer (some ⟨x, 0, none⟩), .string s] w fun e w' => e = .returned (.tuple #[]) ∧ ∃ v', RD w' B x p room v' (L.take k ++ L.drop (k + 1)) ∧ AddC x w w' v v' := by
  have hf := rfind_any w B x room p v L s h hl
  rw [hn] at hf
  have HF := Lib.hid hf
  have HD := Lib.hid h
  obtain ⟨g, c, rfl, hBg, hgx, hgl, _⟩ := h.addr hk
  have hcap : L.length ≤ c := by
    obtain ⟨cs, h1, _⟩ := h.row
    rcases h1.2 with ⟨e, _⟩ | ⟨g', cap, cur, e, _, _, hnc, _⟩
    · cases e
    · injection e with _ _ e3
      omega
  clear h hf
  go_enter Try.func61, Try.ntmps61
  go_wp2_with fail
  refine (HF.out).mono ?_
  rintro e w1 ⟨rfl, hb1⟩
  obtain ⟨cs, ho1, hc1⟩ := (HD.out.below hb1).row
  have HC1 := Lib.hid hc1
  have HO1 := Lib.hid ho1
  have HCL : Hid (∀ W, Below w1.heap.size w1 W → W.cell? ⟨x, 1, none⟩ = some (.slice (some ⟨g, 0, none⟩) L.length c)) := fun W hW => ((HD.out.below hb1).below hW).cells.2.1
  have hb0 : Below w1.heap.size w1 w1.drew := (Below.refl _ _).drew
  have hba : Below w1.heap.size w1 (w1.drew.alloc (.cells #[] 82)) := hb0.alloc (Nat.le_refl _) _
  have HOa : Hid ((w1.drew.alloc (.cells #[] 82)).ownsRow w1.heap.size 82 3 (.slice (some ⟨w1.heap.size, 0, none⟩) 0 0) 0 []) := World.ownsRow_lit w1.drew #[] 0 (Nat.le_refl _) (by decide) rfl
  have HB1 := Lib.hid hb1
  have i1 : (k : Int) < (L.length : Int) := by omega
  have i2 : ¬ (k : Int) < 0 := by omega
  have i3 : (k : Int) + 1 ≤ (L.length : Int) := by omega
  have iw : IntKind.i64.wrap ((k : Int) + 1) = (k : Int) + 1 := by rw [IntKind.wrap_i64]; omega
  have i4 : (k : Int) ≤ (c : Int) := by omega
  have i5 : (L.length : Int) ≤ (c : Int) := by omega
  have i6 : (0 : Int) ≤ (k : Int) + 1 := by omega
  have hlc := hc1.1
  have HSRC : Hid (∀ W, Below w1.heap.size w1 W → ∀ j u, cs[j]? = some u → W.cell? ((⟨g, 0, none⟩ : Addr).add j) = some u) := fun W hW j u hj => by
    have h9 := ho1.cells (g := g) rfl j u hj
    exact (hW.cell (lt_of_cell h9)).trans h9
  have H1C := Lib.hid hc1.oneCell
  have HN1 : Hid (∀ W, Below w1.heap.size w1 W → ∀ j u, (cs.take (k * 3))[j]? = some u → ∃ ad, (some ⟨g, 0, none⟩ : Option Addr) = some ad ∧ W.cell? (ad.add j) = some u) := fun W hW j u hj => by
    refine ⟨_, rfl, HSRC.out _ hW j u ?_⟩
    rw [List.getElem?_take] at hj
    split at hj
    · exact hj
    · cases hj
  have HT1 : Hid ((cs.take (k * 3)).length = k * 3 ∧ ∀ u ∈ cs.take (k * 3), u.oneCell' = true) := ⟨by rw [List.length_take]; omega, fun u hu => H1C.out u (List.mem_of_mem_take hu)⟩
  have hk1000 : k ≤ 1000000 := by omega
  have HN2 : Hid (∀ W, Below w1.heap.size w1 W → ∀ j u, (cs.drop ((k + 1) * 3))[j]? = some u → ∃ ad, (some ⟨g, (k + 1) * 3, none⟩ : Option Addr) = some ad ∧ W.cell? (ad.add j) = some u) := fun W hW j u hj => by
    rw [List.getElem?_drop] at hj
    have h9 := HSRC.out W hW _ u hj
    refine ⟨_, rfl, ?_⟩
    rw [← h9]
    congr 1
    unfold Addr.add
    by_cases hj0 : j = 0
    · subst hj0
      simp
    · have : ¬ ((k + 1) * 3 + j = 0) := by omega
      simp [hj0]
  have HT2 : Hid ((cs.drop ((k + 1) * 3)).length = (L.length - (k + 1)) * 3 ∧ ∀ u ∈ cs.drop ((k + 1) * 3), u.oneCell' = true) := ⟨by rw [List.length_drop]; omega, fun u hu => H1C.out u (List.mem_of_mem_drop hu)⟩
  have hk2 : k + (L.length - (k + 1)) ≤ 1000000 := by omega
  have HFIN : Hid (∀ A9 n9 c9 (w9 : World), n9 = k + (L.length - (k + 1)) → w9.ownsRow w1.heap.size 82 3 (.slice A9 n9 c9) n9 (cs.take (k * 3) ++ cs.drop ((k + 1) * 3)) → Below w1.heap.size w1 w9 → (∃ g', (Value.slice A9 n9 c9).ownBlock = some g') → w9.cell? ⟨x, 1, none⟩ = some (.slice (some ⟨g, 0, none⟩) L.length c) ∧ w9.frozen? ⟨x, 1, none⟩ = false ∧ ∃ v', RD (w9.setCell ⟨x, 1, none⟩ (.slice A9 n9 c9)) B x p room v' (L.take k ++ L.drop (k + 1)) ∧ AddC x w (w9.setCell ⟨x, 1, none⟩ (.slice A9 n9 c9)) (.slice (some ⟨g, 0, none⟩) L.length c) v') := fun A9 n9 c9 w9 hn9 ho9 hb9 hsome => by
    subst hn9
    have hR9 := (HD.out.below HB1.out).below hb9
    have hs1 := HB1.out.size
    have hlx := lt_of_block HD.out.blk
    have hlen : (L.take k ++ L.drop (k + 1)).length = k + (L.length - (k + 1)) := by rw [List.length_append, List.length_take, List.length_drop]; omega
    have hc9 : CellsF (fun g' => B.K g' ∧ g' ≠ x ∧ some g' ≠ (Value.slice A9 (k + (L.length - (k + 1))) c9).ownBlock) w9 (cs.take (k * 3) ++ cs.drop ((k + 1) * 3)) (L.take k ++ L.drop (k + 1)) :=
      ((HC1.out.take k).append (HC1.out.drop (k + 1))).kept hb9.size fun g' hg' sg => ⟨hb9.block g' hg', sg.1, sg.2.1, fun e => by
        have := (own_lt ho9 e.symm).1
        omega⟩
    have hv9 : (Value.slice A9 (k + (L.length - (k + 1))) c9).ownBlock ≠ some x := fun e => by
      have := (own_lt ho9 e).1
      omega
    obtain ⟨k1, k2⟩ := hR9.row' (L' := L.take k ++ L.drop (k + 1)) (by rw [hlen]; exact own_lower ho9 (by have := HD.out.low; omega)) hc9 hv9 (fun g' e => HD.out.new g' (by have h1 := (own_lt ho9 e).1; have h2 := HB1.out.size; omega))
    have hall := (HB1.out.trans (hb9.mono hs1))
    refine ⟨hR9.cells.2.1, hR9.free 1, _, k1, ⟨k2.os.trans hall.os, k2.tape.trans hall.tape, k2.output.trans hall.output, Nat.le_trans hall.size k2.size, fun g' hg' hgx' _ => (k2.block g' (by have := hall.size; omega) hgx').trans (hall.block g' hg'), ?_⟩⟩
    obtain ⟨g', hob⟩ := hsome
    exact .inr ⟨g', hob, by have := (own_lt ho9 hob).1; omega⟩
  have HFR : Hid (∀ W, Below w1.heap.size w1 W → W.frozen? ⟨x, 1, none⟩ = false) := fun W hW => ((HD.out.below HB1.out).below hW).free 1
  have p1 := HCL.out _ hb0
  have p2 := HCL.out _ hba
  clear hc1 ho1 hb1
  by_cases hce : c = k + 1
  · have hlk : L.length = k + 1 := by omega
    have HLK := Lib.hid hlk
    have HD0 : Hid (cs.drop ((k + 1) * 3) = []) := by
      show _ = _
      exact List.eq_nil_of_length_eq_zero (by rw [HT2.out.1, hlk]; omega)
    subst hce
    rw [hlk] at p1 p2
    have p0 := HCL.out _ (Below.refl _ _)
    rw [hlk] at p0
    have HCL2 : Hid (∀ W, Below w1.heap.size w1 W → W.cell? ⟨x, 1, none⟩ = some (.slice (some ⟨g, 0, none⟩) (k + 1) (k + 1))) := fun W hW => by
      have := HCL.out W hW
      rw [hlk] at this
      exact this
    have j1 : (k : Int) ≤ (k : Int) + 1 := by omega
    clear hlk hlc i1 i3 i4 i5 hcap hl hk
    go_wp2_with fail
    have p3 : ((w1.alloc (.cells #[] 82)).drew).cell? ⟨x, 1, none⟩ = some (.slice (some ⟨g, 0, none⟩) (k + 1) (k + 1)) := p2
    go_region_law
      (first
        | (refine step_append_files0 (by rfl) (.tmp 11) (.tmp 17) (by rfl) w1.heap.size (.slice (some ⟨w1.heap.size, 0, none⟩) 0 0) (by rfl) HOa.out (some ⟨g, 0, none⟩) k (k + 1) (cs.take (k * 3)) (by rfl) HT1.out.1 (HN1.out _ hba) HT1.out.2 hk1000 hba.size ?_; intro A7 c7 w7 ho7 hg7 ha7; have hb7 : Below w1.heap.size w1 w7 := hba.grown hg7 hba.size (fun g' e => by have e' : some w1.heap.size = some g' := e; injection e' with e'; omega); have hx7 := HCL2.out _ hb7)
        | (refine step_append_files (by rfl) (.tmp 18) (.tmp 25) (by rfl) w1.heap.size (.slice A7 k c7) k (cs.take (k * 3)) (by rfl) ho7 (some ⟨g, 0, none⟩) 0 _ [] (by rfl) rfl (fun j u hj => by simp at hj) (fun u hu => by cases hu) (by omega) hb7.size ?_; intro A9 c9 w9 ho9 hg9 ha9; have hb9 : Below w1.heap.size w1 w9 := hb7.grown hg9 hb7.size (fun g' e => (own_lt ho7 e).1); have hx9 := HCL2.out _ hb9; have hf9 := HFR.out _ hb9)
        | fail)
    all_goals
      have HS9 : Hid (∃ g', (Value.slice A9 k c9).ownBlock = some g') := by
        rcases ha9 with e | e
        · rcases ha7 with e' | e'
          · exact ⟨_, e.trans e'⟩
          · exact ⟨_, e.trans e'⟩
        · exact ⟨_, e⟩
      have HG9 := Lib.hid (HFIN.out A9 k c9 w9 (by have := HLK.out; omega) (by rw [HD0.out]; exact ho9) hb9 HS9.out).2.2
      clear ho9 hg9 ha9 hb9 ho7 hg7 ha7 hb7 hx7 hx9 hf9
      go_wp2_with fail
      go_end0
      exact ⟨rfl, HG9.out⟩
  · go_wp2_with fail
    have p3 : ((w1.alloc (.cells #[] 82)).drew).cell? ⟨x, 1, none⟩ = some (.slice (some ⟨g, 0, none⟩) L.length c) := p2
    go_region_law
      (first
        | (refine step_append_files0 (by rfl) (.tmp 11) (.tmp 17) (by rfl) w1.heap.size (.slice (some ⟨w1.heap.size, 0, none⟩) 0 0) (by rfl) HOa.out (some ⟨g, 0, none⟩) k c (cs.take (k * 3)) (by rfl) HT1.out.1 (HN1.out _ hba) HT1.out.2 hk1000 hba.size ?_; intro A7 c7 w7 ho7 hg7 ha7; have hb7 : Below w1.heap.size w1 w7 := hba.grown hg7 hba.size (fun g' e => by have e' : some w1.heap.size = some g' := e; injection e' with e'; omega); have hx7 := HCL.out _ hb7)
        | (refine step_append_files (by rfl) (.tmp 18) (.tmp 25) (by rfl) w1.heap.size (.slice A7 k c7) k (cs.take (k * 3)) (by rfl) ho7 (some ⟨g, (k + 1) * 3, none⟩) (L.length - (k + 1)) (c - (k + 1)) (cs.drop ((k + 1) * 3)) (by rfl) HT2.out.1 (HN2.out _ hb7) HT2.out.2 hk2 hb7.size ?_; intro A9 c9 w9 ho9 hg9 ha9; have hb9 : Below w1.heap.size w1 w9 := hb7.grown hg9 hb7.size (fun g' e => (own_lt ho7 e).1); have hx9 := HCL.out _ hb9; have hf9 := HFR.out _ hb9)
        | fail)
    all_goals
      have HS9 : Hid (∃ g', (Value.slice A9 (k + (L.length - (k + 1))) c9).ownBlock = some g') := by
        rcases ha9 with e | e
        · rcases ha7 with e' | e'
          · exact ⟨_, e.trans e'⟩
          · exact ⟨_, e.trans e'⟩
        · exact ⟨_, e⟩
      have HG9 := Lib.hid (HFIN.out A9 (k + (L.length - (k + 1))) c9 w9 rfl ho9 hb9 HS9.out).2.2
      clear ho9 hg9 ha9 hb9 ho7 hg7 ha7 hb7 hx7 hx9 hf9
      go_wp2_with fail
      go_end0
      exact ⟨rfl, HG9.out⟩
end

end Go.Proofs.Ytchedflfinkppaa
