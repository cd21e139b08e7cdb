/-
  A file put into the document's disk at its place: the row that comes of it.
-/
import Derived.Test.YtchedflfinkppaaRef6
namespace Go.Proofs.Ytchedflfinkppaa
open Go.RowKit Go.Maps
set_option linter.unusedSimpArgs false
set_option linter.unusedVariables false

/-- is its name ahead of s? where a file of that name stands; the files with one more -/
def ltR (s : ByteArray) (f : RF) : Bool := Op.bytesLess f.name.toList s.toList
def placeR (L : List RF) (s : ByteArray) : Nat := L.countP (ltR s)
def insR (L : List RF) (s : ByteArray) (f : RF) : List RF := L.take (placeR L s) ++ f :: L.drop (placeR L s)
theorem placeR_le (L : List RF) (s : ByteArray) : placeR L s ≤ L.length := List.countP_le_length
theorem placeR_succ {L : List RF} {k : Nat} (h : k < L.length) (s : ByteArray) : placeR (L.take (k + 1)) s = placeR (L.take k) s + if ltR s L[k] = true then 1 else 0 := by
  unfold placeR
  rw [List.take_succ_eq_append_getElem h, List.countP_append, List.countP_singleton]
theorem placeR_yes {L : List RF} {k : Nat} (h : k < L.length) {s : ByteArray} (hl : Op.bytesLess L[k].name.toList s.toList = true) : placeR (L.take (k + 1)) s = placeR (L.take k) s + 1 := by rw [placeR_succ h, if_pos (show ltR s L[k] = true from hl)]
theorem placeR_no {L : List RF} {k : Nat} (h : k < L.length) {s : ByteArray} (hl : Op.bytesLess L[k].name.toList s.toList = false) : placeR (L.take (k + 1)) s = placeR (L.take k) s := by rw [placeR_succ h, if_neg (show ¬ ltR s L[k] = true by unfold ltR; rw [hl]; decide)]; rfl
theorem placeR_take_le (L : List RF) (s : ByteArray) (k : Nat) : placeR (L.take k) s ≤ k := Nat.le_trans (placeR_le _ s) (by rw [List.length_take]; omega)

/-- the row with one file more -/
theorem RD.ins {w w9 : World} {B : BK} {x room k n9 c9 : Nat} {p : Pw} {v : Value} {L : List RF} {A9 : Option Addr} {cs : List Value} {f : RF} {F G : Option Addr} {cf cg : Nat}
    (h : RD w B x p room v L) (hc : CellsF (fun g => B.K g ∧ g ≠ x ∧ some g ≠ v.ownBlock) w cs L) (hf : f.firm.length ≤ cf) (hg : f.loose.length ≤ cg)
    (rf : Row (fun g => B.K g ∧ g ≠ x) w F (u8s f.firm)) (rg : Row (fun g => B.K g ∧ g ≠ x) w G (u8s f.loose))
    (hb : Below w.heap.size w w9) (hn : n9 = L.length + 1)
    (ho : w9.ownsRow w.heap.size 82 3 (.slice A9 n9 c9) n9 (cs.take (k * 3) ++ [.string f.name, .slice F f.firm.length cf, .slice G f.loose.length cg] ++ cs.drop (k * 3))) (hk : k ≤ L.length) :
    RD (w9.setCell ⟨x, 1, none⟩ (.slice A9 n9 c9)) B x p room (.slice A9 n9 c9) (L.take k ++ f :: L.drop k) ∧ AddC x w (w9.setCell ⟨x, 1, none⟩ (.slice A9 n9 c9)) v (.slice A9 n9 c9) := by
  have hR9 := h.below hb
  have hlx := lt_of_block h.blk
  have hB := h.low
  have hlen : (L.take k ++ f :: L.drop k).length = n9 := by rw [List.length_append, List.length_cons, List.length_take, List.length_drop]; omega
  have hob : ∃ g', (Value.slice A9 n9 c9).ownBlock = some g' := by
    rcases ho.2 with ⟨e, e2⟩ | ⟨g, cap, cur, e, _⟩
    · omega
    · rw [e]; exact ⟨g, rfl⟩
  obtain ⟨g9, hg9⟩ := hob
  have hg9l := (own_lt ho hg9).1
  have hc9 : CellsF (fun g' => B.K g' ∧ g' ≠ x ∧ some g' ≠ (Value.slice A9 n9 c9).ownBlock) w9 (cs.take (k * 3) ++ [.string f.name, .slice F f.firm.length cf, .slice G f.loose.length cg] ++ cs.drop (k * 3)) (L.take k ++ f :: L.drop k) := by
    have h1 : CellsF (fun g' => B.K g' ∧ g' ≠ x) w (cs.take (k * 3) ++ [.string f.name, .slice F f.firm.length cf, .slice G f.loose.length cg] ++ cs.drop (k * 3)) ((L.take k ++ [f]) ++ L.drop k) :=
      (((hc.kept (Nat.le_refl _) fun g hg s => ⟨rfl, s.1, s.2.1⟩).take k).append (CellsF.one hf hg rf rg)).append ((hc.kept (Nat.le_refl _) fun g hg s => ⟨rfl, s.1, s.2.1⟩).drop k)
    rw [show (L.take k ++ [f]) ++ L.drop k = L.take k ++ f :: L.drop k by simp] at h1
    refine h1.kept hb.size fun g hg s => ⟨hb.block g hg, s.1, s.2, fun e => ?_⟩
    rw [hg9] at e
    injection e with e
    omega
  have hv9 : (Value.slice A9 n9 c9).ownBlock ≠ some x := fun e => by
    rw [hg9] at e
    injection e with e
    omega
  obtain ⟨k1, k2⟩ := hR9.row' (L' := L.take k ++ f :: L.drop k) (by rw [hlen]; exact own_lower ho (by omega)) hc9 hv9 (fun g' e => h.new g' (own_lt ho e).1)
  exact ⟨k1, ⟨k2.os.trans hb.os, k2.tape.trans hb.tape, k2.output.trans hb.output, Nat.le_trans hb.size k2.size, fun g' hg' hgx' _ => (k2.block g' (by have := hb.size; omega) hgx').trans (hb.block g' hg'), .inr ⟨g9, hg9, hg9l⟩⟩⟩

/-- the cells of a row of files, in every world behind w, cut in two -/
theorem RD.cut2 {w : World} {B : BK} {x k g c : Nat} {L : List RF} {cs : List Value} (hn : L.length ≤ c) (ho : w.ownsRow B.lo 82 3 (.slice (some ⟨g, 0, none⟩) L.length c) L.length cs) (hc : CellsF (fun q => B.K q ∧ q ≠ x ∧ some q ≠ (Value.slice (some ⟨g, 0, none⟩) L.length c).ownBlock) w cs L) (hk : k ≤ L.length) :
    (∀ W, Below w.heap.size w W → ∀ j u, (cs.take (k * 3))[j]? = some u → ∃ ad, (some ⟨g, 0, none⟩ : Option Addr) = some ad ∧ W.cell? (ad.add j) = some u) ∧
    (∀ W, Below w.heap.size w W → ∀ j u, (cs.drop (k * 3))[j]? = some u → ∃ ad, (some ⟨g, k * 3, none⟩ : Option Addr) = some ad ∧ W.cell? (ad.add j) = some u) ∧
    ((cs.take (k * 3)).length = k * 3 ∧ ∀ u ∈ cs.take (k * 3), u.oneCell' = true) ∧ ((cs.drop (k * 3)).length = (L.length - k) * 3 ∧ ∀ u ∈ cs.drop (k * 3), u.oneCell' = true) := by
  have hlc := hc.1
  have h1 := hc.oneCell
  have hs : ∀ W, Below w.heap.size w W → ∀ j u, cs[j]? = some u → W.cell? ((⟨g, 0, none⟩ : Addr).add j) = some u := fun W hW j u hj => by
    have h9 := ho.cells (g := g) rfl j u hj
    exact (hW.cell (lt_of_cell h9)).trans h9
  refine ⟨fun W hW j u hj => ⟨_, rfl, hs W hW j u ?_⟩, fun W hW j u hj => ?_, ⟨by rw [List.length_take]; omega, fun u hu => h1 u (List.mem_of_mem_take hu)⟩, by rw [List.length_drop]; omega, fun u hu => h1 u (List.mem_of_mem_drop hu)⟩
  · rw [List.getElem?_take] at hj
    split at hj
    · exact hj
    · cases hj
  · rw [List.getElem?_drop] at hj
    have h9 := hs W hW _ u hj
    refine ⟨_, rfl, ?_⟩
    rw [← h9]
    congr 1
    unfold Addr.add
    by_cases hj0 : j = 0
    · subst hj0
      simp
    · have : ¬ (k * 3 + j = 0) := by omega
      simp [hj0]

end Go.Proofs.Ytchedflfinkppaa
