/-
  A file of the document's disk is changed in its place; the document's disk has another row of files.
-/
import Derived.Test.YtchedflfinkppaaRef2
namespace Go.Proofs.Ytchedflfinkppaa
open Go.RowKit Go.Maps

/-- a store into a row of the call's own -/
theorem own_set {w : World} {B e s n g i : Nat} {v u : Value} {xs : List Value} (h : w.ownsRow B e s v n xs) (hv : v.ownBlock = some g) (hi : i < xs.length) : (w.setCell ⟨g, i, none⟩ u).ownsRow B e s v n (xs.set i u) := by
  obtain ⟨h1, h2⟩ := h
  refine ⟨by rw [List.length_set]; exact h1, ?_⟩
  rcases h2 with ⟨rfl, _⟩ | ⟨g', cap, cur, rfl, hb, hh, k1, k2, k3, k4⟩
  · simp [Value.ownBlock] at hv
  · obtain rfl : g' = g := by simpa [Value.ownBlock] using hv
    refine .inr ⟨g', cap, cur.setIfInBounds i u, rfl, hb, ?_, k1, k2, by simpa using k3, ?_⟩
    · simp [World.setCell, Array.getElem?_modify, hh]
    · rw [Array.toList_setIfInBounds, ← k4, List.take_set]

/-- a file's two slices changed -/
theorem CellsF.set {S : Nat → Prop} {w : World} {cs : List Value} {L : List RF} (h : CellsF S w cs L) {k : Nat} (hk : k < L.length) {firm loose : List Int} {F G : Option Addr} {cf cg : Nat} (hf : firm.length ≤ cf) (hg : loose.length ≤ cg) (rf : Row S w F (u8s firm)) (rg : Row S w G (u8s loose)) :
    CellsF S w ((cs.set (k * 3 + 1) (.slice F firm.length cf)).set (k * 3 + 2) (.slice G loose.length cg)) (L.set k ⟨L[k].name, firm, loose⟩) := by
  have hl := h.1
  refine ⟨by simp [hl], fun j hj => ?_⟩
  have hj' : j < L.length := by simpa using hj
  by_cases e : j = k
  · subst e
    obtain ⟨h0, _, _⟩ := h.2 j hj'
    simp only [List.getElem_set_self]
    refine ⟨?_, ⟨F, cf, ?_, hf, rf⟩, G, cg, ?_, hg, rg⟩
    · rw [List.getElem?_set_ne (by omega), List.getElem?_set_ne (by omega)]
      exact h0
    · rw [List.getElem?_set_ne (by omega), List.getElem?_set_self (by omega)]
    · rw [List.getElem?_set_self (by rw [List.length_set]; omega)]
  · obtain ⟨h0, ⟨F', cf', h1, h2, h3⟩, G', cg', k1, k2, k3⟩ := h.2 j hj'
    simp only [List.getElem_set_ne (fun e' => e e'.symm)]
    refine ⟨?_, ⟨F', cf', ?_, h2, h3⟩, G', cg', ?_, k2, k3⟩
    · rw [List.getElem?_set_ne (by omega), List.getElem?_set_ne (by omega)]
      exact h0
    · rw [List.getElem?_set_ne (by omega), List.getElem?_set_ne (by omega)]
      exact h1
    · rw [List.getElem?_set_ne (by omega), List.getElem?_set_ne (by omega)]
      exact k1

section
variable {w w' : World} {B : BK} {x room : Nat} {p : Pw} {v : Value} {L : List RF}
theorem RD.addr (h : RD w B x p room v L) {k : Nat} (hk : k < L.length) : ∃ g c, v = .slice (some ⟨g, 0, none⟩) L.length c ∧ B.K g ∧ g ≠ x ∧ g < w.heap.size ∧ ∀ i, w.frozen? ⟨g, i, none⟩ = false := by
  have ho := h.off
  have hkv := h.kv
  obtain ⟨cs, h1, h2⟩ := h.row
  rcases h1.2 with ⟨rfl, e⟩ | ⟨g, cap, cur, rfl, hg, hh, hnc, r⟩
  · omega
  · exact ⟨g, cap, rfl, hkv g rfl, fun e => ho (by simp [Value.ownBlock, e]), lt_of_block hh, fun i => sv_free hh⟩
/-- a file's two slices changed in memory -/
theorem RD.put (h : RD w B x p room v L) {k g : Nat} (hk : k < L.length) (hv : v.ownBlock = some g) {firm loose : List Int} {F G : Option Addr} {cf cg : Nat} (hf : firm.length ≤ cf) (hg : loose.length ≤ cg)
    (rf : Row (fun g' => B.K g' ∧ g' ≠ x ∧ some g' ≠ v.ownBlock) w F (u8s firm)) (rg : Row (fun g' => B.K g' ∧ g' ≠ x ∧ some g' ≠ v.ownBlock) w G (u8s loose)) :
    RD ((w.setCell ⟨g, k * 3 + 1, none⟩ (.slice F firm.length cf)).setCell ⟨g, k * 3 + 2, none⟩ (.slice G loose.length cg)) B x p room v (L.set k ⟨L[k].name, firm, loose⟩) ∧
    Only g w ((w.setCell ⟨g, k * 3 + 1, none⟩ (.slice F firm.length cf)).setCell ⟨g, k * 3 + 2, none⟩ (.slice G loose.length cg)) := by
  have ho : Only g w ((w.setCell ⟨g, k * 3 + 1, none⟩ (.slice F firm.length cf)).setCell ⟨g, k * 3 + 2, none⟩ (.slice G loose.length cg)) := ((Only.refl g w).set _ _).set _ _
  obtain ⟨cs, h1, h2⟩ := h.row
  have hl := h2.1
  have hgx : x ≠ g := fun e => h.off (by rw [hv, e])
  refine ⟨⟨(ho.block x (lt_of_block h.blk) hgx).trans h.blk, ⟨_, by rw [List.length_set]; exact own_set (own_set h1 hv (by omega)) hv (by rw [List.length_set]; omega), ?_⟩, h.off, h.low, h.kx, h.kv, fun g hg => h.new g (Nat.le_trans ho.size hg)⟩, ho⟩
  refine (h2.set hk hf hg rf rg).kept ho.size fun g' hg' s => ⟨ho.block g' hg' fun e => s.2.2 (by rw [hv, e]), s⟩
/-- another row of files -/
theorem RD.row' (h : RD w B x p room v L) {v' : Value} {L' : List RF} {cs : List Value} (ho : w.ownsRow B.lo 82 3 v' L'.length cs) (hc : CellsF (fun g => B.K g ∧ g ≠ x ∧ some g ≠ v'.ownBlock) w cs L') (hv : v'.ownBlock ≠ some x) (hkv : ∀ g, v'.ownBlock = some g → B.K g) :
    RD (w.setCell ⟨x, 1, none⟩ v') B x p room v' L' ∧ Only x w (w.setCell ⟨x, 1, none⟩ v') := by
  have hon : Only x w (w.setCell ⟨x, 1, none⟩ v') := (Only.refl x w).set _ _
  refine ⟨⟨?_, ⟨cs, own_kept (row := some x) ho hon.grown (fun g hg e => hv (by rw [hg, ← e])), hc.kept hon.size fun g hg s => ⟨hon.block g hg s.2.1, s⟩⟩, hv, h.low, h.kx, hkv, fun g hg => h.new g (Nat.le_trans hon.size hg)⟩, hon⟩
  have := h.blk
  simp [World.setCell, Array.getElem?_modify, this]
end

/-- The cells of some of the files. -/
theorem CellsF.take {S : Nat → Prop} {w : World} {cs : List Value} {L : List RF} (h : CellsF S w cs L) (k : Nat) : CellsF S w (cs.take (k * 3)) (L.take k) := by
  refine ⟨by rw [List.length_take, List.length_take, h.1]; omega, fun j hj => ?_⟩
  rw [List.length_take] at hj
  obtain ⟨h0, ⟨F', cf', h1, h2, h3⟩, G', cg', k1, k2, k3⟩ := h.2 j (by omega)
  simp only [List.getElem_take]
  refine ⟨?_, ⟨F', cf', ?_, h2, h3⟩, G', cg', ?_, k2, k3⟩ <;> rw [List.getElem?_take, if_pos (by omega)] <;> assumption
theorem CellsF.drop {S : Nat → Prop} {w : World} {cs : List Value} {L : List RF} (h : CellsF S w cs L) (k : Nat) : CellsF S w (cs.drop (k * 3)) (L.drop k) := by
  refine ⟨by rw [List.length_drop, List.length_drop, h.1]; omega, fun j hj => ?_⟩
  rw [List.length_drop] at hj
  obtain ⟨h0, ⟨F', cf', h1, h2, h3⟩, G', cg', k1, k2, k3⟩ := h.2 (k + j) (by omega)
  simp only [List.getElem_drop]
  refine ⟨?_, ⟨F', cf', ?_, h2, h3⟩, G', cg', ?_, k2, k3⟩
  · rw [List.getElem?_drop, show k * 3 + j * 3 = (k + j) * 3 by omega]; exact h0
  · rw [List.getElem?_drop, show k * 3 + (j * 3 + 1) = (k + j) * 3 + 1 by omega]; exact h1
  · rw [List.getElem?_drop, show k * 3 + (j * 3 + 2) = (k + j) * 3 + 2 by omega]; exact k1
theorem CellsF.append {S : Nat → Prop} {w : World} {cs ds : List Value} {L M : List RF} (h : CellsF S w cs L) (k : CellsF S w ds M) : CellsF S w (cs ++ ds) (L ++ M) := by
  have hl := h.1
  refine ⟨by rw [List.length_append, List.length_append, h.1, k.1]; omega, fun j hj => ?_⟩
  rw [List.length_append] at hj
  by_cases e : j < L.length
  · obtain ⟨h0, ⟨F', cf', h1, h2, h3⟩, G', cg', k1, k2, k3⟩ := h.2 j e
    simp only [List.getElem_append_left e]
    refine ⟨?_, ⟨F', cf', ?_, h2, h3⟩, G', cg', ?_, k2, k3⟩ <;> rw [List.getElem?_append_left (by omega)] <;> assumption
  · obtain ⟨h0, ⟨F', cf', h1, h2, h3⟩, G', cg', k1, k2, k3⟩ := k.2 (j - L.length) (by omega)
    simp only [List.getElem_append_right (Nat.not_lt.1 e)]
    refine ⟨?_, ⟨F', cf', ?_, h2, h3⟩, G', cg', ?_, k2, k3⟩
    · rw [List.getElem?_append_right (by omega), show j * 3 - cs.length = (j - L.length) * 3 by omega]; exact h0
    · rw [List.getElem?_append_right (by omega), show j * 3 + 1 - cs.length = (j - L.length) * 3 + 1 by omega]; exact h1
    · rw [List.getElem?_append_right (by omega), show j * 3 + 2 - cs.length = (j - L.length) * 3 + 2 by omega]; exact k1
theorem CellsF.one {S : Nat → Prop} {w : World} {f : RF} {F G : Option Addr} {cf cg : Nat} (hf : f.firm.length ≤ cf) (hg : f.loose.length ≤ cg) (rf : Row S w F (u8s f.firm)) (rg : Row S w G (u8s f.loose)) : CellsF S w [.string f.name, .slice F f.firm.length cf, .slice G f.loose.length cg] [f] :=
  ⟨rfl, fun j hj => by
    obtain rfl : j = 0 := by simpa using hj
    exact ⟨rfl, ⟨F, cf, rfl, hf, rf⟩, G, cg, rfl, hg, rg⟩⟩
theorem CellsF.nil {S : Nat → Prop} {w : World} : CellsF S w [] [] := ⟨rfl, fun j hj => by simp at hj⟩
theorem CellsF.oneCell {S : Nat → Prop} {w : World} {cs : List Value} {L : List RF} (h : CellsF S w cs L) : ∀ u ∈ cs, u.oneCell' = true := fun u hu => by
  obtain ⟨i, hi, rfl⟩ := List.mem_iff_getElem.1 hu
  have hl := h.1
  have hd : i / 3 < L.length := by omega
  obtain ⟨h0, ⟨F', cf', h1, h2, h3⟩, G', cg', k1, k2, k3⟩ := h.2 (i / 3) hd
  rcases (show i = i / 3 * 3 ∨ i = i / 3 * 3 + 1 ∨ i = i / 3 * 3 + 2 by omega) with e | e | e
  · rw [← e, List.getElem?_eq_getElem hi] at h0
    injection h0 with h0
    rw [h0]; rfl
  · rw [← e, List.getElem?_eq_getElem hi] at h1
    injection h1 with h1
    rw [h1]; rfl
  · rw [← e, List.getElem?_eq_getElem hi] at k1
    injection k1 with k1
    rw [k1]; rfl

end Go.Proofs.Ytchedflfinkppaa
