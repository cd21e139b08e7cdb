/-
  What ref04's List and best's List have in common: the same hits, in whatever order.
-/
import Derived.Test.YtfhnhfppamnjhaaTake
namespace Go.Proofs.Ytfhnhfppamnjhaa

theorem ins_perm (l : List Hit) (h : Hit) : (ins l h).Perm (h :: l) := by
  unfold ins
  exact (List.perm_middle).trans (List.Perm.cons h (List.filter_append_perm _ _))
theorem perm_at {L : List Hit} {i : Nat} (hi : i < L.length) : L.Perm (L[i] :: (L.take i ++ L.drop (i + 1))) := by
  have h : L.take i ++ L[i] :: L.drop (i + 1) = L := by rw [List.getElem_cons_drop]; exact List.take_append_drop i L
  exact (List.Perm.of_eq h.symm).trans List.perm_middle
theorem perm_get {L T : List Hit} (hp : L.Perm T) {i : Nat} (hi : i < L.length) : ∃ p, ∃ hp' : p < T.length, T[p] = L[i] := List.getElem_of_mem (hp.mem_iff.1 (List.getElem_mem hi))
theorem perm_out {L T : List Hit} (hp : L.Perm T) {i p : Nat} (hi : i < L.length) (hp' : p < T.length) (he : T[p] = L[i]) (h : Hit) : (L.take i ++ L.drop (i + 1) ++ [h]).Perm (ins (T.take p ++ T.drop (p + 1)) h) := by
  have h1 : (L[i] :: (L.take i ++ L.drop (i + 1))).Perm (L[i] :: (T.take p ++ T.drop (p + 1))) := by
    refine (perm_at hi).symm.trans (hp.trans ?_)
    rw [← he]
    exact perm_at hp'
  have h2 := h1.cons_inv
  exact (List.perm_append_comm).trans ((List.Perm.cons h h2).trans (ins_perm _ _).symm)

/-- a hit whose ID is there -/
theorem add_there {most : Nat} {L T : List Hit} {h : Hit} {i : Nat} (hp : L.Perm T) (hg : Good most T) (hi : i < L.length) (he : L[i].1 = h.1) :
    (L[i].2.1 ≤ h.2.1 → base most T h = none) ∧ (¬ L[i].2.1 ≤ h.2.1 → ∃ l, base most T h = some l ∧ (L.take i ++ L.drop (i + 1) ++ [h]).Perm (ins l h)) := by
  obtain ⟨p, hp', hpe⟩ := perm_get hp hi
  have hf := hg.find hp' (id := h.1) (by rw [hpe]; exact he)
  have hfl := hg.filter hp'
  unfold base
  rw [hf]
  refine ⟨fun hd => by rw [← hpe] at hd; simp [hd], fun hd => ⟨T.take p ++ T.drop (p + 1), ?_, perm_out hp hi hp' hpe h⟩⟩
  rw [← hpe] at hd
  simp only [hd, if_false]
  rw [hfl, hpe, he]

/-- a hit whose ID isn't there -/
theorem add_room {most : Nat} {L T : List Hit} {h : Hit} (hp : L.Perm T) (hno : ∀ x ∈ L, x.1 ≠ h.1) (hl : L.length < most) : base most T h = some T ∧ (L ++ [h]).Perm (ins T h) := by
  have hno' : ∀ x ∈ T, x.1 ≠ h.1 := fun x hx => hno x (hp.mem_iff.2 hx)
  constructor
  · unfold base
    rw [find_none hno', ← hp.length_eq]
    simp [hl]
  · exact (List.perm_append_comm).trans ((List.Perm.cons h hp).trans (ins_perm _ _).symm)
theorem add_full {most : Nat} {L T : List Hit} {h : Hit} {i : Nat} (hp : L.Perm T) (hg : Good most T) (hno : ∀ x ∈ L, x.1 ≠ h.1) (hl : ¬ L.length < most) (hi : i < L.length) (hw : ∀ j (hj : j < L.length), near L[i] L[j] = false) :
    (near h L[i] = false → base most T h = none) ∧ (near h L[i] = true → ∃ l, base most T h = some l ∧ (L.take i ++ L.drop (i + 1) ++ [h]).Perm (ins l h)) := by
  have hno' : ∀ x ∈ T, x.1 ≠ h.1 := fun x hx => hno x (hp.mem_iff.2 hx)
  obtain ⟨p, hp', hpe⟩ := perm_get hp hi
  have hTl := hp.length_eq
  have hlast : p = T.length - 1 := by
    rcases Nat.lt_or_ge p (T.length - 1) with h1 | h1
    · have h2 := hg.at_lt hp' (show T.length - 1 < T.length by omega) h1
      obtain ⟨j, hj, hje⟩ := perm_get hp.symm (i := T.length - 1) (by omega)
      have h3 := hw j hj
      rw [hje, ← hpe, h2] at h3
      cases h3
    · omega
  have hld : T.getLastD (0, 0, []) = L[i] := by
    rw [List.getLastD_eq_getLast?, List.getLast?_eq_getElem?, ← hlast, List.getElem?_eq_getElem hp']
    exact hpe
  unfold base
  rw [find_none hno', hld, ← hTl]
  simp only [hl, if_false]
  refine ⟨fun hn => by simp [hn], fun hn => ⟨T.dropLast, by simp [hn], ?_⟩⟩
  have hdl : T.dropLast = T.take p ++ T.drop (p + 1) := by
    rw [List.dropLast_eq_take, hlast, List.drop_of_length_le (by omega), List.append_nil]
  rw [hdl]
  exact perm_out hp hi hp' hpe h

/-- where a hit stands in order -/
theorem count_at {T : List Hit} (hs : Srt T) {p : Nat} (hp : p < T.length) : T.countP (fun x => near x T[p]) = p := by
  have h : T = T.take p ++ T.drop p := (List.take_append_drop p T).symm
  have h1 : (T.take p).countP (fun x => near x T[p]) = p := by
    rw [List.countP_eq_length.2, List.length_take]
    · omega
    · intro x hx
      obtain ⟨j, hj, rfl⟩ := List.getElem_of_mem hx
      rw [List.length_take] at hj
      rw [List.getElem_take]
      exact hs.lt (by omega) hp (by omega)
  have h2 : (T.drop p).countP (fun x => near x T[p]) = 0 := by
    rw [List.countP_eq_zero]
    intro x hx
    obtain ⟨j, hj, rfl⟩ := List.getElem_of_mem hx
    rw [List.length_drop] at hj
    rw [List.getElem_drop]
    by_cases e : j = 0
    · subst e; simp [near_irrefl]
    · have := near_asym (hs.lt hp (show p + j < T.length by omega) (by omega))
      simp [this]
  calc T.countP (fun x => near x T[p]) = (T.take p ++ T.drop p).countP (fun x => near x T[p]) := congrArg (List.countP _) h
    _ = p := by rw [List.countP_append, h1, h2]; rfl
theorem count_perm {L T : List Hit} (hp : L.Perm T) (hs : Srt T) {i : Nat} (hi : i < L.length) : ∃ hp' : L.countP (fun x => near x L[i]) < T.length, T[L.countP (fun x => near x L[i])] = L[i] := by
  obtain ⟨p, hp', he⟩ := perm_get hp hi
  have h1 : L.countP (fun x => near x L[i]) = p := by
    rw [hp.countP_eq, ← he]
    exact count_at hs hp'
  refine ⟨by rw [h1]; exact hp', ?_⟩
  have : ∀ q (hq : q < T.length), q = p → T[q] = L[i] := fun q hq e => by subst e; exact he
  exact this _ _ h1
theorem perm_ids {L T : List Hit} (hp : L.Perm T) (hs : Srt T) {i j : Nat} (hi : i < L.length) (hj : j < L.length) (hij : i ≠ j) : L[i].1 ≠ L[j].1 := by
  have hl : L.Pairwise fun a b => a.1 ≠ b.1 := (hp.pairwise_iff (fun h => Ne.symm h)).2 hs.once
  have ho := List.pairwise_iff_getElem.1 hl
  rcases Nat.lt_or_gt_of_ne hij with h1 | h1
  · exact ho i j hi hj h1
  · exact (ho j i hj hi h1).symm
theorem count_step {L T : List Hit} (hp : L.Perm T) (hs : Srt T) {i k : Nat} (hi : i < L.length) (hk : k < L.length) : (near L[k] L[i] || (!near L[i] L[k] && decide (k < i))) = near L[k] L[i] := by
  by_cases e : k = i
  · subst e; simp
  · cases h1 : near L[k] L[i] with
    | true => rfl
    | false =>
      cases h2 : near L[i] L[k] with
      | true => rfl
      | false => exact absurd (near_total h1 h2).1 (perm_ids hp hs hk hi e)

end Go.Proofs.Ytfhnhfppamnjhaa
