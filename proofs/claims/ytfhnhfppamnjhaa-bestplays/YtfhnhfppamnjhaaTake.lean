/-
  The nearest few of more are the nearest few.
-/
import Derived.Test.YtfhnhfppamnjhaaMerge
namespace Go.Proofs.Ytfhnhfppamnjhaa
open Go.RowKit Go.Maps

/-- in order, each ID once -/
structure Srt (hs : List Hit) : Prop where
  order : hs.Pairwise fun a b => near a b = true
  once : hs.Pairwise fun a b => a.1 ≠ b.1
theorem Srt.sub {l hs : List Hit} (h : Srt hs) (hl : l.Sublist hs) : Srt l := ⟨h.order.sublist hl, h.once.sublist hl⟩
theorem Srt.lt {hs : List Hit} (h : Srt hs) {i j : Nat} (hi : i < hs.length) (hj : j < hs.length) (hij : i < j) : near hs[i] hs[j] = true := (List.pairwise_iff_getElem.1 h.order) i j hi hj hij
theorem Srt.ne {hs : List Hit} (h : Srt hs) {i j : Nat} (hi : i < hs.length) (hj : j < hs.length) (hij : i ≠ j) : hs[i].1 ≠ hs[j].1 := by
  have ho := List.pairwise_iff_getElem.1 h.once
  rcases Nat.lt_or_gt_of_ne hij with h1 | h1
  · exact ho i j hi hj h1
  · exact (ho j i hj hi h1).symm

theorem parts_ex {T : List Hit} (h : Hit) (hs : T.Pairwise fun a b => near a b = true) : ∃ k, Parts T h k := by
  induction T with
  | nil => exact ⟨0, Nat.le_refl _, fun j hj => by simp at hj, fun j hj => by simp at hj⟩
  | cons a T ih =>
    rw [List.pairwise_cons] at hs
    cases ha : near a h with
    | false =>
      refine ⟨0, Nat.zero_le _, fun j hj h0 => by omega, fun j hj _ => ?_⟩
      cases j with
      | zero => exact ha
      | succ j =>
        cases hb : near (a :: T)[j + 1] h with
        | false => rfl
        | true =>
          rw [near_trans (hs.1 _ (List.getElem_mem _)) hb] at ha
          cases ha
    | true =>
      obtain ⟨k, k0, k1, k2⟩ := ih hs.2
      refine ⟨k + 1, by simp; omega, fun j hj hjk => ?_, fun j hj hjk => ?_⟩
      · cases j with
        | zero => exact ha
        | succ j => exact k1 j (by simpa using hj) (by omega)
      · cases j with
        | zero => omega
        | succ j => exact k2 j (by simpa using hj) (by omega)

/-- what is behind the n-th doesn't matter -/
theorem ins_take {U : List Hit} {h : Hit} {k n : Nat} (hp : Parts U h k) (hk : k + 1 ≤ n) : ins (U.take (n - 1)) h = (ins U h).take n := by
  have hp' : Parts (U.take (n - 1)) h k := by
    obtain ⟨p0, p1, p2⟩ := hp
    refine ⟨by rw [List.length_take]; omega, fun j hj hjk => ?_, fun j hj hjk => ?_⟩
    · rw [List.getElem_take]; exact p1 j (by rw [List.length_take] at hj; omega) hjk
    · rw [List.getElem_take]; exact p2 j (by rw [List.length_take] at hj; omega) hjk
  have hkl := hp.1
  rw [← parts_ins hp', ← parts_ins hp, List.take_append, List.length_take, Nat.min_eq_left hkl, List.take_of_length_le (l := U.take k) (by rw [List.length_take]; omega)]
  obtain ⟨m, hm⟩ : ∃ m, n - k = m + 1 := ⟨n - k - 1, by omega⟩
  rw [hm, List.take_succ_cons, List.take_take, List.drop_take, Nat.min_eq_left (by omega), show n - 1 - k = m by omega]

theorem near_id {h x : Hit} (hx : x.1 = h.1) (hd : x.2.1 ≤ h.2.1) : near h x = false := by
  unfold near nearB
  split
  · simp [hx]
  · simp; omega

theorem find_none {T : List Hit} {id : Int} (hno : ∀ x ∈ T, x.1 ≠ id) : T.find? (fun x => x.1 == id) = none := List.find?_eq_none.2 fun x hx => by simpa using hno x hx
theorem putOne_big {M : Nat} {T : List Hit} {h : Hit} (hno : ∀ x ∈ T, x.1 ≠ h.1) (hM : T.length < M) : putOne M T h = ins T h := by
  unfold putOne base
  rw [find_none hno]
  simp [hM]
theorem last_take {T : List Hit} {n : Nat} (hn : 1 ≤ n) (hl : n ≤ T.length) : (T.take n).getLastD (0, 0, []) = T[n - 1]'(by omega) := by
  rw [List.getLastD_eq_getLast?, List.getLast?_eq_getElem?, List.length_take, Nat.min_eq_left hl, List.getElem?_take_of_lt (by omega), List.getElem?_eq_getElem (by omega)]
  rfl

/-- a hit whose ID isn't there -/
theorem take_none {n : Nat} {U : List Hit} {h : Hit} (hs : Srt U) (hn : 1 ≤ n) (hno : ∀ x ∈ U, x.1 ≠ h.1) : putOne n (U.take n) h = (ins U h).take n := by
  have hno' : ∀ x ∈ U.take n, x.1 ≠ h.1 := fun x hx => hno x (List.mem_of_mem_take hx)
  obtain ⟨k, hp⟩ := parts_ex h hs.order
  by_cases hl : U.length < n
  · rw [List.take_of_length_le (Nat.le_of_lt hl), putOne_big hno hl, List.take_of_length_le]
    rw [← parts_ins hp, List.length_append, List.length_cons, List.length_take, List.length_drop]
    omega
  · have hl' : n ≤ U.length := by omega
    have hlen : (U.take n).length = n := by rw [List.length_take]; omega
    unfold putOne base
    rw [find_none hno', hlen, last_take hn hl']
    simp only [Nat.lt_irrefl, if_false]
    by_cases hk : k + 1 ≤ n
    · have h1 : near (U[n - 1]'(by omega)) h = false := hp.2.2 (n - 1) (by omega) (by omega)
      have h2 : near h (U[n - 1]'(by omega)) = true := by
        cases h3 : near h (U[n - 1]'(by omega)) with
        | true => rfl
        | false => exact absurd (near_total h1 h3).1 (hno _ (List.getElem_mem _))
      rw [h2]
      simp only [if_true]
      rw [← ins_take hp hk, List.dropLast_eq_take, hlen, List.take_take, Nat.min_eq_left (by omega)]
    · have h1 : near (U[n - 1]'(by omega)) h = true := hp.2.1 (n - 1) (by omega) (by omega)
      rw [near_asym h1]
      simp only [Bool.false_eq_true, if_false]
      rw [← parts_ins hp, List.take_append_of_le_length (by rw [List.length_take]; omega), List.take_take, Nat.min_eq_left (by omega)]

theorem Srt.find {hs : List Hit} (hg : Srt hs) {p : Nat} (hp : p < hs.length) {id : Int} (he : hs[p].1 = id) : hs.find? (fun x => x.1 == id) = some hs[p] := by
  have h : ∃ x, hs.find? (fun x => x.1 == id) = some x := by
    cases hf : hs.find? (fun x => x.1 == id) with
    | some x => exact ⟨x, rfl⟩
    | none => exact absurd (List.find?_eq_none.1 hf _ (List.getElem_mem hp)) (by simp [he])
  obtain ⟨x, hx⟩ := h
  rw [hx]
  have h1 := List.find?_some hx
  obtain ⟨j, hj, rfl⟩ := List.getElem_of_mem (List.mem_of_find?_eq_some hx)
  have h2 : hs[j].1 = id := by simpa using h1
  by_cases e : j = p
  · subst e; rfl
  · exact absurd (h2.trans he.symm) (hg.ne hj hp e)
theorem Srt.filter {hs : List Hit} (hg : Srt hs) {p : Nat} (hp : p < hs.length) : (hs.filter fun y => y.1 != hs[p].1) = hs.take p ++ hs.drop (p + 1) := by
  have hsplit : hs = hs.take p ++ hs[p] :: hs.drop (p + 1) := by rw [List.getElem_cons_drop]; exact (List.take_append_drop p hs).symm
  have hone := hg.once
  rw [hsplit, List.pairwise_append] at hone
  obtain ⟨_, ho2, ho3⟩ := hone
  rw [List.pairwise_cons] at ho2
  refine (congrArg (List.filter fun y => y.1 != hs[p].1) hsplit).trans ?_
  rw [List.filter_append, List.filter_cons_of_neg (by simp), List.filter_eq_self.2 (fun x hx => by simpa using ho3 x hx hs[p] List.mem_cons_self), List.filter_eq_self.2 (fun x hx => by simpa using (ho2.1 x hx).symm)]

/-- the nearest few of more are the nearest few -/
theorem take_one {n M : Nat} {T : List Hit} {h : Hit} (hs : Srt T) (hn : 1 ≤ n) (hM : T.length < M) : putOne n (T.take n) h = (putOne M T h).take n := by
  by_cases hex : ∃ p, ∃ hp : p < T.length, T[p].1 = h.1
  · obtain ⟨p, hp, he⟩ := hex
    have hfT := hs.find hp he
    have hsn : Srt (T.take n) := hs.sub (List.take_sublist _ _)
    by_cases hd : T[p].2.1 ≤ h.2.1
    · have hR : putOne M T h = T := by unfold putOne base; rw [hfT]; simp [hd]
      rw [hR]
      by_cases hpn : p < n
      · have hpl : p < (T.take n).length := by rw [List.length_take]; omega
        have hf := hsn.find hpl (id := h.1) (by rw [List.getElem_take]; exact he)
        unfold putOne base
        rw [hf, List.getElem_take]
        simp [hd]
      · have hno : ∀ x ∈ T.take n, x.1 ≠ h.1 := fun x hx e => by
          obtain ⟨j, hj, rfl⟩ := List.getElem_of_mem hx
          rw [List.length_take] at hj
          rw [List.getElem_take] at e
          exact hs.ne (by omega) hp (by omega) (e.trans he.symm)
        have hlen : (T.take n).length = n := by rw [List.length_take]; omega
        have h1 : near h (T[n - 1]'(by omega)) = false := by
          cases h2 : near h (T[n - 1]'(by omega)) with
          | false => rfl
          | true =>
            have h3 := near_trans h2 (hs.lt (by omega) hp (show n - 1 < p by omega))
            rw [near_id he hd] at h3
            cases h3
        unfold putOne base
        rw [find_none hno, hlen, last_take hn (by omega), h1]
        simp
    · obtain ⟨U, hU⟩ : ∃ U, U = T.take p ++ T.drop (p + 1) := ⟨_, rfl⟩
      have hfil : (T.filter fun y => y.1 != h.1) = U := by rw [← he, hs.filter hp, hU]
      have hR : putOne M T h = ins U h := by unfold putOne base; rw [hfT]; simp only [hd, if_false]; rw [hfil]
      have hsU : Srt U := by rw [← hfil]; exact hs.sub List.filter_sublist
      have hnoU : ∀ x ∈ U, x.1 ≠ h.1 := fun x hx => by rw [← hfil] at hx; simpa using (List.mem_filter.1 hx).2
      rw [hR]
      by_cases hpn : p < n
      · have hpl : p < (T.take n).length := by rw [List.length_take]; omega
        have hf := hsn.find hpl (id := h.1) (by rw [List.getElem_take]; exact he)
        have hfl : ((T.take n).filter fun y => y.1 != h.1) = U.take (n - 1) := by
          have := hsn.filter hpl
          rw [List.getElem_take, he] at this
          rw [this, hU, List.take_take, Nat.min_eq_left (by omega), List.take_append, List.length_take, Nat.min_eq_left (by omega), List.take_of_length_le (l := T.take p) (by rw [List.length_take]; omega), List.drop_take, show n - (p + 1) = n - 1 - p by omega]
        have hL : putOne n (T.take n) h = ins (U.take (n - 1)) h := by
          unfold putOne base
          rw [hf, List.getElem_take]
          simp only [hd, if_false]
          rw [hfl]
        rw [hL]
        obtain ⟨k, hk⟩ := parts_ex h hsU.order
        refine ins_take hk ?_
        -- k ≤ p
        rcases Nat.lt_or_ge p k with h1 | h1
        · exfalso
          have hpU : p < U.length := by have := hk.1; omega
          have h2 := hk.2.1 p hpU h1
          have h3 : U[p] = T[p + 1]'(by rw [hU, List.length_append, List.length_take, List.length_drop] at hpU; omega) := by
            have : U[p]? = T[p + 1]? := by
              rw [hU, List.getElem?_append_right (by rw [List.length_take]; omega), List.length_take, List.getElem?_drop]
              congr 1
              omega
            rw [List.getElem?_eq_getElem hpU, List.getElem?_eq_getElem (by rw [hU, List.length_append, List.length_take, List.length_drop] at hpU; omega)] at this
            injection this
          rw [h3] at h2
          have h4 := near_trans (hs.lt hp (by rw [hU, List.length_append, List.length_take, List.length_drop] at hpU; omega) (Nat.lt_succ_self p)) h2
          have h5 : near h T[p] = true := by
            unfold near nearB
            split
            · omega
            · simp; omega
          rw [near_asym h5] at h4
          cases h4
        · omega
      · have hTU : T.take n = U.take n := by
          rw [hU, List.take_append_of_le_length (by rw [List.length_take]; omega), List.take_take, Nat.min_eq_left (by omega)]
        rw [hTU]
        exact take_none hsU hn hnoU
  · have hno : ∀ x ∈ T, x.1 ≠ h.1 := fun x hx e => by
      obtain ⟨p, hp, rfl⟩ := List.getElem_of_mem hx
      exact hex ⟨p, hp, e⟩
    rw [putOne_big hno hM]
    exact take_none hs hn hno

theorem Good.srt {most : Nat} {hs : List Hit} (h : Good most hs) : Srt hs := ⟨h.order, h.once⟩
theorem putAll_cons (most : Nat) (hs : List Hit) (x : Hit) (xs : List Hit) : (putAll most hs (x :: xs)).1 = (putAll most (putOne most hs x) xs).1 := by
  unfold putOne
  cases hb : base most hs x <;> simp [putAll, hb]
theorem one_len {most : Nat} {hs : List Hit} {x : Hit} : (putOne most hs x).length ≤ hs.length + 1 := by
  unfold putOne base
  split
  · rename_i l hl
    rw [ins_len]
    split at hl
    · split at hl
      · cases hl
      · injection hl with hl; subst hl; have := List.length_filter_le (fun y : Hit => y.1 != x.1) hs; omega
    · split at hl
      · injection hl with hl; subst hl; omega
      · split at hl
        · injection hl with hl; subst hl; rw [List.length_dropLast]; omega
        · cases hl
  · omega
theorem take_all {n M : Nat} (hn : 1 ≤ n) : ∀ (xs T : List Hit), Good M T → (∀ x ∈ xs, Wf x) → T.length + xs.length < M → (putAll n (T.take n) xs).1 = (putAll M T xs).1.take n
  | [], T, _, _, _ => rfl
  | x :: xs, T, hg, hw, hM => by
    rw [List.length_cons] at hM
    rw [putAll_cons, putAll_cons, take_one hg.srt hn (show T.length < M by omega)]
    have h1 := one_len (most := M) (hs := T) (x := x)
    exact take_all hn xs _ (hg.one (by omega) (hw x List.mem_cons_self)) (fun y hy => hw y (List.mem_cons_of_mem _ hy)) (by omega)

end Go.Proofs.Ytfhnhfppamnjhaa
