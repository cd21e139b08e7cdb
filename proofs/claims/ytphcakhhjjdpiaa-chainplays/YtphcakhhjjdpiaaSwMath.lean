/-
  What a sweep leaves: nobody who asks from the mark on sees a difference; a second one takes nothing. Append of versions onto an own row.
-/
import Derived.Test.YtphcakhhjjdpiaaOpen
namespace Go.Proofs.Ytphcakhhjjdpiaa
open Go.RowKit

theorem PartsAt.drop {vs : List Ver} {t : Int} {c k : Nat} (h : PartsAt vs t c) (hk : k ≤ c) : PartsAt (vs.drop k) t (c - k) := by
  obtain ⟨h1, h2, h3⟩ := h
  refine ⟨by rw [List.length_drop]; omega, fun j hj hjk => ?_, fun j hj hjk => ?_⟩
  · rw [List.length_drop] at hj
    rw [List.getElem_drop]
    exact h2 _ (by omega) (by omega)
  · rw [List.length_drop] at hj
    rw [List.getElem_drop]
    exact h3 _ (by omega) (by omega)
theorem cnt_drop {vs : List Ver} (h : Rise vs) (t : Int) {k : Nat} (hk : k ≤ cnt vs t) : cnt (vs.drop k) t = cnt vs t - k := ((h.parts t).drop hk).cnt.symm
theorem cnt_mono (vs : List Ver) {s t : Int} (h : s ≤ t) : cnt vs s ≤ cnt vs t := by
  unfold cnt
  refine List.countP_mono_left fun x _ hx => ?_
  simp at hx ⊢
  omega
theorem Rise.drop {vs : List Ver} (h : Rise vs) (k : Nat) : Rise (vs.drop k) := h.sublist (List.drop_sublist k vs)
theorem swN_cnt {vs : List Ver} (h : Rise vs) (m : Int) : (goneB (asOf vs m) = true ∧ swN vs m = cnt vs m) ∨ (goneB (asOf vs m) = false ∧ swN vs m + 1 = cnt vs m) := by
  unfold swN
  cases hg : goneB (asOf vs m) with
  | true => exact .inl ⟨rfl, if_pos rfl⟩
  | false =>
    refine .inr ⟨rfl, ?_⟩
    have : cnt vs m ≠ 0 := fun h0 => by rw [h.asOf0 m h0] at hg; cases hg
    simp
    omega
theorem gone_nil {l : List Int} (h : goneB l = true) : l = [] := by unfold goneB at h; exact List.eq_nil_of_length_eq_zero (by simpa using h)
theorem asOf_drop {vs : List Ver} (h : Rise vs) {m t : Int} (hm : m ≤ t) : asOf (vs.drop (swN vs m)) t = asOf vs t := by
  have hmt := cnt_mono vs hm
  have hcl := cnt_le vs t
  have hk : swN vs m ≤ cnt vs t := by rcases swN_cnt h m with ⟨_, e⟩ | ⟨_, e⟩ <;> omega
  have hd := cnt_drop h t hk
  by_cases h0 : cnt vs t = swN vs m
  · rw [(h.drop _).asOf0 t (by omega)]
    rcases swN_cnt h m with ⟨g, e⟩ | ⟨g, e⟩
    · have hg := gone_nil g
      cases hc : cnt vs t with
      | zero => exact (h.asOf0 t hc).symm
      | succ j =>
        have hjl : j < vs.length := by omega
        rw [h.asOf1 t j hc hjl, ← h.asOf1 m j (by omega) hjl, hg]
    · omega
  · obtain ⟨j, hj⟩ : ∃ j, cnt vs t - swN vs m = j + 1 := ⟨cnt vs t - swN vs m - 1, by omega⟩
    have hjl : j < (vs.drop (swN vs m)).length := by rw [List.length_drop]; omega
    have hcl2 : swN vs m + j < vs.length := by omega
    rw [(h.drop _).asOf1 t j (by omega) hjl, h.asOf1 t (swN vs m + j) (by omega) hcl2]
    simp
theorem cnt_left {vs : List Ver} (h : Rise vs) (m : Int) : cnt (vs.drop (swN vs m)) m ≤ 1 := by
  have hk : swN vs m ≤ cnt vs m := by rcases swN_cnt h m with ⟨_, e⟩ | ⟨_, e⟩ <;> omega
  rw [cnt_drop h m hk]
  rcases swN_cnt h m with ⟨_, e⟩ | ⟨_, e⟩ <;> omega
theorem swN_again {vs : List Ver} (h : Rise vs) (m : Int) : swN (vs.drop (swN vs m)) m = 0 := by
  have hd := asOf_drop h (Int.le_refl m)
  rcases swN_cnt (h.drop (swN vs m)) m with ⟨g, e⟩ | ⟨g, e⟩
  · rw [hd] at g
    rcases swN_cnt h m with ⟨g2, e2⟩ | ⟨g2, e2⟩
    · rw [e, cnt_drop h m (by omega)]; omega
    · rw [g] at g2; cases g2
  · have := cnt_left h m
    omega
theorem cnt_step {vs : List Ver} {s : Int} {k : Nat} (h : k < vs.length) : cnt (vs.take (k + 1)) s = cnt (vs.take k) s + if vs[k].1 ≤ s then 1 else 0 := by
  unfold cnt
  rw [List.take_succ_eq_append_getElem h, List.countP_append]
  by_cases h1 : vs[k].1 ≤ s <;> simp [h1]

/-- append of so many versions onto an own row -/
theorem wpList_append_vers (t e : TypeId) (ht : Try.prog.underlying t = some (.slice e)) (hinfo : (Try.prog.info? e).map (fun i => (i.zero, i.size, i.bytes)) = some (some (.agg #[.int .u64 0, .slice none 0 0]), 2, 32))
    (w : World) {ops : Array Oper} {rest : List Oper} {o : Oper} {a : Act} {Q : Exit → Act → World → Prop} (hgd : o.guard = none) (s x : Operand)
    (ho : o.op = .call { callee := .builtin .append, args := #[s, x], argTypes := #[t, t] }) (base : Nat) (v : Value) (n : Nat) (xs : List Value) (hs : a.eval s = v) (hown : w.ownsRow base e 2 v n xs)
    (A : Option Addr) (m c : Nat) (news : List Value) (hx : a.eval x = .slice A m c) (hl : news.length = m * 2) (hnews : ∀ j u, news[j]? = some u → ∃ ad, A = some ad ∧ w.cell? (ad.add j) = some u) (h1 : ∀ u ∈ news, u.oneCell' = true)
    (h63 : n + m ≤ 3000000) (hbase : base ≤ w.heap.size)
    (k : ∀ A' c' w', w'.ownsRow base e 2 (.slice A' (n + m) c') (n + m) (xs ++ news) → w.grownBy w' v.ownBlock → ((Value.slice A' (n + m) c').ownBlock = v.ownBlock ∨ (Value.slice A' (n + m) c').ownBlock = some w.heap.size) → wpList Try.prog ops Q rest (a.put o.dst (.slice A' (n + m) c')) w') :
    wpList Try.prog ops Q (o :: rest) a w := by
  obtain ⟨i0, hi, hz0, hz1, hz2⟩ := info_parts hinfo
  rcases Nat.eq_zero_or_pos m with h0 | h0
  · subst h0
    have hn : news = [] := List.eq_nil_of_length_eq_zero (by omega)
    subst hn
    have hv : ∃ A0 c0, v = .slice A0 n c0 := by
      rcases hown.2 with ⟨rfl, rfl⟩ | ⟨g, cap, cur, rfl, _⟩
      · exact ⟨none, 0, rfl⟩
      · exact ⟨_, cap, rfl⟩
    obtain ⟨A0, c0, rfl⟩ := hv
    refine wpList_plain hgd fun K hK => ?_
    have hrun := run_append0 w o.type base t e i0 ht hi _ n 2 xs hown A c
    unfold Oper.wp
    simp [execOp, ho, resolve, invoke, builtin, hs, hx, hrun, Result.andThen]
    exact hK _ _ (k A0 c0 w (by simpa using hown) (World.grownBy.refl w _) (.inl rfl))
  · obtain ⟨ad, rfl, _⟩ := hnews 0 (news[0]'(by omega)) (by simp)
    refine wpList_append_lies w hgd s x t ho base e i0 _ 2 32 ht hi hz0 hz1 hz2 rfl (by omega) v n xs hs hown ad m c news hx hl (fun j u hj => ?_) h1 h0 (by unfold maxLen; omega) (by omega) hbase w.heap.size rfl (fun g cap w' k1 k2 k3 _ => k _ cap w' k1 k2 ?_)
    · obtain ⟨ad', e, hc⟩ := hnews j u hj
      injection e with e
      subst e
      exact hc
    · rcases k3 with e | e
      · exact .inl e.symm
      · exact .inr (by rw [e]; rfl)

/-- .. onto an empty one -/
theorem wpList_append_first (t e : TypeId) (ht : Try.prog.underlying t = some (.slice e)) (hinfo : (Try.prog.info? e).map (fun i => (i.zero, i.size, i.bytes)) = some (some (.agg #[.int .u64 0, .slice none 0 0]), 2, 32))
    (w : World) {ops : Array Oper} {rest : List Oper} {o : Oper} {a : Act} {Q : Exit → Act → World → Prop} (hgd : o.guard = none) (s x : Operand)
    (ho : o.op = .call { callee := .builtin .append, args := #[s, x], argTypes := #[t, t] }) (base : Nat) (v : Value) (hs : a.eval s = v) (hown : w.ownsRow base e 2 v 0 [])
    (A : Option Addr) (m c : Nat) (news : List Value) (hx : a.eval x = .slice A m c) (hl : news.length = m * 2) (hnews : ∀ j u, news[j]? = some u → ∃ ad, A = some ad ∧ w.cell? (ad.add j) = some u) (h1 : ∀ u ∈ news, u.oneCell' = true)
    (h63 : m ≤ 3000000) (hbase : base ≤ w.heap.size)
    (k : ∀ A' c' w', w'.ownsRow base e 2 (.slice A' m c') m news → w.grownBy w' v.ownBlock → ((Value.slice A' m c').ownBlock = v.ownBlock ∨ (Value.slice A' m c').ownBlock = some w.heap.size) → wpList Try.prog ops Q rest (a.put o.dst (.slice A' m c')) w') :
    wpList Try.prog ops Q (o :: rest) a w := by
  refine wpList_append_vers t e ht hinfo w hgd s x ho base v 0 [] hs hown A m c news hx hl hnews h1 (by omega) hbase fun A' c' w' k1 k2 k3 => ?_
  rw [Nat.zero_add] at k1 k3 ⊢
  exact k A' c' w' k1 k2 k3

end Go.Proofs.Ytphcakhhjjdpiaa
