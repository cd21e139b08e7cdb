/-
  A number, a text, a vector have just one form: plain facts.
-/
import Derived.Test.YtlambcmikfihgaaVMath
namespace Go.Proofs.Ytlambcmikfihgaa

/-- bytes of a number whose last isn't 0 -/
def tailC : List Int → Prop
  | [] => False
  | [x] => 0 < x ∧ x < 128
  | x :: y :: r => 128 ≤ x ∧ x < 256 ∧ tailC (y :: r)

theorem tailC_vi : ∀ t : List Int, tailC t → 0 < val t ∧ vi (val t) = t
  | [], h => h.elim
  | [x], h => by
    obtain ⟨h1, h2⟩ := h
    have e : val [x] = x.toNat := by simp [val]; omega
    refine ⟨by omega, ?_⟩
    rw [e, vi_lt (by omega)]
    congr 1
    omega
  | x :: y :: r, h => by
    obtain ⟨h1, h2, h3⟩ := h
    obtain ⟨k1, k2⟩ := tailC_vi (y :: r) h3
    have e : val (x :: y :: r) = (x % 128).toNat + 128 * val (y :: r) := rfl
    refine ⟨by omega, ?_⟩
    rw [e, vi_ge (by omega)]
    have e1 : ((x % 128).toNat + 128 * val (y :: r)) / 128 = val (y :: r) := by omega
    have e2 : ((((x % 128).toNat + 128 * val (y :: r)) % 128 + 128 : Nat) : Int) = x := by omega
    rw [e1, e2, k2]

theorem nsz_tail : ∀ l : List Int, 0 < nsz l → (∀ x ∈ l, 0 ≤ x ∧ x < 256) → l.getD (nsz l - 1) 0 ≠ 0 → tailC (l.take (nsz l))
  | [], h, _, _ => by simp [nsz] at h
  | x :: r, h, h8, hl => by
    have hx := h8 x (List.mem_cons_self ..)
    by_cases hlt : x < 128
    · have e : nsz (x :: r) = 1 := by simp [nsz, hlt]
      rw [e] at hl ⊢
      simp at hl
      simp only [List.take_succ_cons, List.take_zero]
      exact ⟨by omega, hlt⟩
    · by_cases h0 : nsz r = 0
      · simp [nsz, hlt, h0] at h
      · have e : nsz (x :: r) = nsz r + 1 := by simp [nsz, hlt, h0]
        rw [e] at hl ⊢
        have hl' : r.getD (nsz r - 1) 0 ≠ 0 := by
          obtain ⟨k, hk⟩ : ∃ k, nsz r = k + 1 := ⟨nsz r - 1, by omega⟩
          rw [hk] at hl ⊢
          simpa using hl
        have ih := nsz_tail r (by omega) (fun z hz => h8 z (List.mem_cons_of_mem _ hz)) hl'
        rw [List.take_succ_cons]
        generalize r.take (nsz r) = t at ih
        cases t with
        | nil => exact ih.elim
        | cons y t => exact ⟨by omega, hx.2, ih⟩

/-- A number that is read has the bytes that it was read of. -/
theorem numR_form {l : List Int} {most n s : Nat} (h8 : ∀ x ∈ l, 0 ≤ x ∧ x < 256) (h : numR l most = (n, s, 0)) : l.take s = vi n ∧ s ≤ l.length ∧ n ≤ most := by
  have hle := numR_le l most
  have hor := numR_or l most
  rw [h] at hle hor
  have hs : s ≤ l.length := by rcases hor with ⟨k, _⟩ | ⟨_, k⟩; exact absurd rfl k; exact k
  refine ⟨?_, hs, hle⟩
  unfold numR at h
  by_cases h0 : nsz l = 0
  · rw [if_pos h0] at h; simp at h
  · rw [if_neg h0] at h
    cases hb : badForm l with
    | true => rw [hb, if_pos rfl] at h; simp at h
    | false =>
      rw [hb, if_neg (by simp)] at h
      by_cases hm : most < val (l.take (nsz l))
      · rw [if_pos hm] at h; simp at h
      · rw [if_neg hm] at h
        simp only [Prod.mk.injEq, and_true] at h
        obtain ⟨rfl, rfl⟩ := h
        have hbad := of_decide_eq_false hb
        by_cases h1 : nsz l = 1
        · cases l with
          | nil => simp [nsz] at h0
          | cons x r =>
            have hx := h8 x (List.mem_cons_self ..)
            have hlt : x < 128 := by
              simp only [nsz] at h1
              split at h1
              · assumption
              · split at h1 <;> omega
            rw [h1]
            simp only [List.take_succ_cons, List.take_zero]
            have e : val [x] = x.toNat := by simp [val]; omega
            rw [e, vi_lt (by omega)]
            congr 1
            omega
        · have hl : l.getD (nsz l - 1) 0 ≠ 0 := fun e => hbad (.inl ⟨by omega, e⟩)
          exact (tailC_vi _ (nsz_tail l (by omega) h8 hl)).2.symm

theorem text_form {l t l' : List Int} {most : Nat} (h8 : ∀ x ∈ l, 0 ≤ x ∧ x < 256) (h : textR l most = (t, l', 0)) : vi t.length ++ t ++ l' = l := by
  unfold textR at h
  obtain ⟨⟨n, s, f⟩, hR⟩ : ∃ r, numR l most = r := ⟨_, rfl⟩
  rw [hR] at h
  simp only at h
  by_cases hf : f = 0
  · subst hf
    rw [if_neg (by simp)] at h
    obtain ⟨k1, k2, _⟩ := numR_form h8 hR
    by_cases hn : l.length - s < n
    · rw [if_pos hn] at h; simp at h
    · rw [if_neg hn] at h
      simp only [Prod.mk.injEq, and_true] at h
      obtain ⟨rfl, rfl⟩ := h
      have hlen : ((l.drop s).take n).length = n := by rw [List.length_take, List.length_drop]; omega
      rw [hlen, ← k1, ← List.drop_drop, List.append_assoc, List.take_append_drop, List.take_append_drop]
  · rw [if_pos hf] at h
    simp only [Prod.mk.injEq] at h
    exact absurd h.2.2 hf

theorem textR_len (l : List Int) (most : Nat) : (textR l most).1.length ≤ l.length := by
  unfold textR
  repeat' split
  all_goals simp
  omega

theorem fold_unf {n : Nat} : foldI (unfI n) = n := by
  unfold foldI unfI
  split
  · rw [if_pos (by omega)]; omega
  · rw [if_neg (by omega)]; omega

theorem wholes_form : ∀ (k : Nat) (l xs : List Int) (d : Nat), (∀ x ∈ l, 0 ≤ x ∧ x < 256) → wholesR k l = (xs, d, 0) → l.take d = wholes xs ∧ xs.length = k ∧ d ≤ l.length ∧ ∀ x ∈ xs, I32 x
  | 0, l, xs, d, _, h => by
    simp only [wholesR, Prod.mk.injEq, and_true] at h
    obtain ⟨rfl, rfl⟩ := h
    simp [wholes]
  | k + 1, l, xs, d, h8, h => by
    obtain ⟨⟨n, s, f⟩, hR⟩ : ∃ r, numR l M64 = r := ⟨_, rfl⟩
    obtain ⟨⟨ys, e, g⟩, hW⟩ : ∃ r, wholesR k (l.drop s) = r := ⟨_, rfl⟩
    simp only [wholesR, hR, hW] at h
    by_cases hf : f = 0
    · subst hf
      rw [if_neg (by simp)] at h
      by_cases hn : 4294967295 < n
      · rw [if_pos hn] at h; simp at h
      · rw [if_neg hn] at h
        by_cases hg : g = 0
        · subst hg
          rw [if_neg (by simp)] at h
          simp only [Prod.mk.injEq, and_true] at h
          obtain ⟨rfl, rfl⟩ := h
          obtain ⟨k1, k2, _⟩ := numR_form h8 hR
          obtain ⟨w1, w2, w3, w4⟩ := wholes_form k (l.drop s) ys e (fun x hx => h8 x (List.mem_of_mem_drop hx)) hW
          rw [List.length_drop] at w3
          refine ⟨?_, by simp [w2], by omega, ?_⟩
          · rw [List.take_add, k1, w1]
            simp [wholes, fold_unf]
          · intro x hx
            rcases List.mem_cons.1 hx with rfl | hx
            · exact unfI_i32 (by omega)
            · exact w4 x hx
        · rw [if_pos hg] at h
          simp only [Prod.mk.injEq] at h
          exact absurd h.2.2 hg
    · rw [if_pos hf] at h
      simp only [Prod.mk.injEq] at h
      exact absurd h.2.2 hf

theorem vec_form {l xs : List Int} {most d : Nat} (h8 : ∀ x ∈ l, 0 ≤ x ∧ x < 256) (h : vecR l most = (xs, d, 0)) : l.take d = vecB xs ∧ xs.length ≤ most ∧ d ≤ l.length ∧ ∀ x ∈ xs, I32 x := by
  unfold vecR at h
  obtain ⟨⟨n, s, f⟩, hR⟩ : ∃ r, numR l most = r := ⟨_, rfl⟩
  rw [hR] at h
  simp only at h
  by_cases hf : f = 0
  · subst hf
    rw [if_neg (by simp)] at h
    obtain ⟨⟨ys, e, g⟩, hW⟩ : ∃ r, wholesR n (l.drop s) = r := ⟨_, rfl⟩
    rw [hW] at h
    unfold ahead at h
    by_cases hg : g = 0
    · subst hg
      rw [if_neg (by simp)] at h
      simp only [List.nil_append, Prod.mk.injEq, and_true] at h
      obtain ⟨rfl, rfl⟩ := h
      obtain ⟨k1, k2, k3⟩ := numR_form h8 hR
      obtain ⟨w1, w2, w3, w4⟩ := wholes_form n (l.drop s) ys e (fun x hx => h8 x (List.mem_of_mem_drop hx)) hW
      rw [List.length_drop] at w3
      refine ⟨?_, by omega, by omega, w4⟩
      rw [List.take_add, k1, w1, vecB, w2]
    · rw [if_pos hg] at h
      simp only [Prod.mk.injEq] at h
      exact absurd h.2.2 hg
  · rw [if_pos hf] at h
    simp only [Prod.mk.injEq] at h
    exact absurd h.2.2 hf

theorem vecR_ok {l : List Int} {most : Nat} (h8 : ∀ x ∈ l, 0 ≤ x ∧ x < 256) : (vecR l most).1.length ≤ most ∧ ∀ x ∈ (vecR l most).1, I32 x := by
  rcases vecR_or l most with ⟨_, h, _⟩ | h
  · rw [h]; simp
  · obtain ⟨⟨xs, d, f⟩, hR⟩ : ∃ r, vecR l most = r := ⟨_, rfl⟩
    rw [hR] at h ⊢
    simp only at h
    subst h
    obtain ⟨_, h2, _, h4⟩ := vec_form h8 hR
    exact ⟨h2, h4⟩

end Go.Proofs.Ytlambcmikfihgaa
