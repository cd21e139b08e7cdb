/-
  As many edges as there are, each from both sides.
-/
import Derived.Test.YtdfmgfclcbeeiaaGLaw1
namespace Go.Proofs.Ytdfmgfclcbeeiaa
open Go.RowKit Go.Maps Go.Sort
set_option linter.unusedSimpArgs false
set_option linter.unusedVariables false

def sumL (g : Int → Nat) (N : List Int) : Nat := (N.map g).sum
theorem sumL_add (g h : Int → Nat) (N : List Int) : sumL (fun k => g k + h k) N = sumL g N + sumL h N := by
  induction N with
  | nil => rfl
  | cons k N ih =>
    have h1 : ∀ f : Int → Nat, sumL f (k :: N) = f k + sumL f N := fun f => rfl
    rw [h1, h1, h1, ih]; omega
theorem sumL_zero (g : Int → Nat) (N : List Int) (h : ∀ k ∈ N, g k = 0) : sumL g N = 0 := by
  induction N with
  | nil => rfl
  | cons k N ih =>
    show g k + sumL g N = 0
    rw [h k (by simp), ih fun k hk => h k (by simp [hk])]
theorem sumL_one (N : List Int) (hN : N.Nodup) (a : Int) (ha : a ∈ N) : sumL (fun k => if a = k then 1 else 0) N = 1 := by
  induction N with
  | nil => simp at ha
  | cons k N ih =>
    obtain ⟨h1, h2⟩ := List.nodup_cons.1 hN
    show (if a = k then 1 else 0) + sumL _ N = 1
    by_cases e : a = k
    · subst e
      rw [if_pos rfl, sumL_zero _ N fun k hk => if_neg fun e => h1 (by rw [e]; exact hk)]
    · rw [if_neg e, ih h2 (by simpa [e] using ha)]
theorem sumL_congr {g h : Int → Nat} {N : List Int} (hh : ∀ k ∈ N, g k = h k) : sumL g N = sumL h N := by
  unfold sumL
  rw [List.map_congr_left hh]
theorem sumL_snoc (g : Int → Nat) (N : List Int) (k : Int) : sumL g (N ++ [k]) = sumL g N + g k := by simp [sumL]

/-- has e an end at k? -/
def endAt (soft : Bool) (e : Edg) (k : Int) : Nat := if okE soft e = true ∧ (e.1 = k ∨ e.2.1 = k) then 1 else 0
theorem near_snoc_len (E : List Edg) (e : Edg) (k : Int) (soft : Bool) : (nearL (E ++ [e]) k soft).length = (nearL E k soft).length + endAt soft e k := by
  rw [nearL_snoc]
  unfold nearS endAt okE
  by_cases hs : (soft && e.2.2) = true
  · rw [if_pos hs, hs]; simp
  · have hs' : (soft && e.2.2) = false := by simpa using hs
    rw [if_neg hs, hs']
    by_cases h1 : e.1 = k
    · rw [if_pos h1, putL_len]; simp [h1]
    · rw [if_neg h1]
      by_cases h2 : e.2.1 = k
      · rw [if_pos h2, putL_len]; simp [h2]
      · rw [if_neg h2]; simp [h1, h2]

theorem degrees (soft : Bool) (N : List Int) (hN : N.Nodup) : ∀ E : List Edg, GoodE N E → sumL (fun k => (nearL E k soft).length) N = 2 * (E.filter (okE soft)).length := by
  intro E
  refine snoc_ind (P := fun E => GoodE N E → sumL (fun k => (nearL E k soft).length) N = 2 * (E.filter (okE soft)).length) ?_ ?_ E
  · intro _; exact sumL_zero _ _ fun k _ => by simp [nearL]
  · intro E e ih h
    have hE : GoodE N E := ⟨fun e he => h.lt e (by simp [he]), fun e he => h.mem e (by simp [he]), (List.pairwise_append.1 h.one).1⟩
    have hlt := h.lt e (by simp)
    have hm := h.mem e (by simp)
    rw [sumL_congr (h := fun k => (nearL E k soft).length + endAt soft e k) (fun k _ => near_snoc_len E e k soft), sumL_add, ih hE, List.filter_append, List.length_append]
    have hs : sumL (endAt soft e) N = 2 * ([e].filter (okE soft)).length := by
      cases hok : okE soft e with
      | false => rw [sumL_zero _ _ fun k _ => by unfold endAt; rw [hok]; simp]; simp [hok]
      | true =>
        rw [sumL_congr (h := fun k => (if e.1 = k then 1 else 0) + (if e.2.1 = k then 1 else 0)) (fun k _ => by
          unfold endAt
          rw [hok]
          by_cases h1 : e.1 = k <;> by_cases h2 : e.2.1 = k
          · omega
          · simp [h1, h2]
          · simp [h1, h2]
          · simp [h1, h2]), sumL_add, sumL_one N hN _ hm.1, sumL_one N hN _ hm.2]
        simp [hok]
    rw [show sumL (fun k => endAt soft e k) N = sumL (endAt soft e) N from rfl, hs]
    omega

theorem near_len {N : List Int} {E : List Edg} (h : GoodE N E) {k : Int} {zs : List Int} (hr : Rise (fun z => fE E k z ≠ 0) zs) : zs.length = (nearL E k false).length := by
  rw [rise_one hr (ys := nearL E k false) ⟨(nearL_rise false k N E h).1, fun y => ((nearL_rise false k N E h).2 y).trans (by
    show (∃ e ∈ E, okE false e = true ∧ lnk e k y = true) ↔ fE E k y ≠ 0
    rw [fE_ne]
    simp [okE])⟩]
theorem soft_len {N : List Int} {E : List Edg} (h : GoodE N E) {k : Int} {zs : List Int} (hr : Rise (fun z => fE E k z = 1) zs) : zs.length = (nearL E k true).length := by
  rw [rise_one hr (ys := nearL E k true) ⟨(nearL_rise true k N E h).1, fun y => ((nearL_rise true k N E h).2 y).trans (by
    show (∃ e ∈ E, okE true e = true ∧ lnk e k y = true) ↔ fE E k y = 1
    rw [fE_one h]
    constructor
    · rintro ⟨e, h1, h2, h3⟩; exact ⟨e, h1, h3, by simpa [okE] using h2⟩
    · rintro ⟨e, h1, h2, h3⟩; exact ⟨e, h1, by simp [okE, h3], h2⟩)⟩]
/-- how many are needed -/
def needs (E : List Edg) : Nat := (E.filter fun e => e.2.2).length
theorem needs_snoc (E : List Edg) (e : Edg) : needs (E ++ [e]) = needs E + if e.2.2 then 1 else 0 := by
  unfold needs
  rw [List.filter_append, List.length_append]
  cases h : e.2.2 <;> simp [h]
theorem needs_le (E : List Edg) : needs E ≤ E.length := List.length_filter_le _ _
theorem ok_len (E : List Edg) : (E.filter (okE false)).length = E.length ∧ (E.filter (okE true)).length + needs E = E.length := by
  constructor
  · rw [List.filter_eq_self.2 fun e _ => by simp [okE]]
  · have h2 : okE true = fun e => !e.2.2 := by funext e; simp [okE]
    rw [h2]
    unfold needs
    induction E with
    | nil => rfl
    | cons e E ih => cases h : e.2.2 <;> simp [h] <;> omega

end Go.Proofs.Ytdfmgfclcbeeiaa
