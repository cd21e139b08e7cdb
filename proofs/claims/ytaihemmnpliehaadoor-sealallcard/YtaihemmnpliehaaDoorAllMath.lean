/-
  What All answers: what the frames in front carry, and where they end. No program in it.
-/
import Derived.Test.YtaihemmnpliehaaDoorNext
namespace Go.Proofs.YtaihemmnpliehaaDoor

def allF : Nat → List Int → List (List Int)
  | 0, _ => []
  | n + 1, p => if (endS p).2 ≠ 0 then [] else (p.drop 6).take ((endS p).1 - 6) :: allF n (p.drop (endS p).1)
def endF : Nat → List Int → Nat
  | 0, _ => 0
  | n + 1, p => if (endS p).2 ≠ 0 then 0 else (endS p).1 + endF n (p.drop (endS p).1)
theorem endS_nil : (endS []).2 ≠ 0 := by decide
theorem fuel : ∀ (n m : Nat) (p : List Int), p.length ≤ n → p.length ≤ m → allF n p = allF m p ∧ endF n p = endF m p
  | 0, 0, _, _, _ => ⟨rfl, rfl⟩
  | 0, m + 1, p, h, _ => by
    have : p = [] := List.eq_nil_of_length_eq_zero (by omega)
    subst this
    simp [allF, endF, endS_nil]
  | n + 1, 0, p, _, h => by
    have : p = [] := List.eq_nil_of_length_eq_zero (by omega)
    subst this
    simp [allF, endF, endS_nil]
  | n + 1, m + 1, p, h1, h2 => by
    by_cases hf : (endS p).2 = 0
    · have hg := endS_ge hf
      have := fuel n m (p.drop (endS p).1) (by rw [List.length_drop]; omega) (by rw [List.length_drop]; omega)
      simp [allF, endF, hf, this.1, this.2]
    · simp [allF, endF, hf]
def allS (p : List Int) : List (List Int) := allF p.length p
def endA (p : List Int) : Nat := endF p.length p
theorem all_stop {p : List Int} (h : (endS p).2 ≠ 0) : allS p = [] ∧ endA p = 0 := by
  unfold allS endA
  cases hl : p.length with
  | zero => exact ⟨rfl, rfl⟩
  | succ n => simp [allF, endF, h]
theorem all_go {p : List Int} (h : (endS p).2 = 0) : allS p = (p.drop 6).take ((endS p).1 - 6) :: allS (p.drop (endS p).1) ∧ endA p = (endS p).1 + endA (p.drop (endS p).1) := by
  have hg := endS_ge h
  obtain ⟨n, hn⟩ : ∃ n, p.length = n + 1 := ⟨p.length - 1, by omega⟩
  have hf := fuel n (p.drop (endS p).1).length (p.drop (endS p).1) (by rw [List.length_drop]; omega) (Nat.le_refl _)
  unfold allS endA
  rw [hn]
  simp [allF, endF, h, hf.1, hf.2]
theorem endA_le : ∀ (n : Nat) (p : List Int), p.length ≤ n → endA p ≤ p.length
  | 0, p, h => by
    have : p = [] := List.eq_nil_of_length_eq_zero (by omega)
    subst this; exact Nat.le_refl _
  | n + 1, p, h => by
    by_cases hf : (endS p).2 = 0
    · have hg := endS_ge hf
      have ih := endA_le n (p.drop (endS p).1) (by rw [List.length_drop]; omega)
      rw [(all_go hf).2]
      rw [List.length_drop] at ih
      omega
    · rw [(all_stop hf).2]; omega

/-- a frame in front -/
theorem endS_front {l q : List Int} (hl : l.length ≤ 4096) (h8 : Bytes8 l) : endS (frameOf l ++ q) = (6 + l.length, 0) := by
  have h3 := frameOf_len l
  have h4 := said4_frameOf h8
  have hz := saidSize_frameOf hl
  have e1 : saidSize (frameOf l ++ q) = l.length := by
    rw [← hz]; unfold saidSize
    simp [frameOf, le32, le16]
  have e2 : said4 (frameOf l ++ q) 4 = sumOf (le16 l.length ++ l) := by
    rw [← h4]
    simp [said4, frameOf, le32, le16]
  have e3 : ((frameOf l ++ q).drop 4).take (2 + l.length) = le16 l.length ++ l := by
    have e : (frameOf l ++ q).drop 4 = (le16 l.length ++ l) ++ q := by simp [frameOf, le32]
    rw [e, List.take_append_of_le_length (by simp [le16]; omega)]
    exact List.take_of_length_le (by simp [le16]; omega)
  unfold endS
  rw [e1, e2, e3, if_neg (by rw [List.length_append, h3]; omega), if_neg (by omega), if_neg (by rw [List.length_append, h3]; omega), if_pos rfl]
theorem all_front {l q : List Int} (hl : l.length ≤ 4096) (h8 : Bytes8 l) : allS (frameOf l ++ q) = l :: allS q ∧ endA (frameOf l ++ q) = (frameOf l).length + endA q := by
  have he := endS_front (q := q) hl h8
  have h := all_go (p := frameOf l ++ q) (by rw [he])
  rw [he] at h
  have hd : (frameOf l ++ q).drop (6 + l.length) = q := by rw [← frameOf_len, List.drop_left]
  have ht : ((frameOf l ++ q).drop 6).take (6 + l.length - 6) = l := by
    have e : (frameOf l ++ q).drop 6 = l ++ q := by simp [frameOf, le32, le16]
    rw [e, show 6 + l.length - 6 = l.length by omega, List.take_left]
  rw [hd, ht] at h
  rw [frameOf_len]
  exact h
theorem all_fronts : ∀ (ls : List (List Int)) (q : List Int), (∀ l ∈ ls, l.length ≤ 4096 ∧ Bytes8 l) → allS ((ls.map frameOf).flatten ++ q) = ls ++ allS q ∧ endA ((ls.map frameOf).flatten ++ q) = (ls.map frameOf).flatten.length + endA q
  | [], q, _ => by simp
  | l :: ls, q, h => by
    have h1 := h l (List.mem_cons_self ..)
    have ih := all_fronts ls q fun x hx => h x (List.mem_cons_of_mem _ hx)
    have hf := all_front (q := (ls.map frameOf).flatten ++ q) h1.1 h1.2
    rw [List.map_cons, List.flatten_cons, List.append_assoc, hf.1, hf.2, ih.1, ih.2, List.length_append, List.cons_append]
    exact ⟨rfl, by omega⟩

end Go.Proofs.YtaihemmnpliehaaDoor
