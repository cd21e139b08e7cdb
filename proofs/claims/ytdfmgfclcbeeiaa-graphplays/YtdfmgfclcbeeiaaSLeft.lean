/-
  What is left to sort: a part of the row, such that any sorted permutation of the part makes the whole a sorted permutation.
-/
import Derived.Test.YtdfmgfclcbeeiaaSPartial
import Derived.Sort.LotD2
namespace Go.Proofs.Ytdfmgfclcbeeiaa
open Go.RowKit Go.Sort
set_option linter.unusedSimpArgs false
set_option linter.unusedVariables false

/-- of [a, b) of d there is only [s, t) of e left to sort -/
structure Lft (a b : Nat) (d : Array Int) (s t : Nat) (e : Array Int) : Prop where
  low : Go.Sort.Below ltInt s t e
  fin : ∀ R, PermIn s t e R → SortedIn ltInt s t R → PermIn a b d R ∧ SortedIn ltInt a b R

variable {a b s t mid : Nat} {d e f L : Array Int}

theorem Lft.start (h : Go.Sort.Below ltInt a b d) : Lft a b d a b d := ⟨h, fun _ hp hs => ⟨hp, hs⟩⟩

theorem Lft.perm (h : Lft a b d s t e) (ht : t ≤ e.size) (hp : PermIn s t e f) : Lft a b d s t f :=
  ⟨h.low.perm ht hp, fun R hR hs => h.fin R (permIn_trans _ _ _ _ _ hp hR) hs⟩

/-- what is equal to the pivot stands in front: the rest is left -/
theorem Lft.eq (h : Lft a b d s t e) {pv : Nat} (hs0 : 0 < s) (hpv : s ≤ pv ∧ pv < t) (ht : t ≤ e.size) (hmid : s < mid ∧ mid ≤ t) (hno : ltInt e[s - 1]! e[pv]! = false) (hp : PermIn s t e f)
    (hle : ∀ i, s ≤ i → i < mid → ltInt e[pv]! f[i]! = false) (hgt : ∀ i, mid ≤ i → i < t → ltInt e[pv]! f[i]! = true) : Lft a b d mid t f := by
  have hlow := (h.perm ht hp).low
  have htf : t ≤ f.size := by rw [hp.1]; exact ht
  have hf0 : f[s - 1]! = e[s - 1]! := hp.2.1 _ (Or.inl (by omega))
  have hge : ∀ i, s ≤ i → i < t → ltInt f[i]! e[pv]! = false := fun i h1 h2 => by
    rcases hlow with h0 | h0
    · omega
    · have := h0 i h1 h2
      rw [hf0] at this
      simp [ltInt] at this hno ⊢
      omega
  refine ⟨Or.inr fun i h1 h2 => ?_, fun R hR hs => h.fin R (permIn_trans _ _ _ _ _ hp (permIn_mono _ _ mid t s t (by omega) (Nat.le_refl _) htf hR)) ?_⟩
  · have k1 := hgt i h1 h2
    have k2 := hle (mid - 1) (by omega) (by omega)
    simp [ltInt] at k1 k2 ⊢
    omega
  · refine sorted_glue_eq swo_ltInt e[pv]! hs (fun i h1 h2 => ?_) (fun i h1 h2 => ?_) (permIn_all f R mid t (fun x => ltInt e[pv]! x = true) htf hR hgt)
    · rw [hR.2.1 i (Or.inl h2)]; exact hle i h1 h2
    · rw [hR.2.1 i (Or.inl h2)]; exact hge i h1 (by omega)

/-- the part left of the pivot's place can be sorted by itself; behind it the right part is left -/
theorem Lft.left (h : Lft a b d s t e) (ht : t ≤ e.size) (hmid : s ≤ mid ∧ mid < t) (hp : PermIn s t e f) (hlo : ∀ i, s ≤ i → i < mid → ltInt f[i]! f[mid]! = true) (hhi : ∀ i, mid < i → i < t → ltInt f[i]! f[mid]! = false) :
    Go.Sort.Below ltInt s mid f ∧ ∀ L, PermIn s mid f L → SortedIn ltInt s mid L → Lft a b d (mid + 1) t L := by
  have h1 := h.perm ht hp
  have htf : t ≤ f.size := by rw [hp.1]; exact ht
  refine ⟨h1.low.mono (by omega), fun L hL hsL => ?_⟩
  have hLs : t ≤ L.size := by rw [hL.1]; exact htf
  have hLr : ∀ i, mid ≤ i → L[i]! = f[i]! := fun i hi => hL.2.1 i (Or.inr hi)
  have hLl := permIn_all f L s mid (fun x => ltInt x f[mid]! = true) (by omega) hL hlo
  have hLh : ∀ i, mid + 1 ≤ i → i < t → ltInt L[i]! f[mid]! = false := fun i k1 k2 => by rw [hLr i (by omega)]; exact hhi i (by omega) k2
  refine ⟨Or.inr fun i k1 k2 => ?_, fun R hR hs => h1.fin R (permIn_trans _ _ _ _ _ (permIn_mono _ _ s mid s t (Nat.le_refl _) (by omega) htf hL) (permIn_mono _ _ (mid + 1) t s t (by omega) (Nat.le_refl _) hLs hR)) ?_⟩
  · rw [show mid + 1 - 1 = mid from by omega, hLr mid (Nat.le_refl _)]; exact hLh i k1 k2
  · have hRl : ∀ i, i ≤ mid → R[i]! = L[i]! := fun i hi => hR.2.1 i (Or.inl (by omega))
    have hm : R[mid]! = f[mid]! := by rw [hRl mid (Nat.le_refl _), hLr mid (Nat.le_refl _)]
    refine sorted_glue swo_ltInt (hsL.congr fun i _ k2 => hRl i (by omega)) hs (fun i k1 k2 => ?_) (fun i k1 k2 => ?_)
    · rw [hm, hRl i (by omega)]; exact hLl i k1 k2
    · rw [hm]; exact permIn_all L R (mid + 1) t (fun x => ltInt x f[mid]! = false) hLs hR hLh i (by omega) k2

/-- the part right of it can be sorted by itself; behind it the left part is left -/
theorem Lft.right (h : Lft a b d s t e) (ht : t ≤ e.size) (hmid : s ≤ mid ∧ mid < t) (hp : PermIn s t e f) (hlo : ∀ i, s ≤ i → i < mid → ltInt f[i]! f[mid]! = true) (hhi : ∀ i, mid < i → i < t → ltInt f[i]! f[mid]! = false) :
    Go.Sort.Below ltInt (mid + 1) t f ∧ ∀ L, PermIn (mid + 1) t f L → SortedIn ltInt (mid + 1) t L → Lft a b d s mid L := by
  have h1 := h.perm ht hp
  have htf : t ≤ f.size := by rw [hp.1]; exact ht
  refine ⟨Or.inr fun i k1 k2 => by rw [show mid + 1 - 1 = mid from by omega]; exact hhi i (by omega) k2, fun L hL hsL => ?_⟩
  have hLs : t ≤ L.size := by rw [hL.1]; exact htf
  have hLl : ∀ i, i ≤ mid → L[i]! = f[i]! := fun i hi => hL.2.1 i (Or.inl (by omega))
  have hLh := permIn_all f L (mid + 1) t (fun x => ltInt x f[mid]! = false) htf hL (fun i k1 k2 => hhi i (by omega) k2)
  have hLo : ∀ i, s ≤ i → i < mid → ltInt L[i]! f[mid]! = true := fun i k1 k2 => by rw [hLl i (by omega)]; exact hlo i k1 k2
  refine ⟨?_, fun R hR hs => h1.fin R (permIn_trans _ _ _ _ _ (permIn_mono _ _ (mid + 1) t s t (by omega) (Nat.le_refl _) htf hL) (permIn_mono _ _ s mid s t (Nat.le_refl _) (by omega) hLs hR)) ?_⟩
  · rcases h1.low with h0 | h0
    · exact Or.inl h0
    · exact Or.inr fun i k1 k2 => by rw [hLl i (by omega), hLl (s - 1) (by omega)]; exact h0 i k1 (by omega)
  · have hRr : ∀ i, mid ≤ i → R[i]! = L[i]! := fun i hi => hR.2.1 i (Or.inr hi)
    have hm : R[mid]! = f[mid]! := by rw [hRr mid (Nat.le_refl _), hLl mid (Nat.le_refl _)]
    refine sorted_glue swo_ltInt hs (hsL.congr fun i k1 _ => hRr i (by omega)) (fun i k1 k2 => ?_) (fun i k1 k2 => ?_)
    · rw [hm]; exact permIn_all L R s mid (fun x => ltInt x f[mid]! = true) (by omega) hR hLo i k1 k2
    · rw [hm, hRr i (by omega)]; exact hLh i (by omega) k2

end Go.Proofs.Ytdfmgfclcbeeiaa
