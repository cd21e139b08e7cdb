/-
  The contract of frameEnd, every way.
-/
import Derived.Test.YtaihemmnpliehaaDoorSaid
namespace Go.Proofs.YtaihemmnpliehaaDoor
open Go.RowKit

/-- where the frame in front ends, and the fault -/
def endS (p : List Int) : Nat × Int :=
  if p.length < 6 then (0, 2) else if 4096 < saidSize p then (0, 3) else if p.length < 6 + saidSize p then (0, 2)
  else if sumOf ((p.drop 4).take (2 + saidSize p)) = said4 p 4 then (6 + saidSize p, 0) else (0, 5)

theorem Row.piece {S : Nat → Prop} {w : World} {A A' : Option Addr} {l : List Int} (h : Row S w A (u8s l)) (s n : Nat) (hA : 0 < n → A' = A.map (·.add s)) : Row S w A' (u8s ((l.drop s).take n)) := fun j hj => by
  rw [u8s_len, List.length_take, List.length_drop] at hj
  obtain ⟨ad, rfl, q, lt, hcell⟩ := h (s + j) (by rw [u8s_len]; omega)
  rw [hA (by omega)]
  refine ⟨ad.add s, rfl, by rw [block_add]; exact q, by rw [block_add]; exact lt, ?_⟩
  rw [add_add, hcell]
  simp only [u8s, List.getElem?_map, List.getElem?_take, List.getElem?_drop]
  rw [if_pos (by omega)]

set_option maxRecDepth 100000 in
set_option maxHeartbeats 1600000 in
theorem frameEnd_rest (S : Nat → Prop) (A : Option Addr) (c : Nat) (p : List Int) (w : World) (hT : Rests w) (h0 : 0 < w.heap.size) (hrow : Row S w A (u8s p)) (hc : p.length ≤ c) (hpl : p.length ≤ 70368744177664) (h8 : Bytes8 p) (hs : 6 ≤ p.length) (hnot : ¬ (saidSize p ≤ 4096 ∧ p.length < 6 + saidSize p)) :
    Calls Tryd.prog 26 #[.slice A p.length c] w fun e w' => e = .returned (.tuple #[.int .i64 ((endS p).1 : Int), .int .i64 (endS p).2]) ∧ Below w.heap.size w w' := by
  obtain ⟨ad, rfl, _, _, c4⟩ := hrow 4 (by rw [u8s_len]; omega)
  obtain ⟨ad', e', _, _, c5⟩ := hrow 5 (by rw [u8s_len]; omega)
  injection e' with e'
  subst e'
  have h4 : 4 < p.length := by omega
  have h5 : 5 < p.length := by omega
  rw [u8s_at h4] at c4
  rw [u8s_at h5] at c5
  have b4 := h8 _ (List.getElem_mem h4)
  have b5 := h8 _ (List.getElem_mem h5)
  obtain ⟨x, hx⟩ := Int.eq_ofNat_of_zero_le b4.1
  obtain ⟨y, hy⟩ := Int.eq_ofNat_of_zero_le b5.1
  have hsz : saidSize p = x + 256 * y := by
    unfold saidSize
    rw [List.getD_eq_getElem?_getD, List.getD_eq_getElem?_getD, List.getElem?_eq_getElem h4, List.getElem?_eq_getElem h5]
    simp only [Option.getD_some]
    rw [hx, hy]; omega
  rw [hx] at c4 b4
  rw [hy] at c5 b5
  have hor := or_bytes x y (by omega) (by omega)
  have hend : endS p = if 4096 < saidSize p then (0, 3) else if p.length < 6 + saidSize p then (0, 2) else if sumOf ((p.drop 4).take (2 + saidSize p)) = said4 p 4 then (6 + saidSize p, 0) else (0, 5) := by
    unfold endS; rw [if_neg (by omega)]
  rw [← hsz] at hor
  clear hx hy hsz
  have c4' : w.cell? ⟨ad.block, ad.off + 4, none⟩ = some (.int .u8 (x : Int)) := by simpa [Addr.add] using c4
  have c5' : w.cell? ⟨ad.block, ad.off + 5, none⟩ = some (.int .u8 (y : Int)) := by simpa [Addr.add] using c5
  have hs' : ¬ (p.length : Int) < 6 := by omega
  have i4 : (4 : Int) < (p.length : Int) := by omega
  have i5 : (5 : Int) < (p.length : Int) := by omega
  generalize saidSize p = n at *
  by_cases hl : 4096 < n
  · rw [if_pos hl] at hend
    have HE := Lib.hid hend
    have z1 : (4096 : Int) < (n : Int) := by omega
    clear hend hnot
    go_enter Tryd.func26, Tryd.ntmps26
    go_wp2_with fail
    go_quiet (fail)
    go_wp2_with fail
    go_ret2
    exact ⟨by rw [HE.out]; rfl, rfl, rfl, rfl, Nat.le_refl _, fun _ _ => rfl⟩
  · rw [if_neg hl, if_neg (by omega)] at hend
    have z1 : ¬ (4096 : Int) < (n : Int) := by omega
    have z2 : ¬ (p.length : Int) < 6 + (n : Int) := by omega
    have hfit : 6 + n ≤ p.length := by omega
    have hpc := hrow.piece (A' := some (ad.add 4)) 4 (2 + n) (fun _ => rfl)
    have hpl2 : ((p.drop 4).take (2 + n)).length = 2 + n := by rw [List.length_take, List.length_drop]; omega
    have h8c : Bytes8 ((p.drop 4).take (2 + n)) := fun z hz => h8 z (List.mem_of_mem_drop (List.mem_of_mem_take hz))
    have HE := Lib.hid hend
    have HPL := Lib.hid hpl2
    clear hend hnot hpl2
    go_enter Tryd.func26, Tryd.ntmps26
    go_wp2_with fail
    go_quiet (fail)
    go_wp2_with fail
    obtain ⟨w2, hw2⟩ : ∃ u, u = (w.drewN nq).alloc (.cells #[.slice (some ⟨ad.block, ad.off + 4, none⟩) (6 + n - 4) (c - 4)] 24) := ⟨_, rfl⟩
    have hal : Below w.heap.size w w2 := by
      rw [hw2]
      exact (⟨rfl, rfl, rfl, Nat.le_refl _, fun _ _ => rfl⟩ : Below w.heap.size w (w.drewN nq)).alloc (Nat.le_refl _) _
    have hT2 := hT.below hal h0
    have hrow2 := hrow.below hal
    have hts : Texts (fun _ => True) w2 (some ⟨w.heap.size, 0, none⟩) [(p.drop 4).take (2 + n)] := by
      refine ⟨[.slice (some ⟨ad.block, ad.off + 4, none⟩) (6 + n - 4) (c - 4)], rfl, by rw [hw2]; exact Row.of_cells (new_at (w := w.drewN nq) rfl) rfl trivial, fun k hk => ?_⟩
      obtain rfl : k = 0 := by simpa using hk
      refine ⟨some (ad.add 4), c - 4, ?_, (hpc.below hal).any⟩
      show some (Value.slice _ (6 + n - 4) _) = some (Value.slice _ ((p.drop 4).take (2 + n)).length _)
      rw [HPL.out, show 6 + n - 4 = 2 + n by omega]
      simp [Addr.add]
    rw [← hw2]
    clear hw2 hpc c4 c5 c4' c5' hrow
    refine (sum_any _ _ 1 [(p.drop 4).take (2 + n)] _ hT2 hts (by intro t ht; simp at ht; subst ht; exact h8c) (by intro t ht; rw [List.mem_singleton] at ht; subst ht; rw [HPL.out]; omega) (by simp)).mono ?_
    rintro e w3 ⟨rfl, rfl⟩
    rw [show [(p.drop 4).take (2 + n)].flatten = (p.drop 4).take (2 + n) by simp]
    clear hts hT2
    go_wp2_with fail
    refine (saidSum_any _ _ p.length c p _ rfl hrow2 h8 (by omega)).mono ?_
    rintro e w3 ⟨rfl, rfl⟩
    generalize sumOf ((p.drop 4).take (2 + n)) = s1 at *
    generalize said4 p 4 = s2 at *
    by_cases hss : s1 = s2
    · have hq : ((s1 : Int) != (s2 : Int)) = false := by simp [hss]
      have HF := Lib.hid (show endS p = (6 + n, 0) by rw [HE.out, if_pos hss])
      clear hss
      go_wp2_with fail
      go_ret2
      exact ⟨by rw [HF.out]; simp, hal⟩
    · have hq : ((s1 : Int) != (s2 : Int)) = true := by simp; omega
      have HF := Lib.hid (show endS p = (0, 5) by rw [HE.out, if_neg hss])
      clear hss
      go_wp2_with fail
      go_ret2
      exact ⟨by rw [HF.out]; rfl, hal⟩

theorem frameEnd_any (S : Nat → Prop) (A : Option Addr) (k c : Nat) (p : List Int) (w : World) (hk : p.length = k) (hT : Rests w) (h0 : 0 < w.heap.size) (hrow : Row S w A (u8s p)) (hc : p.length ≤ c) (hpl : p.length ≤ 70368744177664) (h8 : Bytes8 p) :
    Calls Tryd.prog 26 #[.slice A k c] w fun e w' => e = .returned (.tuple #[.int .i64 ((endS p).1 : Int), .int .i64 (endS p).2]) ∧ Below w.heap.size w w' := by
  subst hk
  by_cases hs : 6 ≤ p.length
  · by_cases hn : saidSize p ≤ 4096 ∧ p.length < 6 + saidSize p
    · have e : endS p = (0, 2) := by unfold endS; rw [if_neg (by omega), if_neg (by omega), if_pos hn.2]
      rw [e]
      exact frameEnd_short S A c p w hrow h8 hs hn.1 hn.2
    · exact frameEnd_rest S A c p w hT h0 hrow hc hpl h8 hs hn
  · have e : endS p = (0, 2) := by unfold endS; rw [if_pos (by omega)]
    rw [e]
    exact (frameEnd_few A c p w (by omega)).mono fun e w' ⟨a, b⟩ => ⟨a, by rw [← b]; exact Below.refl _ _⟩

end Go.Proofs.YtaihemmnpliehaaDoor
