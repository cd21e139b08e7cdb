/-
  The contract of ref03's SameHits, of hits that are alike.
-/
import Derived.Test.YtfhnhfppamnjhaaCutHits
namespace Go.Proofs.Ytfhnhfppamnjhaa
open Go.RowKit Go.Maps

set_option maxRecDepth 100000 in
set_option maxHeartbeats 400000 in
/-- SameVec only reads. -/
theorem sameVec_q (S T : Nat → Prop) (A B : Option Addr) (c d : Nat) (l : List Int) (w : World) (h1 : Row S w A (i32s l)) (h2 : Row T w B (i32s l)) (hl : l.length ≤ 17592186044416) :
    Calls Try.prog 26 #[.slice A l.length c, .slice B l.length d] w fun e w' => e = .returned (.bool true) ∧ ∃ n, w' = w.drewN n := by
  have hne' : ((l.length : Int) != (l.length : Int)) = false := by simp
  go_enter Try.func26, Try.ntmps26
  go_wp2_with fail
  go_loopw [13] (fun i wr => ∃ k : Nat, k ≤ l.length ∧ i = .int .i64 k ∧ ∃ n, wr = w.drewN n) (fun i _ => l.length - (intOf i).toNat)
  case atStart => exact ⟨0, Nat.zero_le _, rfl, 0, rfl⟩
  case round =>
    obtain ⟨k, hk, rfl, n, rfl⟩ := hrel
    by_cases hlt : k < l.length
    · obtain ⟨ad, rfl, _, _, hcA⟩ := h1 k (by rw [i32s_len]; exact hlt)
      obtain ⟨bd, rfl, _, _, hcB⟩ := h2 k (by rw [i32s_len]; exact hlt)
      rw [i32s_at hlt] at hcA hcB
      have i1 : (k : Int) < (l.length : Int) := by omega
      have hx' : (l[k] != l[k]) = false := by simp
      go_wp2_with fail
      go_quiet (fail)
      go_wp2_with fail
      go_roundw
      case rel => exact ⟨k + 1, by omega, by go_num, _, rfl⟩
      case measure => simp [intOf]; omega
    · have i1 : ¬ (k : Int) < (l.length : Int) := by omega
      go_wp2_with fail
      go_ret
      exact ⟨rfl, n, rfl⟩

set_option maxRecDepth 100000 in
set_option maxHeartbeats 2000000 in
theorem sameHits_any (S T : Nat → Prop) (A B : Option Addr) (c d : Nat) (hs : List Hit) (w : World) (h1 : HitsAt S w A hs) (h2 : HitsAt T w B hs) (hl : hs.length ≤ 1000) (hv : ∀ o ∈ hs, o.2.2.length ≤ 1000) :
    Calls Try.prog 14 #[.slice A hs.length c, .slice B hs.length d] w fun e w' => e = .returned (.bool true) ∧ Below w.heap.size w w' := by
  have hne' : ((hs.length : Int) != (hs.length : Int)) = false := by simp
  go_enter Try.func14, Try.ntmps14
  go_wp2_with fail
  go_loopw [5, 13] (fun _ i wr => ∃ k : Nat, k ≤ hs.length ∧ i = .int .i64 k ∧ Below w.heap.size w wr) (fun _ i _ => hs.length - (intOf i).toNat)
  case atStart => exact ⟨0, Nat.zero_le _, rfl, Below.refl _ _⟩
  case round =>
    obtain ⟨k, hk, rfl, hbl⟩ := hrel
    by_cases hlt : k < hs.length
    · obtain ⟨ad, rfl, _, _, a0, a1, X, cx, a2, _, ra⟩ := (h1.below hbl) k hlt
      obtain ⟨bd, rfl, _, _, b0, b1, Y, cy, b2, _, rb⟩ := (h2.below hbl) k hlt
      have hvl := hv _ (List.getElem_mem hlt)
      have i1 : (k : Int) < (hs.length : Int) := by omega
      have HS : Hid (∀ n, Calls Try.prog 26 #[.slice X hs[k].2.2.length cx, .slice Y hs[k].2.2.length cy] (wr.drewN n) fun e w' => e = .returned (.bool true) ∧ ∃ m, w' = wr.drewN m) := fun n => (sameVec_q S T X Y cx cy hs[k].2.2 (wr.drewN n) ra rb (by omega)).mono fun _ _ ⟨he, m, hm⟩ => ⟨he, n + m, by rw [hm, World.drewN_drewN]⟩
      clear h1 h2 hv ra rb
      generalize hs[k].1 = id at *
      generalize hs[k].2.1 = dist at *
      generalize hs[k].2.2 = vec at *
      have hx' : (id != id) = false := by simp
      have hy' : (dist != dist) = false := by simp
      go_wp2_with fail
      go_quiet (first | (go_at_call 26; exact HS.out _))
      go_wp2_with fail
      go_roundw
      case rel => exact ⟨k + 1, by omega, by go_num, below_drewN hbl _⟩
      case measure => simp [intOf]; omega
    · have i1 : ¬ (k : Int) < (hs.length : Int) := by omega
      go_wp2_with fail
      go_ret
      exact ⟨rfl, hbl⟩

end Go.Proofs.Ytfhnhfppamnjhaa
