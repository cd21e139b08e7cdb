/-
  The contracts of reverseRange and of the insertion sort.
-/
import Derived.Test.YtdfmgfclcbeeiaaSMem
namespace Go.Proofs.Ytdfmgfclcbeeiaa
open Go.RowKit Go.Sort
set_option linter.unusedSimpArgs false
set_option linter.unusedVariables false

/-- a swap within a, b -/
theorem Moved.swap {w wr : World} {blk off a b i j : Nat} {d dk : Array Int} {x y : Value} (q : Nat) (h : Moved w blk off a b d dk wr) (hb : b ≤ d.size) (hi : a ≤ i ∧ i < b) (hj : a ≤ j ∧ j < b) (hx : x = encU dk[j]!) (hy : y = encU dk[i]!) :
    Moved w blk off a b d (swp dk i j) (((wr.setCell ⟨blk, off + i, none⟩ x).setCell ⟨blk, off + j, none⟩ y).drewN q) := by
  have hs := permIn_size h.2
  subst hx hy
  exact ⟨(h.1.swap (by omega) (by omega)).drewN q, permIn_trans _ _ _ _ _ h.2 (swp_permIn dk a b i j hi.1 hi.2 hj.1 hj.2 (by omega))⟩
theorem Moved.drewN {w wr : World} {blk off a b : Nat} {d dk : Array Int} (h : Moved w blk off a b d dk wr) (q : Nat) : Moved w blk off a b d dk (wr.drewN q) := ⟨h.1.drewN q, h.2⟩
theorem Moved.start {w : World} {blk off a b : Nat} {d : Array Int} (h : Holds encU w blk off d) (hb : blk < w.heap.size) : Moved w blk off a b d d w := ⟨Ro.start h hb, permIn_refl d a b⟩
theorem drew_drewN1 (w : World) : w.drew = w.drewN 1 := rfl
theorem drewN_set (w : World) (q : Nat) (a : Addr) (v : Value) : (w.drewN q).setCell a v = (w.setCell a v).drewN q := rfl

section
variable (w : World) (blk off cap : Nat) (d : Array Int) (a b : Nat)

set_option maxRecDepth 100000 in
set_option maxHeartbeats 1000000 in
theorem reverse_any (h : Holds encU w blk off d) (hblk : blk < w.heap.size) (hab : a ≤ b) (hb : b ≤ d.size) (hsz : d.size < 4611686018427387904) :
    Calls Try.prog 52 #[.slice (some ⟨blk, off, none⟩) d.size cap, .int .i64 a, .int .i64 b] w fun e w' => e = .returned (.tuple #[]) ∧ ∃ d', Moved w blk off a b d d' w' := by
  have H0 := Lib.hid (Moved.start (a := a) (b := b) h hblk)
  clear h
  go_enter Try.func52, Try.ntmps52
  go_wp2_with fail
  go_loopw [6, 7] (fun s6 s7 wr => ∃ (i : Nat) (jz : Int) (dk : Array Int), s6 = .int .i64 (i : Int) ∧ s7 = .int .i64 jz ∧ a ≤ i ∧ (i : Int) ≤ jz + 2 + (b : Int) ∧ i ≤ b ∧ -1 ≤ jz ∧ jz < (b : Int) ∧ Moved w blk off a b d dk wr) (fun s6 s7 _ => (intOf s7 - intOf s6).toNat)
  case atStart => exact ⟨a, (b : Int) - 1, d, rfl, rfl, Nat.le_refl _, by omega, hab, by omega, by omega, H0.out⟩
  case round =>
    obtain ⟨i, jz, dk, rfl, rfl, h1, h2, h3, h4, h5, hM⟩ := hrel
    by_cases hlt : (i : Int) < jz
    · obtain ⟨j, rfl⟩ : ∃ j : Nat, jz = (j : Int) := ⟨jz.toNat, by omega⟩
      have hs := permIn_size hM.2
      obtain ⟨G, hG, hcw, hfw⟩ := hM.1.fam
      rw [hs] at hcw hfw
      have HM := Lib.hid hM
      have HG := Lib.hid hG
      clear hM hG hs
      go_wp2_with fail
      go_region
      all_goals go_wp2_with fail
      go_roundw
      case rel =>
        refine ⟨i + 1, (j : Int) - 1, swp dk i j, by go_num, rfl, by omega, by omega, by omega, by omega, by omega, ?_⟩
        have := HM.out.swap (i := i) (j := j) (x := .int .u64 (G j)) (y := .int .u64 (G i)) 1 hb ⟨h1, by omega⟩ ⟨by omega, by omega⟩ (by rw [HG.out]; rfl) (by rw [HG.out]; rfl)
        exact this
      case measure => simp [intOf]; omega
    · have HM := Lib.hid hM
      clear hM
      go_wp2_with fail
      go_end0
      exact ⟨rfl, dk, HM.out⟩

set_option maxRecDepth 100000 in
set_option maxHeartbeats 1000000 in
theorem insertion_any (h : Holds encU w blk off d) (hblk : blk < w.heap.size) (hab : a ≤ b) (hb : b ≤ d.size) (hsz : d.size < 4611686018427387904) :
    Calls Try.prog 48 #[.slice (some ⟨blk, off, none⟩) d.size cap, .int .i64 a, .int .i64 b] w fun e w' => e = .returned (.tuple #[]) ∧ ∃ d', Moved w blk off a b d d' w' ∧ SortedIn ltInt a b d' := by
  have H0 := Lib.hid (Moved.start (a := a) (b := b) h hblk)
  clear h
  go_enter Try.func48, Try.ntmps48
  go_wp2_with fail
  go_loopw [6] (fun s6 wr => ∃ (i : Nat) (dk : Array Int), s6 = .int .i64 (i : Int) ∧ a < i ∧ i ≤ b + 1 ∧ SortedIn ltInt a i dk ∧ Moved w blk off a b d dk wr) (fun s6 _ => b + 1 - (intOf s6).toNat)
  case atStart => exact ⟨a + 1, d, by go_num, by omega, by omega, fun p q h1 h2 h3 => by omega, H0.out⟩
  case round =>
    obtain ⟨i, dk, rfl, h1, h2, hS, hM⟩ := hrel
    have HS := Lib.hid hS
    have HM := Lib.hid hM
    clear hS hM
    by_cases hlt : (i : Int) < (b : Int)
    · go_wp2_with fail
      go_loopw [7] (fun s7 wr2 => ∃ (j : Nat) (dj : Array Int), s7 = .int .i64 (j : Int) ∧ a ≤ j ∧ j ≤ i ∧ Ins ltInt a j i dj ∧ Moved w blk off a b d dj wr2) (fun s7 _ => (intOf s7).toNat)
      case atStart => exact ⟨i, dk, rfl, by omega, Nat.le_refl _, ⟨fun p q k1 k2 k3 k4 k5 => HS.out p q k1 k2 (by omega), fun q k1 k2 => by omega⟩, HM.out⟩
      case round =>
        obtain ⟨j, dj, rfl, h3, h4, hI, hMj⟩ := hrel
        have hs := permIn_size hMj.2
        obtain ⟨G, hG, hcw, hfw⟩ := hMj.1.fam
        rw [hs] at hcw hfw
        have HMj := Lib.hid hMj
        have HG := Lib.hid hG
        have HI := Lib.hid hI
        have HSZ := Lib.hid hs
        clear hMj hG hI hs
        go_wp2_with fail
        by_cases hja : a < j
        · go_quiet (first | (go_at_call 54; refine Calls.quiet_of_same (less_any _ _ _)) | fail)
          cases hL : ltInt (G j) (G (j - 1)) with
          | true =>
            go_wp2_with fail
            go_region
            all_goals go_wp2_with fail
            go_roundw
            case rel =>
              refine ⟨j - 1, swp dj j (j - 1), by congr 1; omega, by omega, by omega, ?_, ?_⟩
              · have hst := HI.out
                obtain ⟨jj, rfl⟩ : ∃ jj, j = jj + 1 := ⟨j - 1, by omega⟩
                rw [HG.out, HG.out] at hL
                exact hst.step hL (by omega) (by have := HSZ.out; omega)
              · have := (HMj.out.drewN nq).swap (i := j) (j := j - 1) (x := .int .u64 (G (j - 1))) (y := .int .u64 (G j)) 1 hb ⟨by omega, by omega⟩ ⟨by omega, by omega⟩ (by rw [HG.out]; rfl) (by rw [HG.out]; rfl)
                exact this
            case measure => simp [intOf]; omega
          | false =>
            go_wp2_with fail
            go_roundw
            case rel =>
              refine ⟨i + 1, dj, by go_num, by omega, by omega, HI.out.stop swo_ltInt (.inr ?_), HMj.out.drewN nq⟩
              rw [HG.out, HG.out] at hL
              exact hL
            case measure => simp [intOf]; omega
        · go_quiet (first | (go_at_call 54; refine Calls.quiet_of_same (less_any _ _ _)) | fail)
          go_wp2_with fail
          go_roundw
          case rel => exact ⟨i + 1, dj, by go_num, by omega, by omega, HI.out.stop swo_ltInt (.inl (by omega)), HMj.out.drewN nq⟩
          case measure => simp [intOf]; omega
    · go_wp2_with fail
      go_end0
      refine ⟨rfl, dk, HM.out, fun p q k1 k2 k3 => HS.out p q k1 k2 (by omega)⟩
end

end Go.Proofs.Ytdfmgfclcbeeiaa
