/-
  The contracts of ref07's Same, SameNums (where they answer yes) and At.
-/
import Derived.Test.YtphcakhhjjdpiaaSwMath
namespace Go.Proofs.Ytphcakhhjjdpiaa
open Go.RowKit

set_option maxRecDepth 100000 in
set_option maxHeartbeats 1000000 in
theorem same_yes (S K S' K' : Nat → Prop) (A B : Option Addr) (c d : Nat) (vs : List Ver) (w : World) (h1 : VersAt S K w A vs) (h2 : VersAt S' K' w B vs) (hn : vs.length ≤ 1000) (hv : ∀ x ∈ vs, x.2.length ≤ 1000) :
    Calls Try.prog 19 #[.slice A vs.length c, .slice B vs.length d] w fun e w' => e = .returned (.bool true) ∧ Below w.heap.size w w' := by
  have H1 := Lib.hid h1
  have H2 := Lib.hid h2
  have HV := Lib.hid hv
  clear h1 h2 hv
  go_enter Try.func19, Try.ntmps19
  go_wp2_with fail
  go_loopw [5, 13] (fun _ i wr => ∃ j : Nat, j ≤ vs.length ∧ i = .int .i64 j ∧ Below w.heap.size w wr) (fun _ i _ => vs.length - (intOf i).toNat)
  case atStart => exact ⟨0, Nat.zero_le _, rfl, Below.refl _ _⟩
  case round =>
    obtain ⟨j, hj, rfl, hbr⟩ := hrel
    by_cases hjl : j < vs.length
    · have t2 : (j : Int) < (vs.length : Int) := by omega
      obtain ⟨ad, rfl, _, p2, a0, Y, cy, a1, _, r1⟩ := (H1.out.below hbr) j hjl
      obtain ⟨bd, rfl, _, q2, b0, Z, cz, b1, _, r2⟩ := (H2.out.below hbr) j hjl
      have hvl := HV.out _ (List.getElem_mem hjl)
      have p2' : (ad.add (j * 2)).block < wr.heap.size := by rw [block_add]; exact p2
      have q2' : (bd.add (j * 2)).block < wr.heap.size := by rw [block_add]; exact q2
      have HSV : Hid (Calls Try.prog 16 #[.slice Y vs[j].2.length cy, .slice Z vs[j].2.length cz] wr.drew fun e w' => e = .returned (.bool true) ∧ Below wr.heap.size wr w') := by
        have := sameVec_any _ _ Y Z cy cz vs[j].2 vs[j].2 wr.drew r1.drew r2.drew (by omega)
        rw [show (vs[j].2 == vs[j].2) = true by simp] at this
        exact this.mono fun e w' ⟨e1, e2⟩ => ⟨e1, ⟨e2.os, e2.tape, e2.output, e2.size, e2.block⟩⟩
      have HBR := Lib.hid hbr
      clear r1 r2 hbr
      generalize vs[j].1 = xi at *
      generalize vs[j].2.length = xl at *
      go_wp2_with fail
      go_region_held3 (fun w' => w'.cell? (ad.add (j * 2)) = some (.int .u64 xi) ∧ w'.cell? (bd.add (j * 2)) = some (.int .u64 xi) ∧ w'.cell? ⟨(ad.add (j * 2)).block, (ad.add (j * 2)).off + 1, none⟩ = some (.slice Y xl cy) ∧ w'.cell? ⟨(bd.add (j * 2)).block, (bd.add (j * 2)).off + 1, none⟩ = some (.slice Z xl cz)) (first | exact ⟨a0, b0, a1, b1⟩ | exact hS5)
        (first | (go_at_call 16; refine (HSV.out).mono ?_; rintro e w9 ⟨rfl, hb9⟩; have hS5 := (⟨(hb9.cell (p := ad.add (j * 2)) p2').trans a0, (hb9.cell (p := bd.add (j * 2)) q2').trans b0, (hb9.cell (p := ⟨(ad.add (j * 2)).block, (ad.add (j * 2)).off + 1, none⟩) p2').trans a1, (hb9.cell (p := ⟨(bd.add (j * 2)).block, (bd.add (j * 2)).off + 1, none⟩) q2').trans b1⟩ : _ ∧ _ ∧ _ ∧ _)) | fail)
      have HBN := Lib.hid (HBR.out.trans (hb9.mono HBR.out.size))
      clear hS5 hb9
      go_wp2_with fail
      go_roundw
      case rel => exact ⟨j + 1, by omega, by go_num, HBN.out⟩
      case measure => simp [intOf]; omega
    · have t2 : ¬ (j : Int) < (vs.length : Int) := by omega
      go_wp2_with fail
      go_ret
      exact ⟨rfl, hbr⟩

set_option maxRecDepth 100000 in
set_option maxHeartbeats 400000 in
theorem sameNums_yes (S T : Nat → Prop) (A B : Option Addr) (c d : Nat) (l : List Int) (w : World) (h1 : Row S w A (u64s l)) (h2 : Row T w B (u64s l)) (hl : l.length ≤ 1000) :
    Calls Try.prog 11 #[.slice A l.length c, .slice B l.length d] w fun e w' => e = .returned (.bool true) ∧ Below w.heap.size w w' := by
  go_enter Try.func11, Try.ntmps11
  go_wp2_with fail
  go_loopw [5, 13] (fun _ i wr => ∃ k : Nat, k ≤ l.length ∧ i = .int .i64 k ∧ Below w.heap.size w wr) (fun _ i _ => l.length - (intOf i).toNat)
  case atStart => exact ⟨0, Nat.zero_le _, rfl, Below.refl _ _⟩
  case round =>
    obtain ⟨k, hk, rfl, hbl⟩ := hrel
    by_cases hlt : k < l.length
    · obtain ⟨ad, rfl, _, _, hcA⟩ := (h1.below hbl) k (by rw [u64s_len]; exact hlt)
      obtain ⟨bd, rfl, _, _, hcB⟩ := (h2.below hbl) k (by rw [u64s_len]; exact hlt)
      rw [u64s_at hlt] at hcA hcB
      have i1 : (k : Int) < (l.length : Int) := by omega
      go_wp2_with fail
      go_quiet (fail)
      go_wp2_with fail
      go_roundw
      case rel => exact ⟨k + 1, by omega, by go_num, ⟨hbl.os, hbl.tape, hbl.output, hbl.size, hbl.block⟩⟩
      case measure => simp [intOf]; omega
    · have i1 : ¬ (k : Int) < (l.length : Int) := by omega
      go_wp2_with fail
      go_ret
      exact ⟨rfl, hbl⟩

/-- What ref07's At answers. -/
def RAtGave (K : Nat → Prop) (w : World) (l : List Int) (e : Ending) (w' : World) : Prop := ∃ X cx, e = .returned (.slice X l.length cx) ∧ Row K w' X (i32s l) ∧ Below w.heap.size w w'
theorem asOf_step {vs : List Ver} {s : Int} {k : Nat} (h : k < vs.length) : asOf (vs.take (k + 1)) s = if vs[k].1 ≤ s then vs[k].2 else asOf (vs.take k) s := by
  unfold asOf
  rw [List.take_succ_eq_append_getElem h, List.filter_append]
  by_cases h1 : vs[k].1 ≤ s
  · rw [if_pos h1, List.filter_cons_of_pos (by simpa using h1), List.filter_nil, List.getLastD_eq_getLast?, List.getLast?_concat]
    rfl
  · rw [if_neg h1, List.filter_cons_of_neg (by simpa using h1), List.filter_nil, List.append_nil]

set_option maxRecDepth 100000 in
set_option maxHeartbeats 400000 in
theorem rat_any (S K : Nat → Prop) (A : Option Addr) (c : Nat) (vs : List Ver) (s : Int) (w : World) (hat : VersAt S K w A vs) (hn : vs.length ≤ 1000) :
    Calls Try.prog 18 #[.slice A vs.length c, .int .u64 s] w fun e w' => RAtGave K w (asOf vs s) e w' := by
  have HAT := Lib.hid hat
  clear hat
  go_enter Try.func18, Try.ntmps18
  go_wp2_with fail
  go_loopw [5, 7, 10] (fun x _ i wr => ∃ (k : Nat) (X : Option Addr) (cx : Nat), k ≤ vs.length ∧ i = .int .i64 k ∧ x = .slice X (asOf (vs.take k) s).length cx ∧ Row K wr X (i32s (asOf (vs.take k) s)) ∧ Below w.heap.size w wr) (fun _ _ i _ => vs.length - (intOf i).toNat)
  case atStart => exact ⟨0, none, 0, Nat.zero_le _, rfl, rfl, Row.nil, Below.refl _ _⟩
  case round =>
    obtain ⟨k, X, cx, hk, rfl, rfl, hrow0, hbl⟩ := hrel
    by_cases hlt : k < vs.length
    · obtain ⟨ad, rfl, j1, j2, a0, Y, cy, a1, j3, hrow⟩ := (HAT.out.below hbl) k hlt
      clear j1 j2 j3
      have i1 : (k : Int) < (vs.length : Int) := by omega
      have hst := asOf_step (s := s) hlt
      have hbn : Below wr.heap.size wr (wr.alloc (.cells #[.int .u64 vs[k].1, .slice Y vs[k].2.length cy] 44)) := (Below.refl _ _).alloc (Nat.le_refl _) _
      have HBN := Lib.hid (hbl.trans (hbn.mono hbl.size))
      have HRY := Lib.hid (hrow.below hbn)
      have HR0 := Lib.hid (hrow0.below hbn)
      by_cases hle : vs[k].1 ≤ s
      · rw [if_pos hle] at hst
        have HS := Lib.hid hst
        clear hst hbl hrow hrow0 hbn
        generalize vs[k].1 = xi at *
        generalize vs[k].2 = xv at *
        go_wp2_with fail
        go_roundw
        case rel => exact ⟨k + 1, Y, cy, by omega, by go_num, by rw [HS.out], by rw [HS.out]; exact HRY.out, HBN.out⟩
        case measure => simp [intOf]; omega
      · rw [if_neg hle] at hst
        have HS := Lib.hid hst
        clear hst hbl hrow hrow0 hbn
        generalize vs[k].1 = xi at *
        generalize vs[k].2 = xv at *
        go_wp2_with fail
        go_roundw
        case rel => exact ⟨k + 1, X, cx, by omega, by go_num, by rw [HS.out], by rw [HS.out]; exact HR0.out, HBN.out⟩
        case measure => simp [intOf]; omega
    · have i1 : ¬ (k : Int) < (vs.length : Int) := by omega
      rw [List.take_of_length_le (by omega)] at hrow0 ⊢
      have HR0 := Lib.hid hrow0
      clear hrow0
      go_wp2_with fail
      go_ret
      exact ⟨X, cx, rfl, HR0.out, hbl⟩

end Go.Proofs.Ytphcakhhjjdpiaa
