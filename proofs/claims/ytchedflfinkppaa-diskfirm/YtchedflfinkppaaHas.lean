/-
  The contract of has: is there a file of each of these names?
-/
import Derived.Test.YtchedflfinkppaaDMap
namespace Go.Proofs.Ytchedflfinkppaa
open Go.RowKit Go.Maps

/-- Every name that is there leads to a block. -/
def Leads (D : DataW Unit) : Prop := ∀ x, has D (.string x) = true → ∃ f : Nat, D.atKey (.string x) none9 = .lit (.int .i64 (f : Int))
def strs (l : List ByteArray) : List Value := l.map fun s => Value.string s
theorem strs_at {xs : List ByteArray} {k : Nat} (h : k < xs.length) : (strs xs)[k]? = some (.string xs[k]) := by simp [strs, h]
theorem strs_len (xs : List ByteArray) : (strs xs).length = xs.length := by simp [strs]
def hasB (D : DataW Unit) (s : ByteArray) : Bool := has D (.string s.data.toList)

set_option maxHeartbeats 400000 in
theorem hasC_any (q b room mb n : Nat) (p : Pw) (D : DataW Unit) (s : ByteArray) (w : World) (hq : w.cell? ⟨q, 0, none⟩ = some (.pointer (some ⟨b, 0, none⟩))) (hblk : Blk w b p room mb) (hm : w.ownsMap Try.prog 9 rdP mb n D) (hD : Leads D) (hs : s.size ≤ maxLen) :
    Calls Try.prog 67 #[.string s, .pointer (some ⟨q, 0, none⟩)] w fun e w' => e = .returned (.bool (!hasB D s)) ∧ w = w' := by
  obtain ⟨_, _, _, _, c4⟩ := hblk.cells
  cases hh : hasB D s with
  | true =>
    obtain ⟨f, hf⟩ := hD _ hh
    have hrun := look_hit hm hs hf
    clear hblk hm hD hh hf
    go_enter Try.func67, Try.ntmps67
    go_wp2_with fail
    go_ret
    exact ⟨rfl, rfl⟩
  | false =>
    have hrun := look_miss hm hs hh
    clear hblk hm hD hh
    go_enter Try.func67, Try.ntmps67
    go_wp2_with fail
    go_ret
    exact ⟨rfl, rfl⟩

set_option maxRecDepth 100000 in
set_option maxHeartbeats 1000000 in
theorem indexFunc_any (S : Nat → Prop) (q b room mb n : Nat) (p : Pw) (D : DataW Unit) (A : Option Addr) (c : Nat) (ns : List ByteArray) (w : World) (hq : w.cell? ⟨q, 0, none⟩ = some (.pointer (some ⟨b, 0, none⟩))) (hblk : Blk w b p room mb) (hm : w.ownsMap Try.prog 9 rdP mb n D) (hD : Leads D) (hr : Row S w A (strs ns)) (hl : ns.length ≤ 9223372036854775807) (hs : ∀ s ∈ ns, s.size ≤ maxLen) :
    Calls Try.prog 72 #[.slice A ns.length c, .func (.func 67) #[] #[.pointer (some ⟨q, 0, none⟩)]] w fun e w' => (∃ k : Int, e = .returned (.int .i64 k) ∧ decide (0 ≤ k) = !ns.all (hasB D)) ∧ w = w' := by
  have HC : Hid (∀ s ∈ ns, Calls Try.prog 67 #[.string s, .pointer (some ⟨q, 0, none⟩)] w fun e w' => e = .returned (.bool (!hasB D s)) ∧ w = w') := fun s hs' => hasC_any q b room mb n p D s w hq hblk hm hD (hs s hs')
  clear hq hblk hm hD hs
  go_enter Try.func72, Try.ntmps72
  go_wp2_with fail
  go_loopw [5, 8] (fun _ i wr => ∃ k : Nat, k ≤ ns.length ∧ i = .int .i64 k ∧ (ns.take k).all (hasB D) = true ∧ wr = w) (fun _ i _ => ns.length - (intOf i).toNat)
  case atStart => exact ⟨0, Nat.zero_le _, rfl, by simp, rfl⟩
  case round =>
    obtain ⟨k, hk, rfl, hall, rfl⟩ := hrel
    by_cases hlt : k < ns.length
    · have i1 : (k : Int) < (ns.length : Int) := by omega
      obtain ⟨ad, rfl, _, _, hc⟩ := hr k (by rw [strs_len]; exact hlt)
      rw [strs_at hlt] at hc
      have hcl := HC.out _ (List.getElem_mem hlt)
      have hmem : ns[k] ∈ ns := List.getElem_mem hlt
      cases hh : hasB D ns[k] with
      | true =>
        rw [hh] at hcl
        have HCL := Lib.hid hcl
        have HA : Hid ((ns.take (k + 1)).all (hasB D) = true) := by
          show _ = _
          rw [List.take_succ_eq_append_getElem hlt, List.all_append, hall]
          simp [hh]
        clear hcl hh hall hmem
        generalize ns[k] = s at *
        go_wp2_with (go_at_call 67; refine (HCL.out).mono ?_; rintro e w5 ⟨rfl, rfl⟩)
        go_roundw
        case rel => exact ⟨k + 1, by omega, by go_num, HA.out, by first | rfl | trivial⟩
        case measure => simp [intOf]; omega
      | false =>
        rw [hh] at hcl
        have HCL := Lib.hid hcl
        have HA : Hid (decide ((0 : Int) ≤ (k : Int)) = !ns.all (hasB D)) := by
          show _ = _
          have h1 : ns.all (hasB D) = false := by
            rw [List.all_eq_false]
            exact ⟨ns[k], hmem, by simp [hh]⟩
          rw [h1]
          simp
        clear hcl hh hall hmem
        generalize ns[k] = s at *
        go_wp2_with (go_at_call 67; refine (HCL.out).mono ?_; rintro e w5 ⟨rfl, rfl⟩)
        go_ret
        exact ⟨⟨_, rfl, HA.out⟩, rfl⟩
    · have i1 : ¬ (k : Int) < (ns.length : Int) := by omega
      have HA : Hid (decide ((0 : Int) ≤ -1) = !ns.all (hasB D)) := by
        rw [List.take_of_length_le (by omega)] at hall
        show _ = _
        rw [hall]
        rfl
      clear hall
      go_wp2_with fail
      go_ret
      exact ⟨⟨-1, rfl, HA.out⟩, rfl⟩

set_option maxHeartbeats 400000 in
theorem has_any (S : Nat → Prop) (b room mb n : Nat) (p : Pw) (D : DataW Unit) (A : Option Addr) (c : Nat) (ns : List ByteArray) (w : World) (hblk : Blk w b p room mb) (hm : w.ownsMap Try.prog 9 rdP mb n D) (hD : Leads D) (hr : Row S w A (strs ns)) (hl : ns.length ≤ 9223372036854775807) (hs : ∀ s ∈ ns, s.size ≤ maxLen) :
    Calls Try.prog 44 #[.pointer (some ⟨b, 0, none⟩), .slice A ns.length c] w fun e w' => e = .returned (.bool (ns.all (hasB D))) ∧ Below w.heap.size w w' := by
  obtain ⟨w1, hw1⟩ : ∃ x, x = w.alloc (.cells #[.pointer (some ⟨b, 0, none⟩)] 24) := ⟨_, rfl⟩
  have hb1 : Below w.heap.size w w1 := by rw [hw1]; exact (Below.refl _ _).alloc (Nat.le_refl _) _
  have hq : w1.cell? ⟨w.heap.size, 0, none⟩ = some (.pointer (some ⟨b, 0, none⟩)) := by rw [hw1]; go_simp
  have hblk1 : Blk w1 b p room mb := (hb1.block b (lt_of_block hblk)).trans hblk
  have hm1 : w1.ownsMap Try.prog 9 rdP mb n D := by
    obtain ⟨es, clock, h1, h2⟩ := hm
    exact ⟨es, clock, (hb1.block mb (lt_of_block h1)).trans h1, h2⟩
  have HI := Lib.hid (indexFunc_any S w.heap.size b room mb n p D A c ns w1 hq hblk1 hm1 hD (hr.below hb1) hl hs)
  have HCF : Hid (Calls Try.prog 66 #[.slice A ns.length c, .func (.func 67) #[] #[.pointer (some ⟨w.heap.size, 0, none⟩)]] w1 fun e w' => e = .returned (.bool (!ns.all (hasB D))) ∧ w1 = w') := by
    show Calls _ _ _ _ _
    clear hq hblk1 hm1 hw1 hb1 hblk hm hD hr
    generalize ns.all (hasB D) = r at *
    generalize w.heap.size = qq at *
    go_enter Try.func66, Try.ntmps66
    go_wp2_with fail
    refine (HI.out).mono ?_
    rintro e w5 ⟨⟨k, rfl, hk⟩, rfl⟩
    have HK := Lib.hid hk
    clear hk
    go_wp2_with fail
    go_ret
    exact ⟨by rw [← HK.out]; rfl, rfl⟩
  have HB := Lib.hid hb1
  have HW := Lib.hid hw1
  clear hq hblk1 hm1 hw1 hb1 hblk hm hD hr HI
  generalize ns.all (hasB D) = r at *
  go_enter Try.func44, Try.ntmps44
  go_wp2_with fail
  rw [← HW.out]
  refine (HCF.out).mono ?_
  rintro e w5 ⟨rfl, rfl⟩
  cases r <;>
  · go_wp2_with fail
    go_ret
    exact ⟨rfl, HB.out⟩

end Go.Proofs.Ytchedflfinkppaa
