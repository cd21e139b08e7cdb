/-
  The contracts of ref05's Name, Find, Used and all.
-/
import Derived.Test.YtchedflfinkppaaRef0
namespace Go.Proofs.Ytchedflfinkppaa
open Go.RowKit Go.Maps

theorem ba_yes (a : ByteArray) : (a.toList == a.toList) = true := by simp
theorem ba_no {a b : ByteArray} (h : ¬ a = b) : (a.toList == b.toList) = false := by
  cases hh : (a.toList == b.toList) with
  | false => rfl
  | true =>
    exfalso
    apply h
    have e : a.toList = b.toList := by simpa using hh
    rw [ByteArray.toList_eq, ByteArray.toList_eq] at e
    cases a
    cases b
    simp at e
    rw [e]
/-- where a file stands -/
def findR (L : List RF) (s : ByteArray) : Int := match L.findIdx? (fun f => decide (f.name = s)) with | some i => (i : Int) | none => -1
theorem findR_at {L : List RF} {s : ByteArray} {k : Nat} (hk : k < L.length) (h0 : ∀ j (hj : j < k), (L[j]'(Nat.lt_trans hj hk)).name ≠ s) (h : L[k].name = s) : findR L s = (k : Int) := by
  have : L.findIdx? (fun f => decide (f.name = s)) = some k := List.findIdx?_eq_some_iff_getElem.2 ⟨hk, by simpa using h, fun j hj => by simpa using h0 j hj⟩
  unfold findR
  rw [this]
theorem findR_none {L : List RF} {s : ByteArray} (h : ∀ f ∈ L, f.name ≠ s) : findR L s = -1 := by
  have : L.findIdx? (fun f => decide (f.name = s)) = none := List.findIdx?_eq_none_iff.2 fun f hf => by simpa using h f hf
  unfold findR
  rw [this]

section
variable (w : World) (B : BK) (x room : Nat) (p : Pw) (v : Value) (L : List RF) (s : ByteArray)

set_option maxRecDepth 100000 in
set_option maxHeartbeats 1000000 in
theorem rfind_any (h : RD w B x p room v L) (hl : L.length ≤ 1000) :
    Calls Try.prog 32 #[.pointer (some ⟨x, 0, none⟩), .string s] w fun e w' => e = .returned (.int .i64 (findR L s)) ∧ Below w.heap.size w w' := by
  obtain ⟨_, c1, _, _, _⟩ := h.cells
  obtain ⟨A, c, rfl, hc, hF⟩ := h.files
  have HF := Lib.hid hF
  clear h hF
  go_enter Try.func32, Try.ntmps32
  go_wp2_with fail
  go_loopw [5, 6, 14] (fun _ _ i wr => ∃ k : Nat, ∃ hk : k ≤ L.length, i = .int .i64 k ∧ (∀ j (hj : j < k), (L[j]'(Nat.lt_of_lt_of_le hj hk)).name ≠ s) ∧ Below w.heap.size w wr) (fun _ _ i _ => L.length - (intOf i).toNat)
  case atStart => exact ⟨0, Nat.zero_le _, rfl, fun j hj => absurd hj (Nat.not_lt_zero _), Below.refl _ _⟩
  case round =>
    obtain ⟨k, hk, rfl, hno, hbl⟩ := hrel
    by_cases hlt : k < L.length
    · have i1 : (k : Int) < (L.length : Int) := by omega
      obtain ⟨ad, rfl, _, _, k0, ⟨F, cf, k1, _, _⟩, G, cg, k2, _, _⟩ := (HF.out.below hbl) k hlt
      have HNO := Lib.hid hno
      have HBL := Lib.hid hbl
      clear hno hbl
      by_cases hs : L[k].name = s
      · have HR := Lib.hid (findR_at hlt HNO.out hs)
        generalize L[k].name = nm at *
        generalize L[k].firm.length = lf at *
        generalize L[k].loose.length = lg at *
        subst hs
        have hs' := ba_yes nm
        go_wp2_with fail
        go_ret
        exact ⟨by rw [HR.out]; rfl, HBL.out.alloc HBL.out.size _⟩
      · have hs' : (L[k].name.toList == s.toList) = false := ba_no hs
        have HS := Lib.hid hs
        generalize L[k].firm.length = lf at *
        generalize L[k].loose.length = lg at *
        obtain ⟨nm, hnm⟩ : ∃ y, y = L[k].name := ⟨_, rfl⟩
        rw [← hnm] at hs' k0 hs
        clear hnm
        go_wp2_with fail
        go_roundw
        case rel => exact ⟨k + 1, by omega, by go_num, fun j hj => by
          rcases Nat.lt_or_ge j k with h1 | h1
          · exact HNO.out j h1
          · obtain rfl : j = k := by omega
            exact HS.out, HBL.out.alloc HBL.out.size _⟩
        case measure => simp [intOf]; omega
    · have i1 : ¬ (k : Int) < (L.length : Int) := by omega
      obtain rfl : k = L.length := by omega
      have HR := Lib.hid (findR_none (L := L) (s := s) fun f hf => by
        obtain ⟨j, hj, rfl⟩ := List.mem_iff_getElem.1 hf
        exact hno j hj)
      have HBL := Lib.hid hbl
      clear hno hbl
      go_wp2_with fail
      go_ret
      exact ⟨by rw [HR.out]; rfl, HBL.out⟩

set_option maxHeartbeats 400000 in
theorem rfind_nil : Calls Try.prog 32 #[.pointer none, .string s] w fun e w' => e = .returned (.int .i64 (-1)) ∧ w = w' := by
  go_enter Try.func32, Try.ntmps32
  go_wp2_with fail
  go_ret
  exact ⟨rfl, rfl⟩

theorem sumR_succ {L : List RF} {k : Nat} (h : k < L.length) : sumR (L.take (k + 1)) = sumR (L.take k) + (L[k].firm.length + L[k].loose.length) := by
  unfold sumR
  rw [List.take_succ_eq_append_getElem h, List.map_append, List.sum_append]
  simp [RF.size]
theorem sumR_le (L : List RF) (k : Nat) : sumR (L.take k) ≤ sumR L := by
  have h : L = L.take k ++ L.drop k := (List.take_append_drop k L).symm
  have : sumR L = sumR (L.take k) + sumR (L.drop k) := by
    unfold sumR
    rw [← List.sum_append, ← List.map_append, ← h]
  omega

set_option maxRecDepth 100000 in
set_option maxHeartbeats 1000000 in
theorem rused_any (h : RD w B x p room v L) (hl : L.length ≤ 1000) (hs : sumR L ≤ 1048576) :
    Calls Try.prog 39 #[.pointer (some ⟨x, 0, none⟩)] w fun e w' => e = .returned (.int .i64 (sumR L : Nat)) ∧ Below w.heap.size w w' := by
  obtain ⟨_, c1, _, _, _⟩ := h.cells
  obtain ⟨A, c, rfl, hc, hF⟩ := h.files
  have HF := Lib.hid hF
  clear h hF
  go_enter Try.func39, Try.ntmps39
  go_wp2_with fail
  go_loopw [3, 5, 13] (fun t _ i wr => ∃ k : Nat, k ≤ L.length ∧ i = .int .i64 k ∧ t = .int .i64 (sumR (L.take k) : Nat) ∧ Below w.heap.size w wr) (fun _ _ i _ => L.length - (intOf i).toNat)
  case atStart => exact ⟨0, Nat.zero_le _, rfl, by simp [sumR], Below.refl _ _⟩
  case round =>
    obtain ⟨k, hk, rfl, rfl, hbl⟩ := hrel
    by_cases hlt : k < L.length
    · have i1 : (k : Int) < (L.length : Int) := by omega
      obtain ⟨ad, rfl, _, _, k0, ⟨F, cf, k1, _, _⟩, G, cg, k2, _, _⟩ := (HF.out.below hbl) k hlt
      have HBL := Lib.hid hbl
      have HS := Lib.hid (sumR_succ hlt)
      have hle := sumR_le L (k + 1)
      rw [sumR_succ hlt] at hle
      generalize L[k].name = nm at *
      generalize L[k].firm.length = lf at *
      generalize L[k].loose.length = lg at *
      generalize sumR (L.take k) = s0 at *
      have ia : (s0 : Int) + ((lf : Int) + (lg : Int)) ≤ 1048576 := by omega
      clear hbl hle
      go_wp2_with fail
      go_roundw
      case rel => exact ⟨k + 1, by omega, by go_num, by rw [HS.out]; go_num, HBL.out.alloc HBL.out.size _⟩
      case measure => simp [intOf]; omega
    · have i1 : ¬ (k : Int) < (L.length : Int) := by omega
      obtain rfl : k = L.length := by omega
      rw [List.take_length]
      have HBL := Lib.hid hbl
      clear hbl
      go_wp2_with fail
      go_ret
      exact ⟨rfl, HBL.out⟩

set_option maxHeartbeats 400000 in
theorem rused_nil : Calls Try.prog 39 #[.pointer none] w fun e w' => e = .returned (.int .i64 0) ∧ w = w' := by
  go_enter Try.func39, Try.ntmps39
  go_wp2_with fail
  go_ret
  exact ⟨rfl, rfl⟩

def allR (L : List RF) (ns : List ByteArray) : Bool := ns.all fun s => decide (0 ≤ findR L s)

set_option maxRecDepth 100000 in
set_option maxHeartbeats 1000000 in
theorem rall_any (S : Nat → Prop) (A : Option Addr) (c : Nat) (ns : List ByteArray) (h : RD w B x p room v L) (hl : L.length ≤ 1000) (hr : Row S w A (strs ns)) (hn : ns.length ≤ 1000) :
    Calls Try.prog 59 #[.pointer (some ⟨x, 0, none⟩), .slice A ns.length c] w fun e w' => e = .returned (.bool (allR L ns)) ∧ Below w.heap.size w w' := by
  have HD := Lib.hid h
  have HR := Lib.hid hr
  clear h hr
  go_enter Try.func59, Try.ntmps59
  go_wp2_with fail
  go_loopw [6, 9] (fun _ i wr => ∃ k : Nat, k ≤ ns.length ∧ i = .int .i64 k ∧ allR L (ns.take k) = true ∧ Below w.heap.size w wr) (fun _ i _ => ns.length - (intOf i).toNat)
  case atStart => exact ⟨0, Nat.zero_le _, rfl, by simp [allR], Below.refl _ _⟩
  case round =>
    obtain ⟨k, hk, rfl, hall, hbl⟩ := hrel
    by_cases hlt : k < ns.length
    · have i1 : (k : Int) < (ns.length : Int) := by omega
      obtain ⟨ad, rfl, _, _, hcell⟩ := (HR.out.below hbl) k (by rw [strs_len]; exact hlt)
      rw [strs_at hlt] at hcell
      have HC := Lib.hid (rfind_any wr B x room p v L ns[k] (HD.out.below hbl) hl)
      have HST : Hid (allR L (ns.take (k + 1)) = decide (0 ≤ findR L ns[k])) := by
        show _ = _
        unfold allR at hall ⊢
        rw [List.take_succ_eq_append_getElem hlt, List.all_append, hall]
        simp
      have HNO : Hid (¬ 0 ≤ findR L ns[k] → allR L ns = false) := fun h0 => by
        unfold allR
        rw [List.all_eq_false]
        exact ⟨ns[k], List.getElem_mem hlt, by simpa using h0⟩
      have HBL := Lib.hid hbl
      clear hall hbl
      generalize ns[k] = s0 at *
      generalize findR L s0 = f0 at *
      go_wp2_with fail
      refine (HC.out).mono ?_
      rintro e w1 ⟨rfl, hb1⟩
      have HB1 : Hid (Below w.heap.size w w1) := HBL.out.trans (hb1.mono HBL.out.size)
      clear hb1
      by_cases h0 : f0 < 0
      · go_wp2_with fail
        go_ret
        exact ⟨by rw [HNO.out (by omega)]; rfl, HB1.out⟩
      · go_wp2_with fail
        go_roundw
        case rel => exact ⟨k + 1, by omega, by go_num, by rw [HST.out]; simp; omega, HB1.out⟩
        case measure => simp [intOf]; omega
    · have i1 : ¬ (k : Int) < (ns.length : Int) := by omega
      obtain rfl : k = ns.length := by omega
      rw [List.take_length] at hall
      have HA := Lib.hid hall
      have HBL := Lib.hid hbl
      clear hall hbl
      go_wp2_with fail
      go_ret
      exact ⟨by rw [HA.out]; rfl, HBL.out⟩

set_option maxRecDepth 100000 in
set_option maxHeartbeats 1000000 in
theorem rname_any (hs : s.size ≤ 1000) :
    Calls Try.prog 60 #[.string s] w fun e w' => e = .returned (.bool (nameB s)) ∧ w = w' := by
  go_enter Try.func60, Try.ntmps60
  go_wp2_with fail
  go_loopw [3, 4] (fun i _ wr => ∃ k : Nat, k ≤ s.size ∧ i = .int .i64 k ∧ (∀ j, j < k → OkAt s j) ∧ wr = w) (fun i _ _ => s.size - (intOf i).toNat)
  case atStart => exact ⟨0, Nat.zero_le _, rfl, fun j hj => absurd hj (Nat.not_lt_zero _), rfl⟩
  case round =>
    obtain ⟨k, hk, rfl, hno, rfl⟩ := hrel
    by_cases hlt : k < s.size
    · have i1 : (k : Int) < (s.size : Int) := by omega
      have HNO := Lib.hid hno
      clear hno
      have hx : (s[k]'hlt).toNat < 256 := (s[k]'hlt).toNat_lt
      rcases (show (s[k]'hlt).toNat < 48 ∨ (48 ≤ (s[k]'hlt).toNat ∧ (s[k]'hlt).toNat ≤ 57) ∨ (57 < (s[k]'hlt).toNat ∧ (s[k]'hlt).toNat < 97) ∨ (97 ≤ (s[k]'hlt).toNat ∧ (s[k]'hlt).toNat ≤ 122) ∨ 122 < (s[k]'hlt).toNat by omega) with hm | hm | hm | hm | hm
      · have ga : ¬ (97 : Int) ≤ ((s[k]'hlt).toNat : Int) := by omega
        have gb : ((s[k]'hlt).toNat : Int) ≤ 122 := by omega
        have gc : ¬ (48 : Int) ≤ ((s[k]'hlt).toNat : Int) := by omega
        have gd : ((s[k]'hlt).toNat : Int) ≤ 57 := by omega
        have HB := Lib.hid (nameB_no (s := s) fun hn => by have h5 := hn.2.2 k hlt; simp [okN] at h5; omega)
        go_wp2_with fail
        go_ret
        exact ⟨by rw [HB.out]; rfl, rfl⟩
      · have ga : ¬ (97 : Int) ≤ ((s[k]'hlt).toNat : Int) := by omega
        have gb : ((s[k]'hlt).toNat : Int) ≤ 122 := by omega
        have gc : (48 : Int) ≤ ((s[k]'hlt).toNat : Int) := by omega
        have gd : ((s[k]'hlt).toNat : Int) ≤ 57 := by omega
        have HOKk : Hid (OkAt s k) := fun _ => by simp [okN]; omega
        go_wp2_with fail
        go_roundw
        case rel => exact ⟨k + 1, by omega, by go_num, fun j hj => by
          rcases Nat.lt_or_ge j k with h1 | h1
          · exact HNO.out j h1
          · obtain rfl : j = k := by omega
            exact HOKk.out, trivial⟩
        case measure => simp [intOf]; omega
      · have ga : ¬ (97 : Int) ≤ ((s[k]'hlt).toNat : Int) := by omega
        have gb : ((s[k]'hlt).toNat : Int) ≤ 122 := by omega
        have gc : (48 : Int) ≤ ((s[k]'hlt).toNat : Int) := by omega
        have gd : ¬ ((s[k]'hlt).toNat : Int) ≤ 57 := by omega
        have HB := Lib.hid (nameB_no (s := s) fun hn => by have h5 := hn.2.2 k hlt; simp [okN] at h5; omega)
        go_wp2_with fail
        go_ret
        exact ⟨by rw [HB.out]; rfl, rfl⟩
      · have ga : (97 : Int) ≤ ((s[k]'hlt).toNat : Int) := by omega
        have gb : ((s[k]'hlt).toNat : Int) ≤ 122 := by omega
        have gc : (48 : Int) ≤ ((s[k]'hlt).toNat : Int) := by omega
        have gd : ¬ ((s[k]'hlt).toNat : Int) ≤ 57 := by omega
        have HOKk : Hid (OkAt s k) := fun _ => by simp [okN]; omega
        go_wp2_with fail
        go_roundw
        case rel => exact ⟨k + 1, by omega, by go_num, fun j hj => by
          rcases Nat.lt_or_ge j k with h1 | h1
          · exact HNO.out j h1
          · obtain rfl : j = k := by omega
            exact HOKk.out, trivial⟩
        case measure => simp [intOf]; omega
      · have ga : (97 : Int) ≤ ((s[k]'hlt).toNat : Int) := by omega
        have gb : ¬ ((s[k]'hlt).toNat : Int) ≤ 122 := by omega
        have gc : (48 : Int) ≤ ((s[k]'hlt).toNat : Int) := by omega
        have gd : ¬ ((s[k]'hlt).toNat : Int) ≤ 57 := by omega
        have HB := Lib.hid (nameB_no (s := s) fun hn => by have h5 := hn.2.2 k hlt; simp [okN] at h5; omega)
        go_wp2_with fail
        go_ret
        exact ⟨by rw [HB.out]; rfl, rfl⟩
    · have i1 : ¬ (k : Int) < (s.size : Int) := by omega
      obtain rfl : k = s.size := by omega
      have HNO := Lib.hid hno
      clear hno
      by_cases h1 : (1 : Int) ≤ (s.size : Int)
      · by_cases h2 : (s.size : Int) ≤ 8
        · have HB := Lib.hid (nameB_yes (s := s) ⟨by omega, by omega, fun j h => HNO.out j h h⟩)
          go_wp2_with fail
          go_ret
          exact ⟨by rw [HB.out]; rfl, rfl⟩
        · have HB := Lib.hid (nameB_no (s := s) fun hn => by have := hn.2.1; omega)
          go_wp2_with fail
          go_ret
          exact ⟨by rw [HB.out]; rfl, rfl⟩
      · have HB := Lib.hid (nameB_no (s := s) fun hn => by have := hn.1; omega)
        go_wp2_with fail
        go_ret
        exact ⟨by rw [HB.out]; rfl, rfl⟩
end

end Go.Proofs.Ytchedflfinkppaa
