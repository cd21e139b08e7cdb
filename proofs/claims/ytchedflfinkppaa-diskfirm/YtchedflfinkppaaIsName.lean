/-
  The contract of isName: one to eight letters a to z or digits.
-/
import Derived.Test.YtchedflfinkppaaParts
namespace Go.Proofs.Ytchedflfinkppaa
open Go.RowKit

def okN (x : Nat) : Bool := (decide (97 ≤ x) && decide (x ≤ 122)) || (decide (48 ≤ x) && decide (x ≤ 57))
def OkAt (s : ByteArray) (j : Nat) : Prop := ∀ h : j < s.size, okN (s[j]'h).toNat = true
/-- A right name. -/
def IsName (s : ByteArray) : Prop := 1 ≤ s.size ∧ s.size ≤ 8 ∧ ∀ j, OkAt s j
open Classical in
noncomputable def nameB (s : ByteArray) : Bool := decide (IsName s)
theorem nameB_no {s : ByteArray} (h : ¬ IsName s) : nameB s = false := by simp [nameB, h]
theorem nameB_yes {s : ByteArray} (h : IsName s) : nameB s = true := by simp [nameB, h]

/-- What decoding at a byte gives. -/
theorem dec_at (s : ByteArray) (pos : Nat) (h : pos < s.size) : ∃ r d : Nat, Utf8.decode s pos = (r, d) ∧ 1 ≤ d ∧ ((d = 1 ∧ r = (s[pos]'h).toNat) ∨ (128 ≤ r ∧ ¬ OkAt s pos)) := by
  by_cases ha : (s[pos]'h).toNat < 128
  · exact ⟨_, _, decode_ascii s pos h ha, Nat.le_refl _, .inl ⟨rfl, rfl⟩⟩
  · obtain ⟨h1, h2⟩ := decode_high s pos h (by omega)
    refine ⟨_, _, rfl, h2, .inr ⟨h1, fun hk => ?_⟩⟩
    have := hk h
    simp [okN] at this
    omega

theorem dec_ok {s : ByteArray} {pos r d : Nat} (h : pos < s.size) (hd : (d = 1 ∧ r = (s[pos]'h).toNat) ∨ (128 ≤ r ∧ ¬ OkAt s pos)) (hr : r ≤ 122) (hk : okN r = true) : d = 1 ∧ OkAt s pos := by
  rcases hd with ⟨h1, h2⟩ | ⟨h1, _⟩
  · exact ⟨h1, fun _ => by rw [← h2]; exact hk⟩
  · omega
theorem dec_bad {s : ByteArray} {pos r d : Nat} (h : pos < s.size) (hd : (d = 1 ∧ r = (s[pos]'h).toNat) ∨ (128 ≤ r ∧ ¬ OkAt s pos)) (hk : okN r = false) : ¬ IsName s := fun hn => by
  rcases hd with ⟨h1, h2⟩ | ⟨_, h1⟩
  · have := hn.2.2 pos h
    rw [← h2, hk] at this
    cases this
  · exact h1 (hn.2.2 pos)

set_option maxRecDepth 100000 in
set_option maxHeartbeats 1000000 in
theorem isName_any (s : ByteArray) (w : World) (hs : s.size ≤ maxLen) :
    Calls Try.prog 48 #[.string s] w fun e w' => e = .returned (.bool (nameB s)) ∧ Below w.heap.size w w' := by
  by_cases h1 : s.size < 1
  · have HN := Lib.hid (nameB_no (s := s) fun h => by have := h.1; omega)
    have i1 : (s.size : Int) < 1 := by omega
    go_enter Try.func48, Try.ntmps48
    go_wp2_with fail
    go_ret
    exact ⟨by rw [HN.out]; rfl, Below.refl _ _⟩
  by_cases h8 : 8 < s.size
  · have HN := Lib.hid (nameB_no (s := s) fun h => by have := h.2.1; omega)
    have i1 : ¬ (s.size : Int) < 1 := by omega
    have i2 : (8 : Int) < (s.size : Int) := by omega
    go_enter Try.func48, Try.ntmps48
    go_wp2_with fail
    go_ret
    exact ⟨by rw [HN.out]; rfl, Below.refl _ _⟩
  have i1 : ¬ (s.size : Int) < 1 := by omega
  have i2 : ¬ (8 : Int) < (s.size : Int) := by omega
  go_enter Try.func48, Try.ntmps48
  go_wp2_with fail
  go_loopw [4] (fun _ wr => ∃ pos : Nat, pos ≤ s.size ∧ wr = w.iter s pos ∧ ∀ j, j < pos → OkAt s j) (fun _ wr => s.size - wr.iterPos w.heap.size)
  case atStart => exact ⟨0, Nat.zero_le _, rfl, fun j hj => by omega⟩
  case round =>
    obtain ⟨pos, hp0, rfl, hok⟩ := hrel
    have HW : Hid (Below w.heap.size w (w.iter s pos)) := (Below.refl _ _).alloc (Nat.le_refl _) _
    by_cases hp : pos < s.size
    · obtain ⟨r, d, hde, hd1, hd⟩ := dec_at s pos hp
      have hnx : ∀ ty, (Instr.next (.pointer (some ⟨w.heap.size, 0, none⟩)) true ty).run Try.prog (w.iter s pos) = .ok (.tuple #[.bool true, .int .i64 pos, .int .i32 (r : Int)]) (w.iter s (pos + d)) := fun ty => by
        have := run_next_any (P := Try.prog) w s pos ty hp
        rw [hde] at this
        exact this
      have HW2 : Hid (Below w.heap.size w (w.iter s (pos + d))) := (Below.refl _ _).alloc (Nat.le_refl _) _
      by_cases a1 : r < 97
      · have j1 : (r : Int) < 97 := by omega
        by_cases a2 : r < 48
        · have j2 : (r : Int) < 48 := by omega
          have HN := Lib.hid (nameB_no (dec_bad hp hd (by simp [okN]; omega)))
          clear hde hd hok hp0 hp
          go_wp2_with fail
          go_ret
          exact ⟨by rw [HN.out]; rfl, HW2.out⟩
        · have j2 : ¬ (r : Int) < 48 := by omega
          by_cases a3 : 57 < r
          · have j3 : (57 : Int) < (r : Int) := by omega
            have HN := Lib.hid (nameB_no (dec_bad hp hd (by simp [okN]; omega)))
            clear hde hd hok hp0 hp
            go_wp2_with fail
            go_ret
            exact ⟨by rw [HN.out]; rfl, HW2.out⟩
          · have j3 : ¬ (57 : Int) < (r : Int) := by omega
            have HO := Lib.hid (dec_ok hp hd (by omega) (by simp [okN]; omega))
            clear hde hd
            go_wp2_with fail
            go_roundw
            case rel =>
              obtain ⟨rfl, ho⟩ := HO.out
              exact ⟨pos + 1, by omega, rfl, fun j hj => by
                rcases Nat.lt_or_ge j pos with hl | hl
                · exact hok j hl
                · have : j = pos := by omega
                  subst this
                  exact ho⟩
            case measure =>
              simp
              omega
      · have j1 : ¬ (r : Int) < 97 := by omega
        by_cases a3 : 122 < r
        · have j3 : (122 : Int) < (r : Int) := by omega
          by_cases a4 : r < 48
          · omega
          have j4 : ¬ (r : Int) < 48 := by omega
          have j5 : (57 : Int) < (r : Int) := by omega
          have HN := Lib.hid (nameB_no (dec_bad hp hd (by simp [okN]; omega)))
          clear hde hd hok hp0 hp
          go_wp2_with fail
          go_ret
          exact ⟨by rw [HN.out]; rfl, HW2.out⟩
        · have j3 : ¬ (122 : Int) < (r : Int) := by omega
          have HO := Lib.hid (dec_ok hp hd (by omega) (by simp [okN]; omega))
          clear hde hd
          go_wp2_with fail
          go_roundw
          case rel =>
            obtain ⟨rfl, ho⟩ := HO.out
            exact ⟨pos + 1, by omega, rfl, fun j hj => by
              rcases Nat.lt_or_ge j pos with hl | hl
              · exact hok j hl
              · have : j = pos := by omega
                subst this
                exact ho⟩
          case measure =>
            simp
            omega
    · have hnx : ∀ ty, (Instr.next (.pointer (some ⟨w.heap.size, 0, none⟩)) true ty).run Try.prog (w.iter s pos) = _ := fun ty => run_next_end w s pos ty hp
      have HN := Lib.hid (nameB_yes (s := s) ⟨by omega, by omega, fun j => by
        rcases Nat.lt_or_ge j pos with hl | hl
        · exact hok j hl
        · intro h; omega⟩)
      clear hok
      go_wp2_with fail
      go_ret
      exact ⟨by rw [HN.out]; rfl, HW.out⟩

end Go.Proofs.Ytchedflfinkppaa
