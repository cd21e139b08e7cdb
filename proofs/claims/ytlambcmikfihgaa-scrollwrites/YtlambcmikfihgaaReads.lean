/-
  The contracts of a Reader's done, Num, End, Left.
-/
import Derived.Test.YtlambcmikfihgaaNumber
namespace Go.Proofs.Ytlambcmikfihgaa
open Go.RowKit

theorem two_cell0 {w : World} {b : Nat} {x y : Value} {t : TypeId} (h : w.heap[b]? = some (.cells #[x, y] t (0, 0))) : w.cell? ⟨b, 0, none⟩ = some x := by simp [World.cell?, h]
theorem two_cell1 {w : World} {b : Nat} {x y : Value} {t : TypeId} (h : w.heap[b]? = some (.cells #[x, y] t (0, 0))) : w.cell? ⟨b, 1, none⟩ = some y := by simp [World.cell?, h]
theorem two_free {w : World} {b k : Nat} {x y : Value} {t : TypeId} (h : w.heap[b]? = some (.cells #[x, y] t (0, 0))) : w.frozen? ⟨b, k, none⟩ = false := by simp [World.frozen?, h]
theorem two_set0 {w : World} {b : Nat} {x y u : Value} {t : TypeId} (h : w.heap[b]? = some (.cells #[x, y] t (0, 0))) : (w.setCell ⟨b, 0, none⟩ u).heap[b]? = some (.cells #[u, y] t (0, 0)) := by
  simp [World.setCell, Array.getElem?_modify, h]
theorem two_set1 {w : World} {b : Nat} {x y u : Value} {t : TypeId} (h : w.heap[b]? = some (.cells #[x, y] t (0, 0))) : (w.setCell ⟨b, 1, none⟩ u).heap[b]? = some (.cells #[x, u] t (0, 0)) := by
  simp [World.setCell, Array.getElem?_modify, h]

theorem Fr.set (w : World) (b k : Nat) (u : Value) : Fr b none w (w.setCell ⟨b, k, none⟩ u) :=
  ⟨rfl, rfl, rfl, by simp [World.setCell], fun i _ hb _ => Below.heap_setCell w _ u i hb⟩
theorem Row.set {w : World} {b k : Nat} {A : Option Addr} {xs : List Value} (h : Row (fun g => g < b) w A xs) (u : Value) : Row (fun g => g < b) (w.setCell ⟨b, k, none⟩ u) A xs :=
  h.kept (by simp [World.setCell]) fun g _ hg => Below.heap_setCell w _ u g (by simp; omega)
theorem add_add (a : Addr) (i j : Nat) : (a.add i).add j = a.add (i + j) := by
  unfold Addr.add
  by_cases hi : i = 0 <;> by_cases hj : j = 0 <;> simp [hi, hj, Nat.add_assoc]
/-- cut from k on -/
theorem Row.cut {S : Nat → Prop} {w : World} {A : Option Addr} {xs : List Value} (h : Row S w A xs) (k c : Nat) (hc : xs.length ≤ c) :
    Row S w (if c = k then A else A.map (·.add k)) (xs.drop k) := fun j hj => by
  rw [List.length_drop] at hj
  obtain ⟨ad, rfl, s, lt, hcell⟩ := h (k + j) (by omega)
  rw [if_neg (by omega)]
  refine ⟨ad.add k, rfl, by rw [block_add]; exact s, by rw [block_add]; exact lt, ?_⟩
  rw [add_add, hcell, List.getElem?_drop]

set_option maxHeartbeats 400000 in
theorem done_no (b : Nat) (l : List Int) (w : World) (h : Rd w b l 0) :
    Calls Try.prog 28 #[.pointer (some ⟨b, 0, none⟩)] w fun e w' => e = .returned (.bool false) ∧ w = w' := by
  obtain ⟨A, c, hb, _, _⟩ := h
  have h1 := two_cell1 hb
  clear hb
  go_enter Try.func28, Try.ntmps28
  go_wp2
  go_ret
  exact ⟨rfl, rfl⟩

set_option maxHeartbeats 400000 in
theorem done_yes (b : Nat) (l : List Int) (f : Int) (w : World) (h : Rd w b l f) (hf : (f != 0) = true) :
    Calls Try.prog 28 #[.pointer (some ⟨b, 0, none⟩)] w fun e w' => e = .returned (.bool true) ∧ w = w' := by
  obtain ⟨A, c, hb, _, _⟩ := h
  have h1 := two_cell1 hb
  clear hb
  go_enter Try.func28, Try.ntmps28
  go_wp2
  go_ret
  exact ⟨rfl, rfl⟩

set_option maxHeartbeats 400000 in
theorem done_nil (w : World) :
    Calls Try.prog 28 #[.pointer none] w fun e w' => e = .returned (.bool true) ∧ w = w' := by
  go_enter Try.func28, Try.ntmps28
  go_wp2
  go_ret
  exact ⟨rfl, rfl⟩

/-- what a Reader's call has done -/
def Took (b : Nat) (l' : List Int) (f' : Int) (w w' : World) : Prop := Rd w' b l' f' ∧ Fr b none w w'

set_option maxRecDepth 100000 in
set_option maxHeartbeats 400000 in
theorem rnum_any (b most : Nat) (l : List Int) (w : World) (h : Rd w b l 0) (hl : l.length ≤ 70368744177664) (h8 : Bytes8 l) :
    Calls Try.prog 16 #[.pointer (some ⟨b, 0, none⟩), .int .u64 most] w fun e w' => e = .returned (.int .u64 (numR l most).1) ∧ Took b (l.drop (numR l most).2.1) (numR l most).2.2 w w' := by
  have hd := done_no b l w h
  obtain ⟨A, c, hb, hc, hrow⟩ := h
  have hnum := number_any _ A c most l w hrow hl hc h8
  have h0 := two_cell0 hb
  have h1 := two_cell1 hb
  have hf0 := two_free (k := 0) hb
  have hf1 := two_free (k := 1) hb
  have HD := Lib.hid hd
  have HB := Lib.hid hb
  have hor := numR_or l most
  unfold numV at hnum
  obtain ⟨⟨n, s, f⟩, hR⟩ : ∃ r, r = numR l most := ⟨_, rfl⟩
  rw [← hR] at hor hnum ⊢
  simp only at hor hnum ⊢
  have HN := Lib.hid hnum
  clear hd hb hR hnum
  rcases hor with ⟨hf, rfl, rfl⟩ | ⟨rfl, hs⟩
  · have hf' : (f != 0) = true := by simpa using hf
    clear hf
    go_enter Try.func16, Try.ntmps16
    go_wp2_with fail
    refine HD.out.mono ?_
    rintro e w1 ⟨rfl, rfl⟩
    go_wp2_with fail
    refine HN.out.mono ?_
    rintro e w1 ⟨rfl, rfl⟩
    go_wp2_with fail
    go_ret
    exact ⟨rfl, ⟨A, c, two_set1 HB.out, hc, hrow.set _⟩, Fr.set _ _ _ _⟩
  · have hcut := hrow.cut s c (by rw [u8s_len]; exact hc)
    have hu : (u8s l).drop s = u8s (l.drop s) := by simp [u8s]
    have hlen : (l.drop s).length = l.length - s := List.length_drop ..
    rw [hu] at hcut
    have HL := Lib.hid hlen
    clear hu hlen
    by_cases hcs : c = s
    · rw [if_pos hcs] at hcut
      subst hcs
      go_enter Try.func16, Try.ntmps16
      go_wp2_with fail
      refine HD.out.mono ?_
      rintro e w1 ⟨rfl, rfl⟩
      go_wp2_with fail
      refine HN.out.mono ?_
      rintro e w1 ⟨rfl, rfl⟩
      go_wp2_with fail
      go_ret
      have hz : (l.drop c).length = 0 := by rw [HL.out]; omega
      exact ⟨rfl, ⟨A, 0, by rw [hz]; exact two_set0 HB.out, by rw [hz]; omega, hcut.set _⟩, Fr.set _ _ _ _⟩
    · rw [if_neg hcs] at hcut
      go_enter Try.func16, Try.ntmps16
      go_wp2_with fail
      refine HD.out.mono ?_
      rintro e w1 ⟨rfl, rfl⟩
      go_wp2_with fail
      refine HN.out.mono ?_
      rintro e w1 ⟨rfl, rfl⟩
      go_wp2_with fail
      go_ret
      exact ⟨rfl, ⟨_, _, by rw [HL.out]; exact two_set0 HB.out, by rw [HL.out]; omega, hcut.set _⟩, Fr.set _ _ _ _⟩

set_option maxRecDepth 100000 in
set_option maxHeartbeats 400000 in
theorem rnum_done (b most : Nat) (l : List Int) (f : Int) (w : World) (h : Rd w b l f) (hf : (f != 0) = true) :
    Calls Try.prog 16 #[.pointer (some ⟨b, 0, none⟩), .int .u64 most] w fun e w' => e = .returned (.int .u64 0) ∧ w = w' := by
  go_enter Try.func16, Try.ntmps16
  go_wp2_with fail
  refine (done_yes b l f _ h hf).mono ?_
  rintro e w1 ⟨rfl, rfl⟩
  go_wp2_with fail
  go_ret
  exact ⟨rfl, rfl⟩

set_option maxRecDepth 100000 in
set_option maxHeartbeats 400000 in
theorem rnum_nil (most : Nat) (w : World) :
    Calls Try.prog 16 #[.pointer none, .int .u64 most] w fun e w' => e = .returned (.int .u64 0) ∧ w = w' := by
  go_enter Try.func16, Try.ntmps16
  go_wp2_with fail
  refine (done_nil _).mono ?_
  rintro e w1 ⟨rfl, rfl⟩
  go_wp2_with fail
  go_ret
  exact ⟨rfl, rfl⟩

/-- what End tells -/
def endR (l : List Int) (f : Int) : Int := if f = 0 ∧ 0 < l.length then 4 else f

set_option maxRecDepth 100000 in
set_option maxHeartbeats 400000 in
theorem end_any (b : Nat) (l : List Int) (f : Int) (w : World) (h : Rd w b l f) :
    Calls Try.prog 20 #[.pointer (some ⟨b, 0, none⟩)] w fun e w' => e = .returned (.int .i64 (endR l f)) ∧ w = w' := by
  obtain ⟨A, c, hb, hc, hrow⟩ := h
  have h0 := two_cell0 hb
  have h1 := two_cell1 hb
  clear hb
  by_cases hf : f = 0
  · subst hf
    by_cases hl : 0 < l.length
    · have HE := Lib.hid (show endR l 0 = 4 by simp [endR, List.length_pos_iff.1 hl])
      have hl' : (0 : Int) < (l.length : Int) := by omega
      go_enter Try.func20, Try.ntmps20
      go_wp2
      go_ret
      exact ⟨by rw [HE.out]; rfl, rfl⟩
    · have HE := Lib.hid (show endR l 0 = 0 by unfold endR; rw [if_neg (by omega)])
      have hl' : ¬ (0 : Int) < (l.length : Int) := by omega
      go_enter Try.func20, Try.ntmps20
      go_wp2
      go_ret
      exact ⟨by rw [HE.out]; rfl, rfl⟩
  · have HE := Lib.hid (show endR l f = f by simp [endR, hf])
    have hf' : (f == 0) = false := by simpa using hf
    clear hf
    go_enter Try.func20, Try.ntmps20
    go_wp2
    go_ret
    exact ⟨by rw [HE.out]; rfl, rfl⟩

set_option maxHeartbeats 400000 in
theorem end_nil (w : World) : Calls Try.prog 20 #[.pointer none] w fun e w' => e = .returned (.int .i64 0) ∧ w = w' := by
  go_enter Try.func20, Try.ntmps20
  go_wp2
  go_ret
  exact ⟨rfl, rfl⟩

set_option maxHeartbeats 400000 in
theorem left_any (b : Nat) (l : List Int) (f : Int) (w : World) (h : Rd w b l f) :
    Calls Try.prog 21 #[.pointer (some ⟨b, 0, none⟩)] w fun e w' => e = .returned (.int .i64 l.length) ∧ w = w' := by
  obtain ⟨A, c, hb, hc, hrow⟩ := h
  have h0 := two_cell0 hb
  clear hb
  go_enter Try.func21, Try.ntmps21
  go_wp2
  go_ret
  exact ⟨rfl, rfl⟩

set_option maxHeartbeats 400000 in
theorem left_nil (w : World) : Calls Try.prog 21 #[.pointer none] w fun e w' => e = .returned (.int .i64 0) ∧ w = w' := by
  go_enter Try.func21, Try.ntmps21
  go_wp2
  go_ret
  exact ⟨rfl, rfl⟩

end Go.Proofs.Ytlambcmikfihgaa
