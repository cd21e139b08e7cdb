/-
  The contracts of upTo's closure, of sort.Search with it, of upTo.
-/
import Derived.Test.YtphcakhhjjdpiaaChn
namespace Go.Proofs.Ytphcakhhjjdpiaa
open Go.RowKit

/-- Stamps rise. -/
def Rise (vs : List Ver) : Prop := vs.Pairwise fun a b => a.1 < b.1
/-- how many versions have a stamp that is at most s -/
def cnt (vs : List Ver) (s : Int) : Nat := vs.countP fun v => decide (v.1 ≤ s)
theorem cnt_le (vs : List Ver) (s : Int) : cnt vs s ≤ vs.length := List.countP_le_length
/-- k parts the versions that are at most s from the others -/
def PartsAt (vs : List Ver) (s : Int) (k : Nat) : Prop := k ≤ vs.length ∧ (∀ j (hj : j < vs.length), j < k → vs[j].1 ≤ s) ∧ (∀ j (hj : j < vs.length), k ≤ j → s < vs[j].1)
theorem PartsAt.cnt {vs : List Ver} {s : Int} {k : Nat} (h : PartsAt vs s k) : k = cnt vs s := by
  obtain ⟨h1, h2, h3⟩ := h
  have e : vs.countP (fun v => decide (v.1 ≤ s)) = (vs.take k).countP (fun v => decide (v.1 ≤ s)) + (vs.drop k).countP (fun v => decide (v.1 ≤ s)) := by
    rw [← List.countP_append, List.take_append_drop]
  have e1 : (vs.take k).countP (fun v => decide (v.1 ≤ s)) = (vs.take k).length := by
    rw [List.countP_eq_length]
    intro a ha
    obtain ⟨j, hj, rfl⟩ := List.getElem_of_mem ha
    rw [List.length_take] at hj
    rw [List.getElem_take]
    simpa using h2 j (by omega) (by omega)
  have e2 : (vs.drop k).countP (fun v => decide (v.1 ≤ s)) = 0 := by
    rw [List.countP_eq_zero]
    intro a ha
    obtain ⟨j, hj, rfl⟩ := List.getElem_of_mem ha
    rw [List.length_drop] at hj
    rw [List.getElem_drop]
    have := h3 (k + j) (by omega) (by omega)
    simp; omega
  unfold Ytphcakhhjjdpiaa.cnt
  rw [e, e1, e2, List.length_take]; omega
theorem Rise.at_lt {vs : List Ver} (h : Rise vs) {i j : Nat} (hi : i < vs.length) (hj : j < vs.length) (hij : i < j) : vs[i].1 < vs[j].1 := (List.pairwise_iff_getElem.1 h) i j hi hj hij
theorem Rise.parts {vs : List Ver} (h : Rise vs) (s : Int) : PartsAt vs s (cnt vs s) := by
  have hex : ∃ k, PartsAt vs s k := by
    induction vs with
    | nil => exact ⟨0, Nat.le_refl _, fun j hj => by simp at hj, fun j hj => by simp at hj⟩
    | cons x vs ih =>
      have hx := List.pairwise_cons.1 h
      by_cases hs : x.1 ≤ s
      · obtain ⟨k, h1, h2, h3⟩ := ih hx.2
        refine ⟨k + 1, by simp; omega, fun j hj hjk => ?_, fun j hj hjk => ?_⟩
        · cases j with
          | zero => exact hs
          | succ j => exact h2 j (by simpa using hj) (by omega)
        · cases j with
          | zero => omega
          | succ j => exact h3 j (by simpa using hj) (by omega)
      · refine ⟨0, Nat.zero_le _, fun j _ hjk => by omega, fun j hj _ => ?_⟩
        cases j with
        | zero => simpa using hs
        | succ j =>
          have := hx.1 (vs[j]'(by simpa using hj)) (List.getElem_mem _)
          simp
          omega
  obtain ⟨k, hk⟩ := hex
  rw [← hk.cnt]; exact hk

/-- the pointer to the chain, and the stamp, as the closure holds them -/
structure Held (w : World) (q b : Nat) (s : Int) : Prop where
  ptr : w.cell? ⟨q, 0, none⟩ = some (.pointer (some ⟨b, 0, none⟩))
  st : w.cell? ⟨q + 1, 0, none⟩ = some (.int .u64 s)
  lt : q + 1 < w.heap.size
theorem Held.below {w w' : World} {q b : Nat} {s : Int} (H : Held w q b s) (hb : Below w.heap.size w w') : Held w' q b s :=
  ⟨(hb.cell (p := ⟨q, 0, none⟩) (by have := H.lt; simp; omega)).trans H.ptr, (hb.cell (p := ⟨q + 1, 0, none⟩) (by have := H.lt; simp; omega)).trans H.st, by have := H.lt; have := hb.size; omega⟩

set_option maxRecDepth 100000 in
set_option maxHeartbeats 1000000 in
theorem closure_any (S K : Nat → Prop) (q b : Nat) (s : Int) (A : Option Addr) (ca j : Nat) (hs : List Ver) (w : World) (H : Held w q b s) (hv : w.cell? ⟨b, 0, none⟩ = some (.slice A hs.length ca)) (hat : VersAt S K w A hs) (hj : j < hs.length) :
    Calls Try.prog 31 #[.int .i64 (j : Int), .pointer (some ⟨q, 0, none⟩), .pointer (some ⟨q + 1, 0, none⟩)] w fun e w' => e = .returned (.bool (decide (s < hs[j].1))) ∧ Below w.heap.size w w' := by
  obtain ⟨ad, rfl, j1, hlt, h0, Y, cy, j2, j3, j4⟩ := hat j hj
  clear j1 j2 j3 j4
  obtain ⟨p0, p1, plt⟩ := H
  have i1 : (j : Int) < (hs.length : Int) := by omega
  generalize hs[j].1 = xi at *
  clear hat
  go_enter Try.func31, Try.ntmps31
  go_wp2_with fail
  go_quiet (fail)
  go_wp2_with fail
  go_ret
  exact ⟨rfl, below_drewN (Below.refl _ _) _⟩

set_option maxRecDepth 100000 in
set_option maxHeartbeats 1000000 in
theorem search_any (S K : Nat → Prop) (q b : Nat) (s : Int) (A : Option Addr) (ca : Nat) (hs : List Ver) (w : World) (H : Held w q b s) (hv : w.cell? ⟨b, 0, none⟩ = some (.slice A hs.length ca)) (hat : VersAt S K w A hs)
    (hso : Rise hs) (hn : hs.length ≤ 1000) :
    Calls Try.prog 30 #[.int .i64 (hs.length : Int), .func (.func 31) #[] #[.pointer (some ⟨q, 0, none⟩), .pointer (some ⟨q + 1, 0, none⟩)]] w fun e w' => e = .returned (.int .i64 (cnt hs s : Nat)) ∧ Below w.heap.size w w' := by
  have hsa : ∀ i j (hi : i < hs.length) (hj : j < hs.length), i < j → hs[i].1 < hs[j].1 := fun i j hi hj => hso.at_lt hi hj
  have HS := Lib.hid hsa
  have hbl := lt_of_cell hv
  clear hsa hso
  go_enter Try.func30, Try.ntmps30
  go_wp2_with fail
  go_loopw [5, 6, 7] (fun x y _ wr => ∃ i j : Nat, i ≤ j ∧ j ≤ hs.length ∧ x = .int .i64 i ∧ y = .int .i64 j ∧ (∀ t (ht : t < hs.length), t < i → hs[t].1 ≤ s) ∧ (∀ t (ht : t < hs.length), j ≤ t → s < hs[t].1) ∧ Below w.heap.size w wr) (fun x y _ _ => (intOf y).toNat - (intOf x).toNat)
  case atStart => exact ⟨0, hs.length, Nat.zero_le _, Nat.le_refl _, rfl, rfl, fun t _ ht => by omega, fun t ht h => by omega, Below.refl _ _⟩
  case round =>
    obtain ⟨i, j, hij, hj, rfl, rfl, hlo, hhi, hbl2⟩ := hrel
    have HL := Lib.hid hlo
    have HH := Lib.hid hhi
    clear hlo hhi
    by_cases hlt : i < j
    · have i1 : (i : Int) < (j : Int) := by omega
      obtain ⟨m, hm⟩ : ∃ m, m = (i + j) / 2 := ⟨_, rfl⟩
      have hm1 : i ≤ m ∧ m < j := by omega
      have hml : m < hs.length := by omega
      have hw1 : IntKind.i64.wrap ((i : Int) + (j : Int)) = (i : Int) + (j : Int) := by rw [IntKind.wrap_i64]; omega
      have HC := Lib.hid (closure_any S K q b s A ca m hs wr (H.below hbl2) ((hbl2.cell (p := ⟨b, 0, none⟩) hbl).trans hv) (hat.below hbl2) hml)
      have hmi : ((i : Int) + (j : Int)) / 2 = (m : Int) := by omega
      clear hm
      have hm64 : (m : Int) ≤ 1000 := by omega
      by_cases hx : s < hs[m].1
      · rw [show decide (s < hs[m].1) = true by simpa using hx] at HC
        have HHN : Hid (∀ t (ht : t < hs.length), m ≤ t → s < hs[t].1) := fun t ht htm => by
          rcases Nat.lt_or_ge m t with h1 | h1
          · exact Int.lt_trans hx (HS.out m t hml ht h1)
          · obtain rfl : t = m := by omega
            exact hx
        clear hx
        go_wp2_with (go_at_call 31; refine (HC.out).mono ?_; rintro e w5 ⟨rfl, hb5⟩)
        go_roundw
        case rel => exact ⟨i, m, by omega, by omega, rfl, rfl, HL.out, HHN.out, hbl2.trans (hb5.mono hbl2.size)⟩
        case measure => simp [intOf]; omega
      · rw [show decide (s < hs[m].1) = false by simpa using hx] at HC
        have HLN : Hid (∀ t (ht : t < hs.length), t < m + 1 → hs[t].1 ≤ s) := fun t ht htm => by
          rcases Nat.lt_or_ge t m with h1 | h1
          · have := HS.out t m ht hml h1; omega
          · obtain rfl : t = m := by omega
            omega
        clear hx
        go_wp2_with (go_at_call 31; refine (HC.out).mono ?_; rintro e w5 ⟨rfl, hb5⟩)
        go_roundw
        case rel => exact ⟨m + 1, j, by omega, hj, by go_num, rfl, HLN.out, HH.out, hbl2.trans (hb5.mono hbl2.size)⟩
        case measure => simp [intOf]; omega
    · have i1 : ¬ (i : Int) < (j : Int) := by omega
      have HP : Hid (PartsAt hs s i) := ⟨by omega, HL.out, fun t ht hit => HH.out t ht (by omega)⟩
      have HI := Lib.hid HP.out.cnt
      go_wp2_with fail
      go_ret
      exact ⟨by rw [← HI.out]; rfl, hbl2⟩

set_option maxRecDepth 100000 in
set_option maxHeartbeats 1000000 in
theorem upTo_any (K : Nat → Prop) (B b : Nat) (v : Value) (hs : List Ver) (s : Int) (w : World) (L : Chn K w B b v hs) (hso : Rise hs) (hn : hs.length ≤ 1000) :
    Calls Try.prog 24 #[.pointer (some ⟨b, 0, none⟩), .int .u64 s] w fun e w' => e = .returned (.int .i64 (cnt hs s : Nat)) ∧ Below w.heap.size w w' := by
  obtain ⟨w2, hw2⟩ : ∃ x, x = (w.alloc (.cells #[.pointer (some ⟨b, 0, none⟩)] 24)).alloc (.cells #[.int .u64 s] 29) := ⟨_, rfl⟩
  have hb2 : Below w.heap.size w w2 := by rw [hw2]; exact ((Below.refl _ _).alloc (Nat.le_refl _) _).alloc (by simp) _
  have H : Held w2 w.heap.size b s := by rw [hw2]; constructor <;> go_simp
  have L2 := L.below hb2
  have HL := Lib.hid (len_any K B b v hs w2 L2)
  obtain ⟨A, ca, rfl, _, hat⟩ := L2.vers
  have hc1 := L2.cell
  have HC := Lib.hid (search_any _ _ w.heap.size b s A ca hs w2 H hc1 hat hso hn)
  clear L L2 hso hat H
  subst hw2
  go_enter Try.func24, Try.ntmps24
  go_wp2_with (first | (go_at_call 23; refine (HL.out).mono ?_; rintro e w5 ⟨rfl, rfl⟩) | (go_at_call 30; refine (HC.out).mono ?_; rintro e w5 ⟨rfl, hb5⟩) | fail)
  go_ret
  exact ⟨rfl, hb2.trans (hb5.mono hb2.size)⟩

set_option maxRecDepth 100000 in
set_option maxHeartbeats 400000 in
theorem search_nil (q : Nat) (w : World) : Calls Try.prog 30 #[.int .i64 0, .func (.func 31) #[] #[.pointer (some ⟨q, 0, none⟩), .pointer (some ⟨q + 1, 0, none⟩)]] w fun e w' => e = .returned (.int .i64 0) ∧ w = w' := by
  go_enter Try.func30, Try.ntmps30
  go_wp2_with fail
  go_loop [5, 6, 7] (fun x y _ => x = .int .i64 0 ∧ y = .int .i64 0) (fun _ _ _ => 0)
  case atStart => exact ⟨rfl, rfl⟩
  case round =>
    obtain ⟨rfl, rfl⟩ := hrel
    go_wp2_with fail
    go_ret
    exact ⟨rfl, rfl⟩

set_option maxHeartbeats 400000 in
theorem upTo_nil (s : Int) (w : World) : Calls Try.prog 24 #[.pointer none, .int .u64 s] w fun e w' => e = .returned (.int .i64 0) ∧ Below w.heap.size w w' := by
  have HL : Hid (∀ W, Calls Try.prog 23 #[.pointer none] W fun e w' => e = .returned (.int .i64 0) ∧ W = w') := fun W => len_nil W
  have HC := Lib.hid (search_nil w.heap.size ((w.alloc (.cells #[.pointer none] 24)).alloc (.cells #[.int .u64 s] 29)))
  go_enter Try.func24, Try.ntmps24
  go_wp2_with (first | (go_at_call 23; refine (HL.out _).mono ?_; rintro e w5 ⟨rfl, rfl⟩) | (go_at_call 30; refine (HC.out).mono ?_; rintro e w5 ⟨rfl, rfl⟩) | fail)
  go_ret
  exact ⟨rfl, ((Below.refl _ _).alloc (Nat.le_refl _) _).alloc (by simp) _⟩

end Go.Proofs.Ytphcakhhjjdpiaa
