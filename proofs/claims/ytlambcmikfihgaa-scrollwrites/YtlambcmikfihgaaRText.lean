/-
  The contract of (*Reader).Text.
-/
import Derived.Test.YtlambcmikfihgaaReads
import Derived.Test.YtlambcmikfihgaaCut
import Derived.Deep.QuietTactic
import Derived.BigQuiet
namespace Go.Proofs.Ytlambcmikfihgaa
open Go.RowKit

theorem quiet_left {P : Program} {f : FuncId} {args : Array Value} {w : World} {n : Nat} {v : Value}
    (h : Calls P f args (w.drewN n) fun e w' => e = .returned v ∧ w.drewN n = w') : Calls P f args (w.drewN n) fun e w'' => e = .returned v ∧ ∃ m, w'' = w.drewN m :=
  h.mono fun _ _ ⟨he, hm⟩ => ⟨he, n, hm.symm⟩

theorem Row.drewN {S : Nat → Prop} {w : World} {A : Option Addr} {xs : List Value} (h : Row S w A xs) (n : Nat) : Row S (w.drewN n) A xs := h

theorem Fr.drewSet (w : World) (n b k : Nat) (u : Value) : Fr b none w ((w.drewN n).setCell ⟨b, k, none⟩ u) :=
  ⟨rfl, rfl, rfl, by simp [World.setCell, World.drewN], fun i _ hb _ => Below.heap_setCell (w.drewN n) _ u i hb⟩

/-- What Text answers, and leaves. -/
def Told (b : Nat) (f : List Int → List Value) (t l' : List Int) (ft : Int) (w : World) (e : Ending) (w' : World) : Prop :=
  ∃ A c, e = .returned (.slice A t.length c) ∧ t.length ≤ c ∧ Row (fun g => g < b) w' A (f t) ∧ Took b l' ft w w'

theorem Row.slice {S : Nat → Prop} {w : World} {A A' : Option Addr} {l : List Int} (h : Row S w A (u8s l)) (s n : Nat) (hA : 0 < n → A' = A.map (·.add s)) : Row S w A' (u8s ((l.drop s).take n)) := fun j hj => by
  rw [u8s_len, List.length_take, List.length_drop] at hj
  obtain ⟨ad, rfl, q, lt, hcell⟩ := h (s + j) (by rw [u8s_len]; omega)
  rw [hA (by omega)]
  refine ⟨ad.add s, rfl, by rw [block_add]; exact q, by rw [block_add]; exact lt, ?_⟩
  rw [add_add, hcell]
  simp only [u8s, List.getElem?_map, List.getElem?_take, List.getElem?_drop]
  rw [if_pos (by omega)]

theorem told_fin {b s n c nq k1 k2 m2 c2 : Nat} {A A1 A2 : Option Addr} {l : List Int} {w : World} (hb : w.heap[b]? = some (.cells #[.slice A l.length c, .int .i64 0] 61 (0, 0))) (hrow : Row (fun g => g < b) w A (u8s l)) (hns : s + n ≤ l.length)
    (hk1 : k1 = n) (hk2 : n ≤ k2) (hA1 : 0 < n → A1 = A.map (·.add s)) (hA2 : 0 < m2 → A2 = A.map (·.add (s + n))) (hm2 : m2 = l.length - (s + n)) (hc2 : m2 ≤ c2) :
    Told b u8s ((l.drop s).take n) (l.drop (s + n)) 0 w (.returned (.slice A1 k1 k2)) ((w.drewN nq).setCell ⟨b, 0, none⟩ (.slice A2 m2 c2)) := by
  have hl1 : ((l.drop s).take n).length = n := by rw [List.length_take, List.length_drop]; omega
  have hl2 : (l.drop (s + n)).length = m2 := by rw [List.length_drop]; omega
  have e2 : l.drop (s + n) = (l.drop (s + n)).take m2 := by rw [List.take_of_length_le (by omega)]
  refine ⟨A1, k2, by rw [hl1, hk1], by omega, ((hrow.drewN nq).slice s n hA1).set _, ⟨A2, c2, ?_, by omega, ?_⟩, Fr.drewSet _ _ _ _ _⟩
  · rw [hl2]; exact two_set0 (w := w.drewN nq) hb
  · rw [e2]; exact ((hrow.drewN nq).slice (s + n) m2 hA2).set _

set_option maxRecDepth 100000 in
set_option maxHeartbeats 800000 in
theorem rtext_any (b : Nat) (most : Int) (l : List Int) (w : World) (h : Rd w b l 0) (hl : l.length ≤ 70368744177664) (h8 : Bytes8 l) (hm : most ≤ 9223372036854775807) (mo : Nat) (hmo : most.toNat = mo) :
    Calls Try.prog 17 #[.pointer (some ⟨b, 0, none⟩), .int .i64 most] w fun e w' => Told b u8s (textR l mo).1 (textR l mo).2.1 (textR l mo).2.2 w e w' := by
  have hd := done_no b l w h
  obtain ⟨A, c, hb, hc, hrow⟩ := h
  have hnum : ∀ q, Calls Try.prog 29 #[.slice A l.length c, .int .u64 mo] (w.drewN q) fun e w' => e = .returned (numV l mo) ∧ w.drewN q = w' := fun q => number_any _ A c mo l _ (hrow.drewN q) hl hc h8
  have h0 := two_cell0 hb
  have h1 := two_cell1 hb
  have hf0 := two_free (k := 0) hb
  have hf1 := two_free (k := 1) hb
  have HD := Lib.hid hd
  have HB := Lib.hid hb
  have HM := Lib.hid hmo
  have hor := numR_or l mo
  have hle := numR_le l mo
  unfold numV at hnum
  unfold textR
  obtain ⟨⟨n, s, f⟩, hR⟩ : ∃ r, r = numR l mo := ⟨_, rfl⟩
  rw [← hR] at hor hnum hle ⊢
  simp only at hor hnum hle ⊢
  have HN := Lib.hid hnum
  clear hd hb hR hnum hmo
  rcases hor with ⟨hf, rfl, rfl⟩ | ⟨rfl, hs⟩
  · have hf' : (f != 0) = true := by simpa using hf
    have hf2 : (f == 0) = false := by simpa using hf
    rw [if_pos hf]
    clear hf
    go_enter Try.func17, Try.ntmps17
    go_wp2_with fail
    refine HD.out.mono ?_
    rintro e w1 ⟨rfl, rfl⟩
    go_wp2_with fail
    go_quiet (first | ((go_at_call 30; with_reducible exact quiet_left (atLeast_any most mo _ hm HM.out))) | ((go_at_call 29; with_reducible exact quiet_left (HN.out _))))
    go_wp2_with fail
    go_ret
    exact ⟨none, 0, rfl, Nat.le_refl _, Row.nil, ⟨A, c, two_set1 (w := w.drewN _) HB.out, hc, (hrow.drewN _).set _⟩, Fr.drewSet _ _ _ _ _⟩
  · rw [if_neg (by simp)]
    have hmo' : mo ≤ 9223372036854775807 := by have := HM.out; omega
    by_cases hn : l.length - s < n
    · rw [if_pos hn]
      have hn' : (l.length : Int) - (s : Int) < (n : Int) := by omega
      go_enter Try.func17, Try.ntmps17
      go_wp2_with fail
      refine HD.out.mono ?_
      rintro e w1 ⟨rfl, rfl⟩
      go_wp2_with fail
      go_quiet (first | ((go_at_call 30; with_reducible exact quiet_left (atLeast_any most mo _ hm HM.out))) | ((go_at_call 29; with_reducible exact quiet_left (HN.out _))))
      go_wp2_with fail
      go_ret
      exact ⟨none, 0, rfl, Nat.le_refl _, Row.nil, ⟨A, c, two_set1 (w := w.drewN _) HB.out, hc, (hrow.drewN _).set _⟩, Fr.drewSet _ _ _ _ _⟩
    · rw [if_neg hn]
      have hn' : ¬ (l.length : Int) - (s : Int) < (n : Int) := by omega
      have hns : s + n ≤ l.length := by omega
      by_cases h0n : n ≤ 0
      all_goals by_cases hcs : c ≤ s + n
      all_goals
        go_enter Try.func17, Try.ntmps17
        go_wp2_with fail
        refine HD.out.mono ?_
        rintro e w1 ⟨rfl, rfl⟩
        go_wp2_with fail
        go_quiet (first | ((go_at_call 30; with_reducible exact quiet_left (atLeast_any most mo _ hm HM.out))) | ((go_at_call 29; with_reducible exact quiet_left (HN.out _))))
        go_wp2_with fail
        go_ret
        refine told_fin HB.out hrow hns ?_ ?_ ?_ ?_ ?_ ?_
        all_goals first | omega | (intro hpos; first | rfl | omega) | skip

end Go.Proofs.Ytlambcmikfihgaa
