/-
  What BestRoom does: it returns true, and turns nothing that was there.
-/
import Derived.Test.YtfhnhfppamnjhaaRoom0
import Derived.Test.YtfhnhfppamnjhaaOrders
namespace Go.Proofs.Ytfhnhfppamnjhaa
open Go.RowKit Go.Maps

theorem room_math {L : List Hit} {n m : Nat} (hn : 1 ≤ n) (hnm : n ≤ m) (hp : L.Pairwise fun a b => a.1 ≠ b.1) (hw : ∀ x ∈ L, Wf x) :
    (putAll n [] L).1.length = min n L.length ∧ (putAll m [] L).1.length = min m L.length ∧ (putAll m [] L).1.take (putAll n [] L).1.length = (putAll n [] L).1 := by
  have h1 := take_all (n := n) (M := L.length + 1) hn L [] (Good.start _) hw (by simp)
  have h2 := take_all (n := m) (M := L.length + 1) (by omega) L [] (Good.start _) hw (by simp)
  have h3 := all_len (M := L.length + 1) L [] hp (fun x _ y hy => by cases hy) (by simp)
  rw [List.take_nil] at h1 h2
  simp only [List.length_nil, Nat.zero_add] at h3
  rw [h1, h2, List.length_take, List.length_take, List.take_take, h3]
  refine ⟨rfl, rfl, ?_⟩
  rw [show min (min n L.length) m = min n L.length by omega]
  rcases Nat.le_total n L.length with h | h
  · rw [Nat.min_eq_left h]
  · rw [Nat.min_eq_right h, List.take_of_length_le (by omega), List.take_of_length_le (by omega)]

theorem numb_wf {k : Nat} {hs : List Hit} (hk : hs.length ≤ 1000) (hw : ∀ x ∈ hs, Wf x) : ∀ x ∈ numb k hs, Wf x := fun x hx => by
  obtain ⟨j, hj, rfl⟩ := List.getElem_of_mem hx
  have hj' : j < hs.length := by rw [numb_len] at hj; exact hj
  have h1 := numb_at k hs j
  rw [List.getElem?_eq_getElem hj, List.getElem?_eq_getElem hj'] at h1
  simp only [Option.map_some, Option.some.injEq] at h1
  have h2 := hw _ (List.getElem_mem hj')
  rw [h1]
  split
  · exact ⟨by simp [Lit.wf, IntKind.min, IntKind.max, IntKind.signed, IntKind.bits]; omega, h2.2⟩
  · exact h2

/-- the block of a row of the call's own, and a hit's first cell -/
theorem Own3.at_block {w : World} {B n c k : Nat} {A : Option Addr} {hs : List Hit} (h : Own3 w B (.slice A n c) hs) (hk : k < hs.length) : ∃ g, A = some ⟨g, 0, none⟩ ∧ B ≤ g ∧ g < w.heap.size ∧ w.cell? ⟨g, k * 3, none⟩ = some (.int .u64 hs[k].1) ∧ ∀ i, w.frozen? ⟨g, i, none⟩ = false := by
  obtain ⟨cs, hr, hc⟩ := h
  rcases hr.2 with ⟨_, e0⟩ | ⟨g, cap, cur, e0, hBg, hh, _⟩
  · exact absurd e0 (by omega)
  · injection e0 with e0 _ _
    subst e0
    refine ⟨g, rfl, hBg, lt_of_block hh, ?_, fun i => by simp [World.frozen?, hh]⟩
    have h1 := cells_hits hr rfl _ _ (hc.2 k hs[k] (by simp)).1
    rw [Addr.add_lit, Nat.zero_add] at h1
    exact h1

set_option maxRecDepth 100000 in
set_option maxHeartbeats 4000000 in
theorem law_room (S : Nat → Prop) (a b : Nat) (A : Option Addr) (c : Nat) (hs : List Hit) (w : World) (ha : a < 256) (hb : b < 256) (h : HitsAt S w A hs) (hl : hs.length ≤ 9223372036854775807) (hv : ∀ o ∈ hs, o.2.2.length ≤ 9223372036854775807) (hw : ∀ x ∈ hs, (Lit.int .u64 x.1).wf = true ∧ (Lit.int .u64 x.2.1).wf = true) :
    Calls Try.prog 6 #[.int .u8 (a : Int), .int .u8 (b : Int), .slice A hs.length c] w fun e w' => e = .returned (.bool true) ∧ Below w.heap.size w w' := by
  have HW := Lib.hid (cut_wf hw 60)
  have HLL := Lib.hid (cut_len hs 60)
  have HAW := Lib.hid (awake_any w)
  have HCUT : Hid (∀ W, Below w.heap.size w W → Calls Try.prog 11 #[.slice A hs.length c, .int .i64 60] W fun e w' => GaveHits W ((hs.take 60).map cutHit) e w') := fun W hW => cutHits_any S A c 60 hs W (h.below hW) hl hv (by decide)
  clear h hl hv hw
  generalize (hs.take 60).map cutHit = ls at *
  obtain ⟨x, hx⟩ : ∃ x, x = min a b % 40 := ⟨_, rfl⟩
  obtain ⟨y, hy⟩ : ∃ y, y = max a b % 40 := ⟨_, rfl⟩
  have hx40 : x < 40 := by omega
  have hy40 : y < 40 := by omega
  go_enter Try.func6, Try.ntmps6
  go_wp2_with fail
  refine (HAW.out).mono ?_
  rintro e w1 ⟨rfl, hb1⟩
  rcases Nat.lt_trichotomy a b with hab | hab | hab
  case' inl =>
    have i1 : (a : Int) < (b : Int) := by omega
    have i2 : ¬ (b : Int) < (a : Int) := by omega
    have e1 : (a : Int) % 40 = (x : Int) := by omega
    have e2 : Int.tmod (a : Int) 40 = (x : Int) := by rw [Int.tmod_eq_emod_of_nonneg (by omega)]; exact e1
    have e3 : (b : Int) % 40 = (y : Int) := by omega
    have e4 : Int.tmod (b : Int) 40 = (y : Int) := by rw [Int.tmod_eq_emod_of_nonneg (by omega)]; exact e3
    obtain ⟨n, hn, hn1, hn2⟩ : ∃ n : Nat, (1 : Int) + (x : Int) = (n : Int) ∧ 1 ≤ n ∧ n ≤ 40 := ⟨1 + x, by omega, by omega, by omega⟩
    obtain ⟨m, hm, hm1, hm2⟩ : ∃ m : Nat, (n : Int) + (y : Int) = (m : Int) ∧ n ≤ m ∧ m ≤ 80 := ⟨n + y, by omega, by omega, by omega⟩
  case' inr.inl =>
    obtain rfl : b = a := hab.symm
    obtain rfl : y = x := by omega
    have i1 : ¬ (b : Int) < (b : Int) := by omega
    have e1 : (b : Int) % 40 = (y : Int) := by omega
    have e2 : Int.tmod (b : Int) 40 = (y : Int) := by rw [Int.tmod_eq_emod_of_nonneg (by omega)]; exact e1
    obtain ⟨n, hn, hn1, hn2⟩ : ∃ n : Nat, (1 : Int) + (y : Int) = (n : Int) ∧ 1 ≤ n ∧ n ≤ 40 := ⟨1 + y, by omega, by omega, by omega⟩
    obtain ⟨m, hm, hm1, hm2⟩ : ∃ m : Nat, (n : Int) + (y : Int) = (m : Int) ∧ n ≤ m ∧ m ≤ 80 := ⟨n + y, by omega, by omega, by omega⟩
  case' inr.inr =>
    have i1 : (b : Int) < (a : Int) := by omega
    have i2 : ¬ (a : Int) < (b : Int) := by omega
    have e1 : (b : Int) % 40 = (x : Int) := by omega
    have e2 : Int.tmod (b : Int) 40 = (x : Int) := by rw [Int.tmod_eq_emod_of_nonneg (by omega)]; exact e1
    have e3 : (a : Int) % 40 = (y : Int) := by omega
    have e4 : Int.tmod (a : Int) 40 = (y : Int) := by rw [Int.tmod_eq_emod_of_nonneg (by omega)]; exact e3
    obtain ⟨n, hn, hn1, hn2⟩ : ∃ n : Nat, (1 : Int) + (x : Int) = (n : Int) ∧ 1 ≤ n ∧ n ≤ 40 := ⟨1 + x, by omega, by omega, by omega⟩
    obtain ⟨m, hm, hm1, hm2⟩ : ∃ m : Nat, (n : Int) + (y : Int) = (m : Int) ∧ n ≤ m ∧ m ≤ 80 := ⟨n + y, by omega, by omega, by omega⟩
  all_goals
    clear hx hy
    go_wp2_with fail
    refine (HCUT.out w1 hb1).mono ?_
    rintro e w2 ⟨vl, rfl, Ol, hb2⟩
    have hz1 := hb1.size
    have hz2 := hb2.size
    obtain ⟨Al, cl, rfl, hcl, hat2⟩ := Ol.hits
    have HB2 : Hid (Below w.heap.size w w2) := hb1.trans (hb2.mono hb1.size)
    have HO2 := Lib.hid Ol
    have hll := HLL.out
    clear Ol hb2 hb1 hat2 HAW HCUT
    go_wp2_with fail
    go_loopw [10, 37] (fun _ i wr => ∃ k : Nat, k ≤ ls.length ∧ i = .int .i64 k ∧ Own3 wr w1.heap.size (.slice Al ls.length cl) (numb k ls) ∧ Below w.heap.size w wr) (fun _ i _ => ls.length - (intOf i).toNat)
    case atStart => exact ⟨0, Nat.zero_le _, rfl, by rw [numb_zero]; exact HO2.out, HB2.out⟩
    case round =>
      obtain ⟨k, hk, rfl, hO, hB⟩ := hrel
      by_cases hlt : k < ls.length
      · have i9 : (k : Int) < (ls.length : Int) := by omega
        have hkn : k < (numb k ls).length := by rw [numb_len]; exact hlt
        obtain ⟨g, rfl, hBg, hgl, hcell, hfz⟩ := hO.at_block hkn
        have hfr : wr.frozen? ⟨g, k * 3, none⟩ = false := hfz _
        have hwk : IntKind.u64.wrap (k : Int) = (k : Int) := by rw [IntKind.wrap_u64]; omega
        have HN : Hid (Own3 (wr.setCell ⟨g, k * 3, none⟩ (.int .u64 (k : Int))) w1.heap.size (.slice (some ⟨g, 0, none⟩) ls.length cl) (numb (k + 1) ls)) := by
          have h1 := hO.setId (x := (k : Int)) hkn
          rw [numb_step hlt]
          have h2 : (numb k ls)[k].2 = ls[k].2 := by
            have h3 := numb_at k ls k
            rw [List.getElem?_eq_getElem hkn, List.getElem?_eq_getElem hlt] at h3
            simp at h3
            rw [h3]
          rw [h2] at h1
          exact h1
        have HBN : Hid (Below w.heap.size w (wr.setCell ⟨g, k * 3, none⟩ (.int .u64 (k : Int)))) := hB.setCell (by show w.heap.size ≤ g; omega) _
        clear hO hfz
        go_wp2_with fail
        go_roundw
        case rel => exact ⟨k + 1, by omega, by go_num, HN.out, HBN.out⟩
        case measure => simp [intOf]; omega
      · obtain rfl : k = ls.length := by omega
        have i9 : ¬ ((ls.length : Int) < (ls.length : Int)) := by omega
        have HP := Lib.hid (numb_once ls)
        have HWN := Lib.hid (numb_wf (k := ls.length) (by omega) HW.out)
        have hLl := numb_len ls.length ls
        generalize numb ls.length ls = L at *
        obtain ⟨A', c', e0, _, hat⟩ := hO.hits
        rw [hLl] at e0
        injection e0 with e0 _ e1'
        subst e0 e1'
        have HMG : Hid (∀ (q : Nat) W, 1 ≤ q → q ≤ 80 → Below wr.heap.size wr W → Calls Try.prog 20 #[.int .i64 (q : Int), .slice (some ⟨W.heap.size, 0, none⟩) 1 1] (W.alloc (.cells #[.slice Al ls.length cl] 29)) fun e w' => GaveHits (W.alloc (.cells #[.slice Al ls.length cl] 29)) (putAll q [] L).1 e w') := fun q W h1 h2 hW => by
          have := merge_any _ q _ 1 [L] (W.alloc (.cells #[.slice Al ls.length cl] 29)) h1 (by omega) (lists_one (by rw [hLl]) (hat.below hW) rfl) (by simp) (by simp; omega) (by simpa using HWN.out)
          simpa using this
        obtain ⟨m1, m2, m3⟩ := room_math (m := m) hn1 hm1 HP.out HWN.out
        have HG1 : Hid (Good n (putAll n [] L).1) := (Good.start n).all hn1 HWN.out
        have HM1 := Lib.hid (HMG.out n wr hn1 (by omega) (Below.refl _ _))
        have HM2 : Hid (∀ W, Below wr.heap.size wr W → Calls Try.prog 20 #[.int .i64 (m : Int), .slice (some ⟨W.heap.size, 0, none⟩) 1 1] (W.alloc (.cells #[.slice Al ls.length cl] 29)) fun e w' => GaveHits (W.alloc (.cells #[.slice Al ls.length cl] 29)) (putAll m [] L).1 e w') := fun W hW => HMG.out m W (by omega) hm2 hW
        rw [hLl] at m1 m2
        generalize (putAll n [] L).1 = P at *
        generalize (putAll m [] L).1 = Q at *
        have HM3 := Lib.hid m3
        have HB := Lib.hid hB
        clear hO hat HMG HP HWN hB m3 HO2
        have hPl : P.length ≤ 60 := by omega
        have hQl : Q.length ≤ 60 := by omega
        have hPQ : P.length ≤ Q.length := by omega
        have HPQ := Lib.hid hPQ
        have HC := Lib.hid (And.intro m1 m2)
        clear m1 m2 hPQ
        go_wp2_with fail
        refine (HM1.out).mono ?_
        rintro e w4 ⟨v4, rfl, O4, hb4⟩
        obtain ⟨A4, c4, rfl, hc4, hat4⟩ := O4.hits
        have hbx : Below wr.heap.size wr (wr.alloc (.cells #[.slice Al ls.length cl] 29)) := (Below.refl _ _).alloc (Nat.le_refl _) _
        have hb4' : Below wr.heap.size wr w4 := hbx.trans (hb4.mono hbx.size)
        have HM2' := Lib.hid (HM2.out w4 hb4')
        have HAT4 := Lib.hid hat4
        have HB4 := Lib.hid hb4'
        clear O4 hb4 hat4 hbx hb4' HM1 HM2
        go_wp2_with fail
        refine (HM2'.out).mono ?_
        rintro e w5 ⟨v5, rfl, O5, hb5⟩
        obtain ⟨A5, c5, rfl, hc5, hat5⟩ := O5.hits
        have hbx : Below w4.heap.size w4 (w4.alloc (.cells #[.slice Al ls.length cl] 29)) := (Below.refl _ _).alloc (Nat.le_refl _) _
        have hb5' : Below w4.heap.size w4 w5 := hbx.trans (hb5.mono hbx.size)
        have hsm := sameHits_any _ _ A4 A5 c4 c5 P w5 (HAT4.out.below hb5') (by rw [← HM3.out]; exact hat5.take _) (by omega) (fun x hx => (HG1.out.wf x hx).2.2)
        have HSM := Lib.hid hsm
        have HB5 : Hid (Below w.heap.size w w5) := by
          have h1 : Below w.heap.size w w4 := HB.out.trans (HB4.out.mono HB.out.size)
          exact h1.trans (hb5'.mono h1.size)
        have hp5 : P.length ≤ c5 := Nat.le_trans HPQ.out hc5
        have i11 : ¬ (c5 : Int) < (P.length : Int) := by omega
        clear O5 hb5 hb5' hbx hat5 hsm HAT4 HM3 HM2' HB4
        rcases Nat.lt_or_ge ls.length n with c1 | c1 <;> rcases Nat.lt_or_ge ls.length m with c2 | c2
        case' inl.inl =>
          have j1 : (ls.length : Int) < (n : Int) := by omega
          have j2 : (ls.length : Int) < (m : Int) := by omega
          have q1 : ((P.length : Int) == (ls.length : Int)) = true := by have := HC.out; simp; omega
          have q2 : ((Q.length : Int) == (ls.length : Int)) = true := by have := HC.out; simp; omega
        case' inl.inr => exfalso; omega
        case' inr.inl =>
          have j1 : ¬ (ls.length : Int) < (n : Int) := by omega
          have j2 : (ls.length : Int) < (m : Int) := by omega
          have q1 : ((P.length : Int) == (n : Int)) = true := by have := HC.out; simp; omega
          have q2 : ((Q.length : Int) == (ls.length : Int)) = true := by have := HC.out; simp; omega
        case' inr.inr =>
          have j1 : ¬ (ls.length : Int) < (n : Int) := by omega
          have j2 : ¬ (ls.length : Int) < (m : Int) := by omega
          have q1 : ((P.length : Int) == (n : Int)) = true := by have := HC.out; simp; omega
          have q2 : ((Q.length : Int) == (m : Int)) = true := by have := HC.out; simp; omega
        all_goals
          go_wp2_with fail
          refine (HSM.out).mono ?_
          rintro e w6 ⟨rfl, hb6⟩
          go_wp2_with fail
          go_ret
          exact ⟨rfl, HB5.out.trans (hb6.mono HB5.out.size)⟩

end Go.Proofs.Ytfhnhfppamnjhaa
