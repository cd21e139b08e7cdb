/-
  What VecSpread does: it returns true, and turns nothing that was there: of 64 IDs that follow one another no shard of two, three or four has all.
-/
import Derived.Test.YtnpbfacmjmgfaaaLaws
import Derived.Maps.OwnOps
import Derived.Maps.RangeWalk
import Derived.Maps.OwnSet
namespace Go.Proofs.Ytnpbfacmjmgfaaa
open Go.RowKit Go.Maps

theorem one_step (x y : Nat) (hx : x < 18446744073709551616) (hy : y = (x + 11400714819323198485) % 18446744073709551616) :
    ∃ l h l' h' c v : Nat, x = h * 4294967296 + l ∧ y = h' * 4294967296 + l' ∧ l < 4294967296 ∧ l' < 4294967296 ∧ h < 4294967296 ∧ h' < 4294967296 ∧ (x / 4294967296 = h) ∧ (y / 4294967296 = h') ∧
      l + 2135587861 = l' + c * 4294967296 ∧ h + 2654435769 + c = h' + v * 4294967296 ∧ (c = 0 ∨ c = 1) ∧ (v = 0 ∨ v = 1) ∧ l' = y % 4294967296 ∧ l = x % 4294967296 := by
  refine ⟨x % 4294967296, x / 4294967296, y % 4294967296, y / 4294967296, (x % 4294967296 + 2135587861) / 4294967296, (x / 4294967296 + 2654435769 + (x % 4294967296 + 2135587861) / 4294967296) / 4294967296, ?_⟩
  omega
theorem two_step (x : Nat) (hx : x < 18446744073709551616)
  (y z : Nat) (hy : y = (x + 11400714819323198485) % 18446744073709551616) (hz : z = (y + 11400714819323198485) % 18446744073709551616)
  (h1 : (x / 4294967296) % 3 = (y / 4294967296) % 3) (h2 : (y / 4294967296) % 3 = (z / 4294967296) % 3) : z / 4294967296 = x / 4294967296 + 1013904243 := by
  obtain ⟨l, h, l', h', c, v, e1, e2, b1, b2, b3, b4, e3, e4, e5, e6, hc, hv, e7, e8⟩ := one_step x y hx hy
  obtain ⟨m, g, m', g', d, u, f1, f2, k1, k2, k3, k4, f3, f4, f5, f6, hd, hu, f7, f8⟩ := one_step y z (by omega) hz
  rw [e3, e4] at h1
  rw [e4, f4] at h2
  rw [f4, e3]
  have i1 : m = l' := by omega
  have i2 : g = h' := by omega
  subst i1 i2
  clear e1 e2 e3 e4 f1 f2 f3 f4 e7 e8 f7 f8 hx hy hz
  rcases hc with rfl | rfl <;> rcases hv with rfl | rfl <;> rcases hd with rfl | rfl <;> rcases hu with rfl | rfl <;> omega
theorem big_lt (id : Nat) : big id < 18446744073709551616 := Nat.mod_lt _ (by decide)
theorem big_succ (id : Nat) : big (id + 1) = (big id + 11400714819323198485) % 18446744073709551616 := by
  unfold big
  rw [Nat.add_mul, Nat.one_mul, Nat.mod_add_mod]
theorem odd_step (x : Nat)
  (y z : Nat) (hy : y = (x + 11400714819323198485) % 18446744073709551616) (hz : z = (y + 11400714819323198485) % 18446744073709551616)
  (h1 : (x / 4294967296) % 2 = (y / 4294967296) % 2) (h2 : (y / 4294967296) % 2 = (z / 4294967296) % 2) : False := by
  omega
theorem not_all (id n : Nat) (hn : n = 2 ∨ n = 3 ∨ n = 4) (h : ∀ i, i < 64 → hm (id + i) n = hm id n) : False := by
  have s : ∀ i, big (id + (i + 1)) = (big (id + i) + 11400714819323198485) % 18446744073709551616 := fun i => big_succ (id + i)
  have q : ∀ i, i < 63 → hm (id + i) n = hm (id + (i + 1)) n := fun i hi => by rw [h i (by omega), h (i + 1) (by omega)]
  unfold hm at q
  have h4 : n = 4 → ∀ a b : Nat, a % n = b % n → a % 2 = b % 2 := by rintro rfl a b h; omega
  rcases hn with rfl | rfl | rfl
  · exact odd_step _ _ _ (s 0) (s 1) (q 0 (by decide)) (q 1 (by decide))
  · have t : ∀ i, i < 62 → big (id + (i + 2)) / 4294967296 = big (id + i) / 4294967296 + 1013904243 := fun i hi =>
      two_step _ (big_lt _) _ _ (s i) (s (i + 1)) (q i (by omega)) (q (i + 1) (by omega))
    have t0 := t 0 (by decide)
    have t2 := t 2 (by decide)
    have t4 := t 4 (by decide)
    have t6 := t 6 (by decide)
    have t8 := t 8 (by decide)
    have := big_lt (id + 10)
    have e : big (id + 10) / 4294967296 < 4294967296 := by omega
    simp only [Nat.zero_add, Nat.reduceAdd] at t0 t2 t4 t6 t8
    omega
  · exact odd_step _ _ _ (s 0) (s 1) (h4 rfl _ _ (q 0 (by decide))) (h4 rfl _ _ (q 1 (by decide)))

/-- how many of the first k are x -/
def cnt (h : Nat → Int) : Nat → Int → Nat
  | 0, _ => 0
  | k + 1, x => cnt h k x + if h k = x then 1 else 0
theorem cnt_le (h : Nat → Int) (x : Int) : ∀ k, cnt h k x ≤ k
  | 0 => Nat.le_refl _
  | k + 1 => by have := cnt_le h x k; simp only [cnt]; split <;> omega
theorem cnt_all (h : Nat → Int) (x : Int) : ∀ k, cnt h k x = k → ∀ i, i < k → h i = x
  | 0, _, i, hi => by omega
  | k + 1, e, i, hi => by
    have h1 := cnt_le h x k
    simp only [cnt] at e
    by_cases hk : h k = x
    · rw [if_pos hk] at e
      rcases Nat.lt_or_ge i k with h2 | h2
      · exact cnt_all h x k (by omega) i h2
      · obtain rfl : i = k := by omega
        exact hk
    · rw [if_neg hk] at e; omega

theorem law3 : Keyed Try.prog 3 := int_keyed Try.underlying3
theorem zero3 (w : World) : (zeroValue 3).run Try.prog w = .ok (.int .i64 0) w := by kernel_rfl

/-- The map behind k rounds. -/
def Seen (h : Nat → Int) (N : Int) (k : Nat) (D : DataW Unit) : Prop :=
  (∀ x, D.atKey (.int .i64 x) (.lit (.int .i64 0)) = .lit (.int .i64 (cnt h k x))) ∧ ∀ x, has D (.int .i64 x) = true → 0 ≤ x ∧ x < N
theorem Seen.start (h : Nat → Int) (N : Int) : Seen h N 0 (.map []) := ⟨fun _ => rfl, fun x hx => by simp [has] at hx⟩
theorem Seen.step {h : Nat → Int} {N : Int} {k : Nat} {D : DataW Unit} (s : Seen h N k D) (hm : IsMap D) (h0 : 0 ≤ h k) (hN : h k < N) (c : Int) (hc : D.atKey (.int .i64 (h k)) (.lit (.int .i64 0)) = .lit (.int .i64 c)) :
    Seen h N (k + 1) (D.put (.int .i64 (h k)) (.lit (.int .i64 (c + 1)))) := by
  have hck : c = cnt h k (h k) := by
    have := s.1 (h k)
    rw [hc] at this
    simpa using this
  refine ⟨fun x => ?_, fun x hx => ?_⟩
  · by_cases e : h k = x
    · subst e
      rw [atKey_put_same (k := .int .i64 (h k)) hm trivial, hck]
      simp [cnt]
    · rw [atKey_put_other (by simpa using fun e' => e e'.symm), s.1 x]
      simp [cnt, e]
  · by_cases e : h k = x
    · subst e; exact ⟨h0, hN⟩
    · rw [has_put_other (by simpa using fun e' => e e'.symm)] at hx
      exact s.2 x hx

theorem homes_spread (b : Nat) (r : Nat) (hr : r < 3) (x : Int) : ¬ ∀ i, i < 64 → homeI (b + i) (2 + (r : Int)) = x := by
  intro h
  have e : ∀ i, homeI (b + i) (2 + (r : Int)) = (hm (b + i) (2 + r) : Nat) := fun i => by
    unfold homeI
    rw [if_neg (by omega), show (2 + (r : Int)).toNat = 2 + r by omega]
  refine not_all b (2 + r) (by omega) fun i hi => ?_
  have h1 := h i hi
  have h0 := h 0 (by decide)
  rw [e] at h1 h0
  rw [Nat.add_zero] at h0
  omega

set_option maxRecDepth 100000 in
set_option maxHeartbeats 1000000 in
theorem law_spread (F s : Nat) (w : World) (hF : F < 18446744073709551616) (hs : s < 256) :
    Calls Try.prog 9 #[.int .u64 (F : Int), .int .u8 (s : Int)] w fun e w' => e = .returned (.bool true) ∧ Below w.heap.size w w' := by
  obtain ⟨b, hb⟩ : ∃ b : Nat, (F : Int) % 1099511627776 = b := ⟨F % 1099511627776, by omega⟩
  have hb40 : b < 1099511627776 := by omega
  obtain ⟨r, hr⟩ : ∃ r : Nat, (s : Int) % 3 = r := ⟨s % 3, by omega⟩
  have hr3 : r < 3 := by omega
  obtain ⟨h, hh⟩ : ∃ h : Nat → Int, ∀ i, h i = homeI (b + i) (2 + (r : Int)) := ⟨_, fun _ => rfl⟩
  have hlo : ∀ i, 0 ≤ h i := fun i => by rw [hh]; exact homeI_lo _ _
  have hhi : ∀ i, h i < 2 + (r : Int) := fun i => by rw [hh]; exact homeI_hi _ _ (by omega)
  have HX : Hid (∀ x, ¬ ∀ i, i < 64 → h i = x) := fun x hx => homes_spread b r hr3 x fun i hi => by rw [← hh]; exact hx i hi
  have HH : Hid (∀ (k : Nat) W, k < 64 → Calls Try.prog 20 #[.int .u64 ((b : Int) + (k : Int)), .int .i64 (2 + (r : Int))] W fun e w' => e = .returned (.int .i64 (h k)) ∧ W = w') := fun k W hk => by
    have := home_any (b + k) (2 + (r : Int)) W (by omega) (by omega)
    rw [Int.natCast_add, ← hh] at this
    exact this
  have HLO := Lib.hid hlo
  have HHI := Lib.hid hhi
  clear hh hlo hhi
  have hmm := @run_makeMap Try.prog
  go_enter Try.func9, Try.ntmps9
  go_wp2_with fail
  refine (awake_any _).mono ?_
  rintro e w1 ⟨rfl, hb1⟩
  go_wp2_with fail
  clear hr
  go_loopw [7, 17] (fun _ i wr => ∃ k : Nat, k ≤ 64 ∧ i = .int .u64 k ∧ ∃ D, wr.ownsMap Try.prog 3 (plainElem Try.prog 3) w1.heap.size k D ∧ Seen h (2 + (r : Int)) k D ∧ Below w1.heap.size w1 wr) (fun _ i _ => 64 - (intOf i).toNat)
  case atStart => exact ⟨0, Nat.zero_le _, rfl, _, World.ownsMap_made _ _ _ _, Seen.start _ _, (Below.refl _ _).alloc (Nat.le_refl _) _⟩
  case round =>
    obtain ⟨k, hk, rfl, D, hown, hseen, hnx⟩ := hrel
    have HS := Lib.hid hseen
    clear hseen
    by_cases hlt : k < 64
    · have i1 : (k : Int) < 64 := by omega
      have hl0 := HLO.out k
      have hl1 := HHI.out k
      have HC := Lib.hid (HH.out k wr hlt)
      have hwf : (Lit.int .i64 (h k)).wf = true := WalkArith.wf_i64 (by omega)
      have hkey : keyOf Try.prog 3 (.int .i64 (h k)) = some (.int .i64 (h k)) := keyOf_int_mk Try.underlying3 hwf
      have hc0 := HS.out.1 (h k)
      have hle := cnt_le h (h k) k
      have HST := Lib.hid (HS.out.step hown.isMap hl0 hl1 _ hc0)
      have HC0 := Lib.hid hc0
      clear hc0 hwf
      generalize h k = x at *
      go_wp2_with (first
        | (go_at_call 20; refine (HC.out).mono ?_; rintro e w' ⟨rfl, rfl⟩)
        | (at_lookup; refine wpList_lookup_own_int _ rfl _ _ 50 rfl 3 3 .i64 law3 Try.underlying50 Try.underlying3 (zero3 _) w1.heap.size k _ rfl hown _ _ rfl hkey ?_; intro c hat hwc; rw [HC0.out] at hat; injection hat with hat; injection hat with _ hat; subst hat)
        | (at_mapUpdate; refine wpList_mapUpdate_own _ rfl _ _ _ 50 rfl 3 3 law3 Try.underlying50 _ w1.heap.size k _ rfl hown (by unfold maxLen; omega) _ _ _ rfl rfl hkey _ [] (plainElem_int Try.underlying3 (WalkArith.wf_i64 (by omega))) ?_; intro w2 hown2 hgrow2))
      go_roundw
      case rel => exact ⟨k + 1, by omega, by go_num, _, hown2, HST.out, hnx.grown hgrow2 hnx.size (fun j hj => by cases hj; exact Nat.le_refl _)⟩
      case measure => simp [intOf]; omega
    · have H64 := Lib.hid (show k = 64 by omega)
      have i1 : ¬ (k : Int) < 64 := by omega
      clear HH
      go_wp2_with (first
        | (at_range; refine wpList_range_own _ rfl _ 50 rfl 3 3 law3 Try.underlying50 _ w1.heap.size k _ rfl hown ?_; intro w0 hrg0 hg0 hs0))
      try go_frame
      have hb0 : Below w1.heap.size w1 w0 := hnx.grown hg0 hnx.size (fun j hj => by cases hj)
      have hrs : w1.heap.size ≤ wr.heap.size := hnx.size
      generalize wr.heap.size = R at *
      clear hg0 hs0 hown hnx
      go_loopw [8, 9] (fun _ _ wq => ∃ (left : Lit → Bool) (c : Nat), wq.ranges Try.prog 3 (plainElem Try.prog 3) w1.heap.size R k D left c ∧ (∀ kl, left kl = true → has D kl = true) ∧ Below w1.heap.size w1 wq)
        (fun _ _ wq => wq.rangeLeft w1.heap.size R)
      case atStart => exact ⟨_, _, hrg0, fun _ h => h, hb0⟩
      case round =>
        obtain ⟨left, c, hrg, hleft, hbq⟩ := hrel
        have HL := Lib.hid hleft
        clear hleft hrg0 hb0
        go_wp2_with (first
          | (at_next; refine wpList_next_ranges_ii _ rfl _ rfl 3 3 .i64 .i64 law3 Try.underlying3 Try.underlying3 w1.heap.size R k _ _ _ rfl hrg ?_ ?_))
        · intro _ hl0
          clear hl0
          go_wp2_with fail
          go_ret
          exact ⟨rfl, hb1.trans (hbq.mono hb1.size)⟩
        · intro x c2 w2 cnt2 hwx hwc hlx hat hrg1 hlt2 hg1 hs1 hen
          have hb2 : Below w1.heap.size w1 w2 := hbq.grown hg1 hbq.size (fun j hj => by cases hj; exact hrs)
          obtain ⟨x0, x1⟩ := HS.out.2 x (HL.out _ hlx)
          have hc2 : c2 = cnt h k x := by
            have h1 := HS.out.1 x
            have h2 := hat (.lit (.int .i64 0))
            rw [h1] at h2
            injection h2 with h2
            injection h2 with _ h2
            exact h2.symm
          have hne : (c2 == 64) = false := by
            have : cnt h k x ≠ 64 := fun e => HX.out x (fun i hi => cnt_all h x k (by rw [e, H64.out]) i (by rw [H64.out]; exact hi))
            simp; omega
          have HL2 : Hid (∀ kl, (left kl && !kl.sameKey (.int .i64 x)) = true → has D kl = true) := fun kl hkl => HL.out kl (by simp only [Bool.and_eq_true] at hkl; exact hkl.1)
          have HM := Lib.hid (show w2.rangeLeft w1.heap.size R < wr.rangeLeft w1.heap.size R by rw [hrg1.left_eq, hrg.left_eq]; exact hlt2)
          clear hc2 hat hlx hwx hwc
          go_wp2_with fail
          go_roundw
          case rel => first | exact ⟨_, cnt2, hrg1, HL2.out, hb2⟩ | ((repeat apply Exists.intro); exact ⟨⟨_, cnt2, hrg1, HL2.out, hb2⟩, rfl⟩)
          case measure => exact HM.out

end Go.Proofs.Ytnpbfacmjmgfaaa
