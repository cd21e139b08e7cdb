/-
  The contract of sort.Search with place's closure; of place.
-/
import Derived.Test.YtfhnhfppamnjhaaPlace
namespace Go.Proofs.Ytfhnhfppamnjhaa
open Go.RowKit Go.Maps

/-- k parts the hits that are nearer from the others -/
def Parts (hs : List Hit) (h : Hit) (k : Nat) : Prop := k ≤ hs.length ∧ (∀ j (hj : j < hs.length), j < k → near hs[j] h = true) ∧ (∀ j (hj : j < hs.length), k ≤ j → near hs[j] h = false)

set_option maxRecDepth 100000 in
set_option maxHeartbeats 1000000 in
theorem search_any (S : Nat → Prop) (q b : Nat) (h : Hit) (X : Option Addr) (c : Nat) (A : Option Addr) (ca : Nat) (hs : List Hit) (w : World) (H : Held w q b h X c) (hv : w.cell? ⟨b, 1, none⟩ = some (.slice A hs.length ca)) (hat : HitsAt S w A hs)
    (hso : hs.Pairwise fun a b => near a b = true) (hn : hs.length ≤ 1000) :
    Calls Try.prog 34 #[.int .i64 (hs.length : Int), .func (.func 35) #[] #[.pointer (some ⟨q, 0, none⟩), .pointer (some ⟨q + 1, 0, none⟩)]] w fun e w' => ∃ k : Nat, e = .returned (.int .i64 k) ∧ Parts hs h k ∧ Below w.heap.size w w' := by
  have hsa : ∀ i j (hi : i < hs.length) (hj : j < hs.length), i < j → near hs[i] hs[j] = true := fun i j hi hj => (List.pairwise_iff_getElem.1 hso) i j hi hj
  have HS := Lib.hid hsa
  have hbl := lt_of_cell hv
  clear hsa hso
  go_enter Try.func34, Try.ntmps34
  go_wp2_with fail
  go_loopw [5, 6, 7] (fun x y _ wr => ∃ i j : Nat, i ≤ j ∧ j ≤ hs.length ∧ x = .int .i64 i ∧ y = .int .i64 j ∧ (∀ t (ht : t < hs.length), t < i → near hs[t] h = true) ∧ (∀ t (ht : t < hs.length), j ≤ t → near hs[t] h = false) ∧ Below w.heap.size w wr) (fun x y _ _ => (intOf y).toNat - (intOf x).toNat)
  case atStart => exact ⟨0, hs.length, Nat.zero_le _, Nat.le_refl _, rfl, rfl, fun t _ ht => by omega, fun t ht h => by omega, Below.refl _ _⟩
  case round =>
    obtain ⟨i, j, hij, hj, rfl, rfl, hlo, hhi, hbl2⟩ := hrel
    have HL := Lib.hid hlo
    have HH := Lib.hid hhi
    clear hlo hhi
    by_cases hlt : i < j
    · have i1 : (i : Int) < (j : Int) := by omega
      obtain ⟨m, hm⟩ : ∃ m, m = (i + j) / 2 := ⟨_, rfl⟩
      have hm1 : i ≤ m ∧ m < j := by omega
      have hml : m < hs.length := by omega
      have hw1 : IntKind.i64.wrap ((i : Int) + (j : Int)) = (i : Int) + (j : Int) := by rw [IntKind.wrap_i64]; omega
      have HC := Lib.hid (closure_any S q b h X c A ca m hs wr (H.below hbl2) ((hbl2.cell (p := ⟨b, 1, none⟩) hbl).trans hv) (hat.below hbl2) hml)
      have hmi : ((i : Int) + (j : Int)) / 2 = (m : Int) := by omega
      clear hm
      have hm64 : (m : Int) ≤ 1000 := by omega
      cases hx : near hs[m] h with
      | true =>
        rw [hx] at HC
        have HLN : Hid (∀ t (ht : t < hs.length), t < m + 1 → near hs[t] h = true) := fun t ht htm => by
          rcases Nat.lt_or_ge t m with h1 | h1
          · exact near_trans (HS.out t m ht hml h1) hx
          · obtain rfl : t = m := by omega
            exact hx
        clear hx
        go_wp2_with (go_at_call 35; refine (HC.out).mono ?_; rintro e w5 ⟨rfl, hb5⟩)
        go_roundw
        case rel => exact ⟨m + 1, j, by omega, hj, by go_num, rfl, HLN.out, HH.out, hbl2.trans (hb5.mono hbl2.size)⟩
        case measure => simp [intOf]; omega
      | false =>
        rw [hx] at HC
        have HHN : Hid (∀ t (ht : t < hs.length), m ≤ t → near hs[t] h = false) := fun t ht htm => by
          rcases Nat.lt_or_ge m t with h1 | h1
          · cases hy : near hs[t] h with
            | false => rfl
            | true =>
              rw [near_trans (HS.out m t hml ht h1) hy] at hx
              cases hx
          · obtain rfl : t = m := by omega
            exact hx
        clear hx
        go_wp2_with (go_at_call 35; refine (HC.out).mono ?_; rintro e w5 ⟨rfl, hb5⟩)
        go_roundw
        case rel => exact ⟨i, m, by omega, by omega, rfl, rfl, HL.out, HHN.out, hbl2.trans (hb5.mono hbl2.size)⟩
        case measure => simp [intOf]; omega
    · have i1 : ¬ (i : Int) < (j : Int) := by omega
      have HP : Hid (Parts hs h i) := ⟨by omega, HL.out, fun t ht hit => HH.out t ht (by omega)⟩
      go_wp2_with fail
      go_ret
      exact ⟨i, rfl, HP.out, hbl2⟩

set_option maxRecDepth 100000 in
set_option maxHeartbeats 1000000 in
theorem place_any (B b mb n most : Nat) (v : Value) (hs : List Hit) (h : Hit) (X : Option Addr) (c : Nat) (w : World) (L : Lst w B b mb n v most hs) (hso : hs.Pairwise fun a b => near a b = true) (hn : hs.length ≤ 1000) :
    Calls Try.prog 30 #[.pointer (some ⟨b, 0, none⟩), .agg #[.int .u64 h.1, .int .u64 h.2.1, .slice X h.2.2.length c]] w fun e w' => ∃ k : Nat, e = .returned (.int .i64 k) ∧ Parts hs h k ∧ Below w.heap.size w w' := by
  obtain ⟨w2, hw2⟩ : ∃ x, x = (w.alloc (.cells #[.pointer (some ⟨b, 0, none⟩)] 24)).alloc (.cells #[.int .u64 h.1, .int .u64 h.2.1, .slice X h.2.2.length c] 36) := ⟨_, rfl⟩
  have hb2 : Below w.heap.size w w2 := by rw [hw2]; exact ((Below.refl _ _).alloc (Nat.le_refl _) _).alloc (by simp) _
  have H : Held w2 w.heap.size b h X c := by rw [hw2]; constructor <;> go_simp
  have L2 := L.below hb2
  obtain ⟨A, ca, rfl, _, hat⟩ := L2.hits
  have hc1 := L2.cells.2.1
  have HC := Lib.hid (search_any _ w.heap.size b h X c A ca hs w2 H hc1 hat hso hn)
  clear L L2 hso hat H
  subst hw2
  go_enter Try.func30, Try.ntmps30
  go_wp2_with (go_at_call 34; refine (HC.out).mono ?_; rintro e w5 ⟨k, rfl, hP, hb5⟩)
  go_ret
  exact ⟨k, rfl, hP, hb2.trans (hb5.mono hb2.size)⟩

end Go.Proofs.Ytfhnhfppamnjhaa
