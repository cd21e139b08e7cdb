/-
  What BestOrders does: it returns true, and turns nothing that was there.
-/
import Derived.Test.YtfhnhfppamnjhaaMerge
namespace Go.Proofs.Ytfhnhfppamnjhaa
open Go.RowKit Go.Maps

/-- one list in a block of its own -/
theorem lists_one {S : Nat → Prop} {w w' : World} {v : Value} {X : Option Addr} {c : Nat} {l : List Hit} (hv : v = .slice X l.length c) (hat : HitsAt S w X l) (hw : w' = w.alloc (.cells #[v] 29)) : ListsAt (fun _ => True) w' (some ⟨w.heap.size, 0, none⟩) [l] := fun j hj => by
  obtain rfl : j = 0 := by simp at hj; omega
  subst hw hv
  have hb : (w.alloc (.cells #[.slice X l.length c] 29)).heap[w.heap.size]? = some (.cells #[.slice X l.length c] 29) := heap_alloc_new w _
  refine ⟨⟨w.heap.size, 0, none⟩, X, c, rfl, trivial, by simp, ?_, (hat.below ((Below.refl _ _).alloc (Nat.le_refl _) _)).mono fun _ _ _ => trivial⟩
  exact World.news_of_block (cs := #[.slice X l.length c]) hb 0 _ rfl

set_option maxRecDepth 100000 in
set_option maxHeartbeats 2000000 in
theorem law_orders (S : Nat → Prop) (m : Nat) (A : Option Addr) (c : Nat) (hs : List Hit) (w : World) (hm : m < 256) (h : HitsAt S w A hs) (hl : hs.length ≤ 9223372036854775807) (hv : ∀ o ∈ hs, o.2.2.length ≤ 9223372036854775807) (hw : ∀ x ∈ hs, (Lit.int .u64 x.1).wf = true ∧ (Lit.int .u64 x.2.1).wf = true) :
    Calls Try.prog 5 #[.int .u8 (m : Int), .slice A hs.length c] w fun e w' => e = .returned (.bool true) ∧ Below w.heap.size w w' := by
  obtain ⟨r, hr⟩ : ∃ r, r = m % 30 := ⟨_, rfl⟩
  have e1 : (m : Int) % 30 = (r : Int) := by omega
  have e2 : Int.tmod (m : Int) 30 = (r : Int) := by rw [Int.tmod_eq_emod_of_nonneg (by omega)]; exact e1
  have hr30 : r < 30 := by omega
  clear hr
  have HW := Lib.hid (cut_wf hw 60)
  have HLL := Lib.hid (cut_len hs 60)
  have HAW := Lib.hid (awake_any w)
  have HCUT : Hid (∀ W, Below w.heap.size w W → Calls Try.prog 11 #[.slice A hs.length c, .int .i64 60] W fun e w' => GaveHits W ((hs.take 60).map cutHit) e w') := fun W hW => cutHits_any S A c 60 hs W (h.below hW) hl hv (by decide)
  clear h hl hv hw
  generalize (hs.take 60).map cutHit = ls at *
  have HG : Hid (Good (1 + r) (putAll (1 + r) [] ls).1) := (Good.start (1 + r)).all (by omega) HW.out
  go_enter Try.func5, Try.ntmps5
  go_wp2_with fail
  refine (HAW.out).mono ?_
  rintro e w1 ⟨rfl, hb1⟩
  go_wp2_with fail
  refine (HCUT.out w1 hb1).mono ?_
  rintro e w2 ⟨vl, rfl, Ol, hb2⟩
  obtain ⟨Al, cl, rfl, hcl, hat2⟩ := Ol.hits
  obtain ⟨w3, hw3⟩ : ∃ x, x = w2.alloc (.cells #[.slice Al ls.length cl] 29) := ⟨_, rfl⟩
  have hm3 := merge_any _ (1 + r) _ 1 [ls] w3 (by omega) (by omega) (lists_one rfl hat2 hw3) (by simp) (by have := HLL.out; simp; omega) (by simpa using HW.out)
  rw [show ((1 + r : Nat) : Int) = 1 + (r : Int) by omega] at hm3
  have HB2 : Hid (Below w.heap.size w w2) := hb1.trans (hb2.mono hb1.size)
  have HB3 : Hid (Below w.heap.size w w3) := by rw [hw3]; exact HB2.out.alloc HB2.out.size _
  simp only [List.flatten_cons, List.flatten_nil, List.append_nil, List.length_singleton] at hm3
  have HM := Lib.hid hm3
  have hll := HLL.out
  clear hm3 hat2 Ol hb2 hb1 HAW HCUT
  generalize (putAll (1 + r) [] ls).1 = P at *
  have hPl : P.length ≤ 30 := by have := HG.out.len; omega
  go_wp2_with fail
  rw [← hw3]
  refine (HM.out).mono ?_
  rintro e w4 ⟨v4, rfl, O4, hb4⟩
  obtain ⟨A4, c4, rfl, hc4, hat4⟩ := O4.hits
  have HB4 : Hid (Below w.heap.size w w4) := HB3.out.trans (hb4.mono HB3.out.size)
  have HAT := Lib.hid hat4
  have HLE := Lib.hid (show decide ((P.length : Int) ≤ 1 + (r : Int)) = true by have := HG.out.len; simp; omega)
  clear O4 hat4 hb4 HM hw3 HB2 HB3
  go_wp2_with fail
  go_loopw [7, 8, 22, 25, 26] (fun _ _ i _ _ wr => ∃ k : Nat, k ≤ P.length ∧ i = .int .i64 k ∧ Below w4.heap.size w4 wr) (fun _ _ i _ _ _ => P.length - (intOf i).toNat)
  case atStart => exact ⟨0, Nat.zero_le _, rfl, Below.refl _ _⟩
  case round =>
    obtain ⟨i, hi, rfl, hbi⟩ := hrel
    have HBI := Lib.hid hbi
    by_cases hlt : i < P.length
    · have i1 : (i : Int) < (P.length : Int) := by omega
      have hi60 : (i : Int) ≤ 60 := by omega
      go_wp2_with fail
      obtain ⟨wo, hwo⟩ : ∃ x, x = wr := ⟨_, rfl⟩
      subst hwo
      go_loopw [8, 26] (fun _ j wr => ∃ k : Nat, k ≤ i ∧ j = .int .i64 k ∧ Below w4.heap.size w4 wr) (fun _ j _ => i - (intOf j).toNat)
      case atStart => exact ⟨0, Nat.zero_le _, rfl, HBI.out⟩
      case round =>
        obtain ⟨k, hk, rfl, hbk⟩ := hrel
        by_cases hki : k < i
        · have j1 : (k : Int) < (i : Int) := by omega
          have hkl : k < P.length := by omega
          have j2 : (k : Int) < (P.length : Int) := by omega
          obtain ⟨ad, rfl, _, hadl, a0, a1, X, cx, a2, _, _⟩ := (HAT.out.below hbk) k hkl
          obtain ⟨bd, he, _, hbdl, b0, b1, Y, cy, b2, _, _⟩ := (HAT.out.below hbk) i hlt
          injection he with he
          subst he
          have hne : (P[k].1 == P[i].1) = false := by
            have := (List.pairwise_iff_getElem.1 HG.out.once) k i hkl hlt hki
            simpa using this
          have HN : Hid (∀ W, Below wr.heap.size wr W → Calls Try.prog 21 #[.agg #[.int .u64 P[k].1, .int .u64 P[k].2.1, .slice X P[k].2.2.length cx], .agg #[.int .u64 P[i].1, .int .u64 P[i].2.1, .slice Y P[i].2.2.length cy]] W fun e w' => e = .returned (.bool true) ∧ Below wr.heap.size wr w') := fun W hW =>
            (refNearer_any _ _ _ _ _ _ _ _ _ _ W).mono fun _ _ ⟨he, hb⟩ => ⟨by rw [he]; exact ret_bool (HG.out.at_lt hkl hlt hki), hW.trans (hb.mono hW.size)⟩
          have HBK := Lib.hid hbk
          have hB0 : Below wr.heap.size wr wr.drew := (Below.refl _ _).drew
          generalize P[k].1 = ki at *
          generalize P[k].2.1 = kd at *
          generalize P[k].2.2.length = kl at *
          generalize P[i].1 = ii at *
          generalize P[i].2.1 = id at *
          generalize P[i].2.2.length = il at *
          clear hbk
          go_wp2_with fail
          go_region_held3 (fun w' => w'.cell? (ad.add (k * 3)) = some (.int .u64 ki) ∧ w'.cell? ⟨(ad.add (k * 3)).block, (ad.add (k * 3)).off + 1, none⟩ = some (.int .u64 kd) ∧ w'.cell? ⟨(ad.add (k * 3)).block, (ad.add (k * 3)).off + 2, none⟩ = some (.slice X kl cx) ∧ w'.cell? (ad.add (i * 3)) = some (.int .u64 ii) ∧ w'.cell? ⟨(ad.add (i * 3)).block, (ad.add (i * 3)).off + 1, none⟩ = some (.int .u64 id) ∧ w'.cell? ⟨(ad.add (i * 3)).block, (ad.add (i * 3)).off + 2, none⟩ = some (.slice Y il cy)) (first | exact ⟨a0, a1, a2, b0, b1, b2⟩ | exact hS6)
            (first | (go_at_call 21; refine (HN.out _ hB0).mono ?_; rintro e w7 ⟨rfl, hb7⟩; have hS6 := (⟨(hb7.cell (p := ad.add (k * 3)) (by rw [block_add]; exact hadl)).trans a0, (hb7.cell (p := ⟨(ad.add (k * 3)).block, (ad.add (k * 3)).off + 1, none⟩) (by show (ad.add (k * 3)).block < _; rw [block_add]; exact hadl)).trans a1, (hb7.cell (p := ⟨(ad.add (k * 3)).block, (ad.add (k * 3)).off + 2, none⟩) (by show (ad.add (k * 3)).block < _; rw [block_add]; exact hadl)).trans a2, (hb7.cell (p := ad.add (i * 3)) (by rw [block_add]; exact hadl)).trans b0, (hb7.cell (p := ⟨(ad.add (i * 3)).block, (ad.add (i * 3)).off + 1, none⟩) (by show (ad.add (i * 3)).block < _; rw [block_add]; exact hadl)).trans b1, (hb7.cell (p := ⟨(ad.add (i * 3)).block, (ad.add (i * 3)).off + 2, none⟩) (by show (ad.add (i * 3)).block < _; rw [block_add]; exact hadl)).trans b2⟩ : _ ∧ _ ∧ _ ∧ _ ∧ _ ∧ _)))
          go_wp2_with fail
          go_roundw
          case rel => exact ⟨k + 1, by omega, by go_num, HBK.out.trans (hb7.mono HBK.out.size)⟩
          case measure => simp [intOf]; omega
        · have j1 : ¬ (k : Int) < (i : Int) := by omega
          go_wp2_with fail
          go_roundw
          case rel => exact ⟨i + 1, by omega, by go_num, hbk⟩
          case measure => simp [intOf]; omega
    · obtain rfl : i = P.length := by omega
      have i1 : ¬ ((P.length : Int) < (P.length : Int)) := by omega
      clear hbi
      go_wp2_with fail
      go_ret
      exact ⟨ret_bool HLE.out, HB4.out.trans (HBI.out.mono HB4.out.size)⟩

end Go.Proofs.Ytfhnhfppamnjhaa
