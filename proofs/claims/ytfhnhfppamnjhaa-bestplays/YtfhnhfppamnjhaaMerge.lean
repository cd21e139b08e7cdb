/-
  The contract of Merge, where a List is had.
-/
import Derived.Test.YtfhnhfppamnjhaaMany
namespace Go.Proofs.Ytfhnhfppamnjhaa
open Go.RowKit Go.Maps

/-- A slice that reads as lists of hits. -/
def ListsAt (S : Nat → Prop) (w : World) (A : Option Addr) (ls : List (List Hit)) : Prop :=
  ∀ j (hj : j < ls.length), ∃ ad X c, A = some ad ∧ S ad.block ∧ ad.block < w.heap.size ∧ w.cell? (ad.add j) = some (.slice X (ls[j]'hj).length c) ∧ HitsAt S w X (ls[j]'hj)
theorem ListsAt.kept {S : Nat → Prop} {w w' : World} {A : Option Addr} {ls : List (List Hit)} (h : ListsAt S w A ls) (hs' : w.heap.size ≤ w'.heap.size) (hk : ∀ g, g < w.heap.size → S g → w'.heap[g]? = w.heap[g]?) : ListsAt S w' A ls := fun j hj => by
  obtain ⟨ad, X, c, e, s, lt, h0, h1⟩ := h j hj
  exact ⟨ad, X, c, e, s, by omega, (World.cell?_of_block (by rw [block_add]; exact hk _ lt s)).trans h0, h1.kept hs' hk⟩
theorem ListsAt.below {S : Nat → Prop} {w w' : World} {A : Option Addr} {ls : List (List Hit)} (h : ListsAt S w A ls) (hb : Below w.heap.size w w') : ListsAt S w' A ls := h.kept hb.size fun g hg _ => hb.block g hg
theorem ListsAt.mono {S S' : Nat → Prop} {w : World} {A : Option Addr} {ls : List (List Hit)} (h : ListsAt S w A ls) (hS : ∀ g, g < w.heap.size → S g → S' g) : ListsAt S' w A ls := fun j hj => by
  obtain ⟨ad, X, c, e, s, lt, h0, h1⟩ := h j hj
  exact ⟨ad, X, c, e, hS _ lt s, lt, h0, h1.mono hS⟩

theorem flat_len {ls : List (List Hit)} {k : Nat} : (ls.take k).flatten.length ≤ ls.flatten.length := by
  have h : ls.flatten = (ls.take k).flatten ++ (ls.drop k).flatten := by rw [← List.flatten_append, List.take_append_drop]
  rw [h, List.length_append]
  omega
theorem flat_step {ls : List (List Hit)} {k : Nat} (h : k < ls.length) : (ls.take (k + 1)).flatten = (ls.take k).flatten ++ ls[k] := by
  rw [List.take_succ_eq_append_getElem h, List.flatten_append]; simp

set_option maxRecDepth 100000 in
set_option maxHeartbeats 1000000 in
theorem merge_any (S : Nat → Prop) (most : Nat) (A : Option Addr) (c : Nat) (ls : List (List Hit)) (w : World) (h1 : 1 ≤ most) (h2 : most ≤ 256) (hat : ListsAt S w A ls) (hl : ls.length ≤ 1000) (hf : ls.flatten.length ≤ 1000) (hw : ∀ x ∈ ls.flatten, Wf x) :
    Calls Try.prog 20 #[.int .i64 (most : Int), .slice A ls.length c] w fun e w' => GaveHits w (putAll most [] ls.flatten).1 e w' := by
  have HN := Lib.hid (new_any most w h1 h2)
  have hat' : ListsAt (fun g => g < w.heap.size) w A ls := hat.mono fun g hg _ => hg
  have HAT := Lib.hid hat'
  have HW := Lib.hid hw
  have HGD : Hid (∀ k, Good most (putAll most [] (ls.take k).flatten).1) := fun k => (Good.start most).all h1 fun x hx => hw x (by
    have h : ls.flatten = (ls.take k).flatten ++ (ls.drop k).flatten := by rw [← List.flatten_append, List.take_append_drop]
    rw [h]; exact List.mem_append_left _ hx)
  clear hat hat' hw
  go_enter Try.func20, Try.ntmps20
  go_wp2_with fail
  refine (HN.out).mono ?_
  rintro e w1 ⟨rfl, L1, hb1⟩
  have hs1 := L1.lt
  have HL1 := Lib.hid L1
  have HB1 := Lib.hid hb1
  clear L1 hb1 HN
  go_wp2_with fail
  go_loopw [8, 16] (fun _ i wr => ∃ (k : Nat) (v' : Value), k ≤ ls.length ∧ i = .int .i64 k ∧ Lst wr w.heap.size (w.heap.size + 1) w.heap.size (ls.take k).flatten.length v' most (putAll most [] (ls.take k).flatten).1 ∧ Chg w1 wr (w.heap.size + 1) w.heap.size (.slice none 0 0) v') (fun _ i _ => ls.length - (intOf i).toNat)
  case atStart => exact ⟨0, .slice none 0 0, Nat.zero_le _, rfl, by simpa [putAll] using HL1.out, Chg.refl _ _ _ _⟩
  case round =>
    obtain ⟨k, v', hk, rfl, hL, hC⟩ := hrel
    have hsz := hC.size
    have hatk : ListsAt (fun g => g < w.heap.size) wr A ls := HAT.out.kept (by omega) (fun g hg s => (hC.block g (by omega) (by omega) (by omega) (by simp [Value.ownBlock])).trans (HB1.out.block g hg))
    by_cases hlt : k < ls.length
    · have i1 : (k : Int) < (ls.length : Int) := by omega
      obtain ⟨ad, X, cx, rfl, _, _, g0, hatx⟩ := hatk k hlt
      have hfl := flat_len (ls := ls) (k := k + 1)
      have HF := Lib.hid (flat_step hlt)
      have hln : (ls.take (k + 1)).flatten.length = (ls.take k).flatten.length + ls[k].length := by rw [HF.out, List.length_append]
      have hadd := add_any _ w.heap.size (w.heap.size + 1) w.heap.size (ls.take k).flatten.length most v' (putAll most [] (ls.take k).flatten).1 ls[k] X cx wr hL (HGD.out k) h1 (by omega) (by omega) hatx (fun g hg s => ⟨by omega, by omega, fun e => by
        have := (hL.rowlt e.symm).1
        omega⟩) (fun x hx => HW.out x (by
          have h : ls.flatten = (ls.take (k + 1)).flatten ++ (ls.drop (k + 1)).flatten := by rw [← List.flatten_append, List.take_append_drop]
          rw [h, HF.out]; exact List.mem_append_left _ (List.mem_append_right _ hx)))
      have HA : Hid (Calls Try.prog 13 #[.pointer (some ⟨w.heap.size + 1, 0, none⟩), .slice X ls[k].length cx] wr fun e w' => (∃ q, e = .returned (.int .i64 q)) ∧ ∃ v'', Lst w' w.heap.size (w.heap.size + 1) w.heap.size (ls.take (k + 1)).flatten.length v'' most (putAll most [] (ls.take (k + 1)).flatten).1 ∧ Chg w1 w' (w.heap.size + 1) w.heap.size (.slice none 0 0) v'') := hadd.mono fun e w' ⟨q1, v'', q2, q3⟩ => ⟨⟨_, q1⟩, v'', by rw [hln, HF.out, putAll_append]; exact q2, hC.trans q3⟩
      clear hadd hatx hatk hL hC hfl hln
      generalize ls[k].length = xl at *
      go_wp2_with fail
      refine (HA.out).mono ?_
      rintro e w5 ⟨⟨q, rfl⟩, v5, hL5, hC5⟩
      go_wp2_with fail
      go_roundw
      case rel => exact ⟨k + 1, v5, by omega, by go_num, hL5, hC5⟩
      case measure => simp [intOf]; omega
    · obtain rfl : k = ls.length := by omega
      have i1 : ¬ ((ls.length : Int) < (ls.length : Int)) := by omega
      have hg := HGD.out ls.length
      rw [List.take_of_length_le (Nat.le_refl _)] at hL hg
      have HB : Hid (Below w.heap.size w wr) := HB1.out.trans (hC.below (by omega) (by omega) (by simp [Value.ownBlock]) (by omega))
      have HH := Lib.hid (hits_any w.heap.size (w.heap.size + 1) w.heap.size _ most v' _ wr hL (by have := hg.len; omega) (fun x hx => hg.wf x hx))
      clear hL hg hC hatk
      go_wp2_with fail
      refine (HH.out).mono ?_
      rintro e w5 ⟨v5, rfl, O5, hb5⟩
      obtain ⟨A5, c5, rfl, _, _⟩ := O5.hits
      have HO := Lib.hid O5
      clear O5
      go_wp2_with fail
      go_ret
      exact ⟨_, rfl, HO.out.lower HB.out.size, HB.out.trans (hb5.mono HB.out.size)⟩

end Go.Proofs.Ytfhnhfppamnjhaa
