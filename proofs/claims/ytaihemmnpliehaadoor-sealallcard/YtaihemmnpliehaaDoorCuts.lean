/-
  SealCuts: a frame that is cut off anywhere isn't all there.
-/
import Derived.Test.YtaihemmnpliehaaDoorEnd
namespace Go.Proofs.YtaihemmnpliehaaDoor
open Go.RowKit

theorem frameOf_len (l : List Int) : (frameOf l).length = 6 + l.length := by simp [frameOf, le32, le16]; omega
theorem frameOf_8 {l : List Int} (h : Bytes8 l) : Bytes8 (frameOf l) := fun x hx => by
  rcases List.mem_append.1 hx with k | k
  · simp [le32] at k; omega
  · rcases List.mem_append.1 k with k | k
    · simp [le16] at k; omega
    · exact h x k
theorem frameOf_short {l : List Int} {k : Nat} (hl : l.length ≤ 4096) (hk : k < 6 + l.length) : ShortP ((frameOf l).take k) := by
  have hlen : ((frameOf l).take k).length = k := by rw [List.length_take, frameOf_len]; omega
  by_cases h6 : k < 6
  · exact .inl (by omega)
  · refine .inr ⟨by omega, ?_⟩
    have hs : saidSize ((frameOf l).take k) = l.length := by
      unfold saidSize
      have e4 : ((frameOf l).take k).getD 4 0 = ((l.length % 256 : Nat) : Int) := by
        rw [List.getD_eq_getElem?_getD, List.getElem?_take, if_pos (by omega)]; simp [frameOf, le32, le16]
      have e5 : ((frameOf l).take k).getD 5 0 = ((l.length / 256 % 256 : Nat) : Int) := by
        rw [List.getD_eq_getElem?_getD, List.getElem?_take, if_pos (by omega)]; simp [frameOf, le32, le16]
      rw [e4, e5]; omega
    rw [hs, hlen]; omega

set_option maxRecDepth 100000 in
set_option maxHeartbeats 1600000 in
theorem law_cuts (S : Nat → Prop) (A : Option Addr) (c at_ : Nat) (l0 : List Int) (w : World) (hT : Rests w) (h0 : 0 < w.heap.size) (hrow0 : Row S w A (u8s l0)) (hc0 : l0.length ≤ c) (hl0 : l0.length ≤ 9223372036854775807) (h80 : Bytes8 l0) (hat : at_ ≤ 65535) :
    Calls Tryd.prog 7 #[.slice A l0.length c, .int .u16 (at_ : Int)] w fun e w' => e = .returned (.bool true) ∧ Below w.heap.size w w' := by
  go_enter Tryd.func7, Tryd.ntmps7
  go_wp2_with fail
  refine (awake_any _ hT h0).mono ?_
  rintro e w1 ⟨rfl, hb1⟩
  have hrow1 := hrow0.below hb1
  go_wp2_with fail
  refine (cut_any S A c 600 l0 _ hrow1 hc0 hl0 (by decide)).mono ?_
  rintro e w2 ⟨A2, c2, rfl, hc2, hrow2, hb2⟩
  have hl : (l0.take 600).length ≤ 600 := by rw [List.length_take]; omega
  have h8 : Bytes8 (l0.take 600) := fun x hx => h80 x (List.mem_of_mem_take hx)
  rw [u8s_len] at hc2 ⊢
  generalize l0.take 600 = l at *
  have hb2' := hb1.trans (hb2.mono hb1.size)
  clear hrow1 hrow0 hc0 hl0 h80 hb2 hb1
  go_wp2_with fail
  obtain ⟨w3, hw3⟩ : ∃ x, x = w2.alloc (.cells #[.slice A2 l.length c2] 24) := ⟨_, rfl⟩
  have hal : Below w2.heap.size w2 w3 := by rw [hw3]; exact (Below.refl _ _).alloc (Nat.le_refl _) _
  have hb3 := hb2'.trans (hal.mono hb2'.size)
  have hT3 := hT.below hb3 h0
  have h03 : 0 < w3.heap.size := Nat.lt_of_lt_of_le h0 hb3.size
  have hts : Texts (fun _ => True) w3 (some ⟨w2.heap.size, 0, none⟩) [l] := by
    refine ⟨[.slice A2 l.length c2], rfl, by rw [hw3]; exact Row.of_cells (new_at rfl) rfl trivial, fun k hk => ?_⟩
    obtain rfl : k = 0 := by simpa using hk
    exact ⟨A2, c2, rfl, (hrow2.below hal).any⟩
  rw [← hw3]
  clear hw3 hal hb2' hrow2
  have hfr := frame_good _ _ 1 [l] _ hT3 hts (by intro t ht; simp at ht; subst ht; exact h8) (by simp) (by simp; omega) h03
  rw [show [l].flatten = l by simp] at hfr
  have HFR := Lib.hid hfr
  clear hfr hts hT3
  refine HFR.out.mono ?_
  rintro e w4 ⟨A4, c4, rfl, hc4, hrow4, hb4⟩
  have hb4' := hb3.trans (hb4.mono hb3.size)
  have hlen := frameOf_len l
  have h8f := frameOf_8 h8
  have hsh := fun k hk => frameOf_short (l := l) (k := k) (by omega) hk
  generalize frameOf l = f at *
  rw [hlen] at hc4 ⊢
  have HLEN := Lib.hid hlen
  have HSH := Lib.hid hsh
  clear hlen hsh HFR hb3 hb4
  have hmlt : at_ % (6 + l.length) < 6 + l.length := Nat.mod_lt _ (by omega)
  have hme : (at_ : Int) % (6 + (l.length : Int)) = ((at_ % (6 + l.length) : Nat) : Int) := by
    rw [show (6 + (l.length : Int)) = ((6 + l.length : Nat) : Int) by omega]; exact (Int.natCast_emod _ _).symm
  have hm0 : 0 ≤ (at_ : Int) % (6 + (l.length : Int)) := by rw [hme]; omega
  have hm1 : (at_ : Int) % (6 + (l.length : Int)) ≤ (c4 : Int) := by rw [hme]; omega
  clear hme
  have hrowk := hrow4.take (at_ % (6 + l.length))
  rw [show (u8s f).take (at_ % (6 + l.length)) = u8s (f.take (at_ % (6 + l.length))) by simp [u8s]] at hrowk
  have hnk : (f.take (at_ % (6 + l.length))).length = at_ % (6 + l.length) := by rw [List.length_take, HLEN.out]; omega
  have h8k : Bytes8 (f.take (at_ % (6 + l.length))) := fun x hx => h8f x (List.mem_of_mem_take hx)
  have hshk := HSH.out _ hmlt
  have HNK := Lib.hid hnk
  clear hnk hrow4
  go_wp2_with fail
  refine (next_no _ A4 _ c4 _ _ HNK.out hrowk h8k hshk).mono ?_
  rintro e w5 ⟨rfl, hb5⟩
  have hrow5 := hrowk.below hb5
  have hb5' := hb4'.trans (hb5.mono hb4'.size)
  go_wp2_with fail
  refine (all_no _ A4 _ c4 _ _ HNK.out hrow5 h8k hshk).mono ?_
  rintro e w6 ⟨rfl, hb6⟩
  go_wp2_with fail
  go_ret
  exact ⟨rfl, hb5'.trans (hb6.mono hb5'.size)⟩

end Go.Proofs.YtaihemmnpliehaaDoor
