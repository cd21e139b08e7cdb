/-
  What SealParts does: it returns true, and turns nothing that was there.
-/
import Derived.Test.YtaihemmnpliehaaDoorOwnT
namespace Go.Proofs.YtaihemmnpliehaaDoor
open Go.RowKit

/-- what Copy gives, with letters -/
def GivesB (w : World) (n : Nat) (p : List Int) (e : Ending) (w' : World) : Prop := ∃ A c, e = .returned (.slice A n c) ∧ n ≤ c ∧ Row (fun g => w.heap.size ≤ g) w' A (u8s p) ∧ Below w.heap.size w w'
theorem copy_b (S : Nat → Prop) (A : Option Addr) (n c : Nat) (p : List Int) (w : World) (hn : p.length = n) (hrow : Row S w A (u8s p)) (hpl : p.length ≤ 70368744177664) :
    Calls Tryd.prog 18 #[.slice A n c] w fun e w' => GivesB w n p e w' := (copy_any S A n c p w hn hrow hpl).mono fun _ _ ⟨A', c', h1, h2, _, h4, h5⟩ => ⟨A', c', h1, h2, h4, h5⟩

theorem u8s_take (l : List Int) (k : Nat) : (u8s l).take k = u8s (l.take k) := by simp [u8s]
theorem u8s_drop (l : List Int) (k : Nat) : (u8s l).drop k = u8s (l.drop k) := by simp [u8s]

set_option maxRecDepth 100000 in
set_option maxHeartbeats 2000000 in
theorem law_parts (S T : Nat → Prop) (A C : Option Addr) (c d : Nat) (l0 cuts : List Int) (w : World) (hT : Rests w) (h0 : 0 < w.heap.size) (hrow0 : Row S w A (u8s l0)) (hc0 : l0.length ≤ c) (hl0 : l0.length ≤ 9223372036854775807) (h80 : Bytes8 l0)
    (hcut : Row T w C (u8s cuts)) (hcl : cuts.length ≤ 9223372036854775807) (h8c : Bytes8 cuts) :
    Calls Tryd.prog 9 #[.slice A l0.length c, .slice C cuts.length d] w fun e w' => e = .returned (.bool true) ∧ Below w.heap.size w w' := by
  obtain ⟨i0, hi0, hz0, hz1, hz2⟩ := info_parts Tryd.info24
  go_enter Tryd.func9, Tryd.ntmps9
  go_wp2_with fail
  refine (awake_any _ hT h0).mono ?_
  rintro e w1 ⟨rfl, hb1⟩
  have hrow1 := hrow0.below hb1
  go_wp2_with fail
  refine (cut_any S A c 800 l0 _ hrow1 hc0 hl0 (by decide)).mono ?_
  rintro e w2 ⟨A2, c2, rfl, hc2, hrow2, hb2⟩
  have hl : (l0.take 800).length ≤ 800 := by rw [List.length_take]; omega
  have h8 : Bytes8 (l0.take 800) := fun x hx => h80 x (List.mem_of_mem_take hx)
  rw [u8s_len] at hc2 ⊢
  generalize l0.take 800 = l at *
  have hb2' := hb1.trans (hb2.mono hb1.size)
  have hcut2 := hcut.below hb2'
  have hrow2' : Row (fun _ => True) w2 A2 (u8s l) := hrow2.any
  clear hrow1 hrow0 hc0 hl0 h80 hb2 hb1 hcut hrow2
  have H8C := Lib.hid h8c
  clear h8c
  go_wp2_with fail
  go_loopw [5, 6, 7, 8, 9, 21] (fun v r _ _ _ i wr => ∃ k : Nat, k ≤ cuts.length ∧ i = .int .i64 k ∧ ∃ (q m cr : Nat) (R : Option Addr) (ts : List (List Int)), q + m = l.length ∧ m ≤ cr ∧ r = .slice R m cr ∧ Row (fun _ => True) w2 R (u8s (l.drop q)) ∧ OwnT (fun _ => True) wr w2.heap.size v ts ∧ ts.flatten = l.take q ∧ ts.length ≤ min k 8 ∧ Below w2.heap.size w2 wr)
    (fun _ _ _ _ _ i _ => cuts.length - (intOf i).toNat)
  case atStart => exact ⟨0, Nat.zero_le _, rfl, 0, l.length, c2, A2, [], by omega, hc2, rfl, by simpa using hrow2', OwnT.start _ _ _, by simp, by simp, Below.refl _ _⟩
  case round =>
    obtain ⟨k, hk, rfl, q, m, cr, R, ts, hqm, hmc, rfl, hrR, hO, hfl, htl, hbl⟩ := hrel
    have HFL := Lib.hid hfl
    have HQM := Lib.hid hqm
    have hm8 : m ≤ 800 := by omega
    clear hfl hqm
    by_cases hlt : k < cuts.length
    · have i1 : (k : Int) < (cuts.length : Int) := by omega
      obtain ⟨cd, rfl, _, _, hcc⟩ := (hcut2.below hbl) k (by rw [u8s_len]; exact hlt)
      rw [u8s_at hlt] at hcc
      obtain ⟨x0, x1⟩ := H8C.out _ (List.getElem_mem hlt)
      generalize cuts[k] = x at *
      by_cases hk8 : k < 8
      · have i2 : (k : Int) < 8 := by omega
        obtain ⟨y, hy⟩ : ∃ y : Nat, x % 40 = y := ⟨(x % 40).toNat, by omega⟩
        have hy2 : x.tmod 40 = y := by rw [Int.tmod_eq_emod_of_nonneg x0]; exact hy
        obtain ⟨z, hz⟩ : ∃ z : Nat, (if m < y then m else y) = z := ⟨_, rfl⟩
        have hz3 : (if m < y then (m : Int) else (y : Int)) = (z : Int) := by rw [← hz]; split <;> rfl
        have hzm : z ≤ m := by rw [← hz]; split <;> omega
        have HZ := Lib.hid hz
        clear hz
        have j1 : (0 : Int) ≤ (z : Int) := by omega
        have j2 : (z : Int) ≤ (m : Int) := by omega
        have j3 : (z : Int) ≤ (cr : Int) := by omega
        obtain ⟨cs, hcs, hce⟩ := hO
        have hrz : Row (fun _ => True) wr R (u8s ((l.drop q).take z)) := by have := (hrR.below hbl).take z; rw [u8s_take] at this; exact this
        have hzl : ((l.drop q).take z).length = z := by rw [List.length_take, List.length_drop]; have := HQM.out; omega
        have hrest : Row (fun _ => True) w2 (if cr = z then R else R.map (·.add z)) (u8s (l.drop (q + z))) := by
          have := hrR.cut z cr (by rw [u8s_len, List.length_drop]; have := HQM.out; omega)
          rw [u8s_drop, List.drop_drop] at this; exact this
        have HC : Hid (Calls Tryd.prog 18 #[.slice R z cr] wr.drew fun e w' => GivesB wr.drew z ((l.drop q).take z) e w') := copy_b (fun _ => True) R z cr ((l.drop q).take z) wr.drew hzl hrz.drew (by rw [hzl]; omega)
        have HTK := Lib.hid (show (ts ++ [(l.drop q).take z]).flatten = l.take (q + z) by rw [List.flatten_append, HFL.out, List.take_add]; simp)
        have HZL := Lib.hid hzl
        have HG : Hid (∀ g, u5.ownBlock = some g → w2.heap.size ≤ g ∧ g < wr.heap.size) := fun g hg => own_lt hcs hg
        have HCE := Lib.hid hce
        have hbase0 : w2.heap.size ≤ wr.heap.size := hbl.size
        clear hrz hrR hzl hce
        generalize (l.drop q).take z = tz at *
        by_cases hcr : cr = z
        · rw [if_pos hcr] at hrest
          subst hcr
          go_wp2_with fail
          go_region_held3 (fun _ => True) (trivial)
            (first
              | (go_at_call 18; refine (HC.out).mono ?_; rintro e w5 ⟨A5, c5, rfl, hc5, r5, hb5⟩; have hs5 : wr.heap.size ≤ w5.heap.size := hb5.size; have hcs5 : w5.ownsRow w2.heap.size 24 1 u5 ts.length cs := own_kept (row := none) hcs ⟨hb5.os, hb5.tape, hb5.output, hb5.size, fun i hi _ => hb5.block i hi⟩ (by simp))
              | (refine step_append_lies _ (by rfl) _ _ _ (by rfl) w2.heap.size 24 i0 _ 1 24 Tryd.underlying22 hi0 hz0 hz1 hz2 rfl (by omega) u5 ts.length cs (by rfl) (hcs5.alloc _) ⟨w5.heap.size, 0, none⟩ 1 1 [.slice A5 cr c5] (by rfl) (by rfl)
                  (World.news_of_block (cs := #[.slice A5 cr c5]) (t := 24) (fr := (0, 0)) (heap_alloc_new w5 _)) (by simp [Value.oneCell']) (by omega) (by unfold maxLen; omega) (by omega) (by simp; omega) (w5.heap.size + 1) (by simp) ?_; intro gg cap w6 hown6 hgrow6 hat6 hlt6))
          have hb56 : Below w2.heap.size w2 w6 := ((hbl.drew.trans (hb5.mono hbase0)).alloc (by omega) _).grown hgrow6 (by simp; omega) (fun g hg => (HG.out g hg).1)
          have h2 : CellsT (fun g => (w2.heap.size ≤ g ∧ some g ≠ u5.ownBlock) ∧ True) w5 cs ts := HCE.out.kept hs5 fun g hg s => ⟨hb5.block g hg, s⟩
          have h3 : CellsT (fun g => (w2.heap.size ≤ g ∧ some g ≠ u5.ownBlock) ∧ True) w5 [.slice A5 cr c5] [tz] := by
            have r6 : Row (fun g => (w2.heap.size ≤ g ∧ some g ≠ u5.ownBlock) ∧ True) w5 A5 (u8s tz) := r5.mono fun g _ hg => ⟨⟨Nat.le_trans hbase0 hg, fun e => absurd (HG.out g e.symm).2 (Nat.not_lt.2 hg)⟩, trivial⟩
            have := CellsT.one (c := c5) r6
            rw [HZL.out] at this
            exact this
          have HO := Lib.hid (OwnT.step (us := [tz]) h2 h3 hown6 hgrow6 (hat6.imp (fun e => by rw [e]; rfl) (fun e => by rw [e]; rfl)))
          have HR6 := Lib.hid hrest
          clear hown6 hgrow6 hat6 h2 h3 hcs5 hcs r5 hb5 hrest
          go_wp2_with fail
          go_roundw
          case rel => exact ⟨k + 1, by omega, by go_num, q + cr, 0, 0, _, _, by have := HQM.out; omega, by omega, rfl, HR6.out, HO.out, HTK.out, by rw [List.length_append, List.length_singleton]; omega, hb56⟩
          case measure => simp [intOf]; omega
        · rw [if_neg hcr] at hrest
          go_wp2_with fail
          go_region_held3 (fun _ => True) (trivial)
            (first
              | (go_at_call 18; refine (HC.out).mono ?_; rintro e w5 ⟨A5, c5, rfl, hc5, r5, hb5⟩; have hs5 : wr.heap.size ≤ w5.heap.size := hb5.size; have hcs5 : w5.ownsRow w2.heap.size 24 1 u5 ts.length cs := own_kept (row := none) hcs ⟨hb5.os, hb5.tape, hb5.output, hb5.size, fun i hi _ => hb5.block i hi⟩ (by simp))
              | (refine step_append_lies _ (by rfl) _ _ _ (by rfl) w2.heap.size 24 i0 _ 1 24 Tryd.underlying22 hi0 hz0 hz1 hz2 rfl (by omega) u5 ts.length cs (by rfl) (hcs5.alloc _) ⟨w5.heap.size, 0, none⟩ 1 1 [.slice A5 z c5] (by rfl) (by rfl)
                  (World.news_of_block (cs := #[.slice A5 z c5]) (t := 24) (fr := (0, 0)) (heap_alloc_new w5 _)) (by simp [Value.oneCell']) (by omega) (by unfold maxLen; omega) (by omega) (by simp; omega) (w5.heap.size + 1) (by simp) ?_; intro gg cap w6 hown6 hgrow6 hat6 hlt6))
          have hb56 : Below w2.heap.size w2 w6 := ((hbl.drew.trans (hb5.mono hbase0)).alloc (by omega) _).grown hgrow6 (by simp; omega) (fun g hg => (HG.out g hg).1)
          have h2 : CellsT (fun g => (w2.heap.size ≤ g ∧ some g ≠ u5.ownBlock) ∧ True) w5 cs ts := HCE.out.kept hs5 fun g hg s => ⟨hb5.block g hg, s⟩
          have h3 : CellsT (fun g => (w2.heap.size ≤ g ∧ some g ≠ u5.ownBlock) ∧ True) w5 [.slice A5 z c5] [tz] := by
            have r6 : Row (fun g => (w2.heap.size ≤ g ∧ some g ≠ u5.ownBlock) ∧ True) w5 A5 (u8s tz) := r5.mono fun g _ hg => ⟨⟨Nat.le_trans hbase0 hg, fun e => absurd (HG.out g e.symm).2 (Nat.not_lt.2 hg)⟩, trivial⟩
            have := CellsT.one (c := c5) r6
            rw [HZL.out] at this
            exact this
          have HO := Lib.hid (OwnT.step (us := [tz]) h2 h3 hown6 hgrow6 (hat6.imp (fun e => by rw [e]; rfl) (fun e => by rw [e]; rfl)))
          have HR6 := Lib.hid hrest
          clear hown6 hgrow6 hat6 h2 h3 hcs5 hcs r5 hb5 hrest
          go_wp2_with fail
          go_roundw
          case rel => exact ⟨k + 1, by omega, by go_num, q + z, m - z, cr - z, _, _, by have := HQM.out; omega, by omega, rfl, HR6.out, HO.out, HTK.out, by rw [List.length_append, List.length_singleton]; omega, hb56⟩
          case measure => simp [intOf]; omega
      · have i2 : ¬ (k : Int) < 8 := by omega
        go_wp2_with fail
        go_roundw
        case rel => exact ⟨k + 1, by omega, by go_num, q, m, cr, R, ts, HQM.out, hmc, rfl, hrR, hO, HFL.out, by omega, hbl⟩
        case measure => simp [intOf]; omega
    · have i1 : ¬ (k : Int) < (cuts.length : Int) := by omega
      have htl8 : ts.length ≤ 8 := by omega
      have hml : (l.drop q).length = m := by rw [List.length_drop]; have := HQM.out; omega
      obtain ⟨cs, hcs, hce⟩ := hO
      have HML := Lib.hid hml
      have HC := Lib.hid (copy_b (fun _ => True) R m cr (l.drop q) wr hml (hrR.below hbl) (by rw [hml]; omega))
      have HTK := Lib.hid (show (ts ++ [l.drop q, []]).flatten = l by rw [List.flatten_append, HFL.out]; simp)
      have HG : Hid (∀ g, u5.ownBlock = some g → w2.heap.size ≤ g ∧ g < wr.heap.size) := fun g hg => own_lt hcs hg
      have HCE := Lib.hid hce
      have hbase0 : w2.heap.size ≤ wr.heap.size := hbl.size
      clear hml hce hrR hcut2
      go_wp2_with fail
      refine (HC.out).mono ?_
      rintro e w5 ⟨A5, c5, rfl, hc5, r5, hb5⟩
      have hs5 : wr.heap.size ≤ w5.heap.size := hb5.size
      have hcs5 : w5.ownsRow w2.heap.size 24 1 u5 ts.length cs := own_below hcs hb5
      have hnews : Row (fun _ => True) (w5.alloc (.cells #[.slice A5 m c5, .slice none 0 0] 24)) (some ⟨w5.heap.size, 0, none⟩) [.slice A5 m c5, .slice none 0 0] := Row.of_block (heap_alloc_new w5 _) trivial
      have hown5 := hcs5.alloc (.cells #[.slice A5 m c5, .slice none 0 0] 24)
      go_wp2_with (at_builtin; refine wpList_append_row _ rfl (.tmp 45) (.tmp 48) 22 rfl w2.heap.size 24 i0 (.slice none 0 0) 24 Tryd.underlying22 hi0 hz0 hz1 hz2 rfl u5 ts.length cs rfl hown5 (fun _ => True) (some ⟨w5.heap.size, 0, none⟩) 2 2 [.slice A5 m c5, .slice none 0 0] rfl rfl hnews ?k1 ?k2 ?k3 ?k4 ?_; rotate_right; intro A6 c6 w6 hown6 hgrow6 hat6)
      case k1 => simp [Value.oneCell']
      case k2 => unfold maxLen; omega
      case k3 => omega
      case k4 => simp; omega
      have hb56 : Below w2.heap.size w2 w6 := ((hbl.trans (hb5.mono hbase0)).alloc (by omega) _).grown hgrow6 (by simp; omega) (fun g hg => (HG.out g hg).1)
      have h2 : CellsT (fun g => (w2.heap.size ≤ g ∧ some g ≠ u5.ownBlock) ∧ True) w5 cs ts := HCE.out.kept hs5 fun g hg s => ⟨hb5.block g hg, s⟩
      have h3 : CellsT (fun g => (w2.heap.size ≤ g ∧ some g ≠ u5.ownBlock) ∧ True) w5 [.slice A5 m c5, .slice none 0 0] [l.drop q, []] := by
        have r6 : Row (fun g => (w2.heap.size ≤ g ∧ some g ≠ u5.ownBlock) ∧ True) w5 A5 (u8s (l.drop q)) := r5.mono fun g _ hg => ⟨⟨Nat.le_trans hbase0 hg, fun e => absurd (HG.out g e.symm).2 (Nat.not_lt.2 hg)⟩, trivial⟩
        have h4 := CellsT.one (c := c5) r6
        rw [HML.out] at h4
        exact h4.append (CellsT.one (A := none) (c := 0) (t := []) Row.nil)
      have hO6 : OwnT (fun _ => True) w6 w2.heap.size (.slice A6 (ts.length + 2) c6) (ts ++ [l.drop q, []]) := OwnT.step (us := [l.drop q, []]) h2 h3 hown6 hgrow6 (by simpa using hat6)
      obtain ⟨A7, c7, hv7, hc7, ht7⟩ := hO6.texts
      injection hv7 with hv71 _ hv73
      subst hv71 hv73
      have htl7 : (ts ++ [l.drop q, []]).length = ts.length + 2 := by simp
      have h8t : ∀ t ∈ ts ++ [l.drop q, []], Bytes8 t := fun t ht x hx => by
        have : x ∈ (ts ++ [l.drop q, []]).flatten := List.mem_flatten.2 ⟨t, ht, hx⟩
        rw [HTK.out] at this
        exact h8 x this
      have hlt7 : ∀ t ∈ ts ++ [l.drop q, []], t.length ≤ 70368744177664 := fun t ht => by
        have h1 : t.length ≤ (ts ++ [l.drop q, []]).flatten.length := List.Sublist.length_le (List.sublist_flatten_of_mem ht)
        rw [HTK.out] at h1
        omega
      generalize ts ++ [l.drop q, []] = us at *
      have HT7 := Lib.hid htl7
      rw [← htl7]
      have hr6 : Row (fun _ => True) w6 A2 (u8s l) := hrow2'.below hb56
      have hbW : Below w.heap.size w w6 := hb2'.trans (hb56.mono hb2'.size)
      clear hown6 hgrow6 hat6 h2 h3 hcs5 hcs r5 hb5 hnews hown5 hO6 hbl htl7 hrow2'
      go_wp2_with fail
      obtain ⟨w7, hw7⟩ : ∃ x, x = w6.alloc (.cells #[.slice A2 l.length c2] 24) := ⟨_, rfl⟩
      have hal7 : Below w6.heap.size w6 w7 := by rw [hw7]; exact (Below.refl _ _).alloc (Nat.le_refl _) _
      have hb7 := hbW.trans (hal7.mono hbW.size)
      have htx7 : Texts (fun _ => True) w7 (some ⟨w6.heap.size, 0, none⟩) [l] := by rw [hw7]; exact texts_one hr6
      rw [← hw7]
      clear hw7
      have hf7 := frame_good _ _ 1 [l] w7 (hT.below hb7 h0) htx7 (by intro t ht; simp at ht; subst ht; exact h8) (by simp) (by simp; omega) (Nat.lt_of_lt_of_le h0 hb7.size)
      rw [show [l].flatten = l by simp] at hf7
      refine hf7.mono ?_
      rintro e w8 ⟨A8, c8, rfl, hc8, hr8, hb8⟩
      have hb8' := hb7.trans (hb8.mono hb7.size)
      have ht8 := (ht7.below hal7).below hb8
      have hf8 := frame_good _ A6 c6 us w8 (hT.below hb8' h0) ht8 h8t (by have := HT7.out; omega) (by rw [HTK.out]; omega) (Nat.lt_of_lt_of_le h0 hb8'.size)
      rw [HTK.out] at hf8
      clear hf7 htx7
      go_wp2_with fail
      refine hf8.mono ?_
      rintro e w9 ⟨A9, c9, rfl, hc9, hr9, hb9⟩
      have hb9' := hb8'.trans (hb9.mono hb8'.size)
      have hr89 := hr8.below hb9
      have ht9 := ht8.below hb9
      have hs9 := sum_any _ A6 c6 us w9 (hT.below hb9' h0) ht9 h8t hlt7 (by have := HT7.out; omega)
      rw [HTK.out] at hs9
      have hr69 : Row (fun _ => True) w9 A2 (u8s l) := ((hr6.below hal7).below hb8).below hb9
      clear hf8 ht8 ht7
      go_wp2_with fail
      refine hs9.mono ?_
      rintro e w10 ⟨rfl, rfl⟩
      go_wp2_with fail
      obtain ⟨w10, hw10⟩ : ∃ x, x = w9.alloc (.cells #[.slice A2 l.length c2] 24) := ⟨_, rfl⟩
      have hal10 : Below w9.heap.size w9 w10 := by rw [hw10]; exact (Below.refl _ _).alloc (Nat.le_refl _) _
      have hb10 := hb9'.trans (hal10.mono hb9'.size)
      have htx10 : Texts (fun _ => True) w10 (some ⟨w9.heap.size, 0, none⟩) [l] := by rw [hw10]; exact texts_one hr69
      rw [← hw10]
      clear hw10
      have hs10 := sum_any _ _ 1 [l] w10 (hT.below hb10 h0) htx10 (by intro t ht; simp at ht; subst ht; exact h8) (by intro t ht; simp at ht; subst ht; omega) (by simp)
      rw [show [l].flatten = l by simp] at hs10
      refine hs10.mono ?_
      rintro e w11 ⟨rfl, rfl⟩
      have h8f : Bytes8 (frameOf l) := frameOf_8 h8
      have HS := Lib.hid (same_any _ _ A8 A9 c8 c9 (frameOf l) (frameOf l) w10 (hr89.below hal10) (hr9.below hal10) h8f h8f)
      rw [show (frameOf l == frameOf l) = true by simp] at HS
      clear hs9 hs10 htx10 ht9 hr89 hr9 hr8 hr69 h8f
      generalize sumOf l = sl at *
      generalize frameOf l = fl at *
      go_wp2_with (go_at_call 16; refine (HS.out).mono ?_; rintro e w11 ⟨rfl, rfl⟩)
      go_ret
      exact ⟨by first | rfl | simp, hb10⟩

end Go.Proofs.YtaihemmnpliehaaDoor
