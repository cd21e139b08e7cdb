/-
  The contract of ref03's Hits: hits that aren't too many; apart.
-/
import Derived.Test.YtfhnhfppamnjhaaAwake
namespace Go.Proofs.Ytfhnhfppamnjhaa
open Go.RowKit Go.Maps

def cutHit (h : Hit) : Hit := (h.1, h.2.1, h.2.2.take 8)

set_option maxRecDepth 100000 in
set_option maxHeartbeats 1000000 in
theorem cutHits_any (S : Nat → Prop) (A : Option Addr) (c n : Nat) (hs : List Hit) (w : World) (h : HitsAt S w A hs) (hl : hs.length ≤ 9223372036854775807) (hv : ∀ o ∈ hs, o.2.2.length ≤ 9223372036854775807) (hn : n ≤ 1000) :
    Calls Try.prog 11 #[.slice A hs.length c, .int .i64 (n : Int)] w fun e w' => GaveHits w ((hs.take n).map cutHit) e w' := by
  obtain ⟨i0, hi0, hz0, hz1, hz2⟩ := info_parts Try.info36
  go_enter Try.func11, Try.ntmps11
  go_wp2_with fail
  go_loopw [5, 6, 7, 10] (fun v _ _ i wr => ∃ k : Nat, k ≤ hs.length ∧ i = .int .i64 k ∧ Own3 wr w.heap.size v ((hs.take (min k n)).map cutHit) ∧ Below w.heap.size w wr) (fun _ _ _ i _ => hs.length - (intOf i).toNat)
  case atStart => exact ⟨0, Nat.zero_le _, rfl, by simpa using Own3.start w, Below.refl _ _⟩
  case round =>
    obtain ⟨k, hk, rfl, hown, hbl⟩ := hrel
    by_cases hlt : k < hs.length
    · obtain ⟨ad, rfl, _, hlt2, hc0, hc1, X, cx, hc2, hcx, hrow⟩ := (h.below hbl) k hlt
      have i1 : (k : Int) < (hs.length : Int) := by omega
      have hvl := hv _ (List.getElem_mem hlt)
      by_cases hkn : (k : Int) < (n : Int)
      · have HT := Lib.hid (show (hs.take (min (k + 1) n)).map cutHit = (hs.take (min k n)).map cutHit ++ [(hs[k].1, hs[k].2.1, hs[k].2.2.take 8)] by
          rw [show min (k + 1) n = k + 1 by omega, show min k n = k by omega, List.take_succ_eq_append_getElem hlt, List.map_append]; rfl)
        have HLN := Lib.hid (show ((hs.take (min k n)).map cutHit).length = k by rw [List.length_map, List.length_take]; omega)
        generalize (hs.take (min k n)).map cutHit = os at *
        generalize hs[k].1 = id at *
        generalize hs[k].2.1 = dist at *
        generalize hs[k].2.2 = vec at *
        clear h hv
        go_wp2_with fail
        obtain ⟨wa, hwa⟩ : ∃ x, x = wr.alloc (.cells #[.int .u64 id, .int .u64 dist, .slice X vec.length cx] 36) := ⟨_, rfl⟩
        have ha0 : wa.cell? ⟨wr.heap.size, 0, none⟩ = some (.int .u64 id) := by rw [hwa]; go_simp
        have ha1 : wa.cell? ⟨wr.heap.size, 1, none⟩ = some (.int .u64 dist) := by rw [hwa]; go_simp
        have ha2 : wa.cell? ⟨wr.heap.size, 2, none⟩ = some (.slice X vec.length cx) := by rw [hwa]; go_simp
        have hba : Below w.heap.size w wa := by rw [hwa]; exact hbl.alloc hbl.size _
        have hoa : Own3 wa w.heap.size u5 os := by rw [hwa]; exact hown.alloc _
        have hra : Row S wa X (i32s vec) := by rw [hwa]; exact hrow.alloc _
        have hlt0 : wr.heap.size < wa.heap.size := by rw [hwa]; simp
        have hne : some wr.heap.size ≠ u5.ownBlock := fun e => by have := hown.low e.symm; omega
        rw [← hwa]
        clear hwa hc0 hc1 hc2 hown hrow hbl hlt2
        generalize wr.heap.size = b0 at *
        have HC : Hid (Calls Try.prog 22 #[.slice X vec.length cx, .int .i64 8] wa.drew fun e w' => Gives wa.drew (i32s (vec.take 8)) e w') := cutVec_any S X cx 8 vec wa.drew hra hcx hvl (by decide)
        have HV := Lib.hid (i32s_len (vec.take 8))
        obtain ⟨cs, hcs, hce⟩ := hoa
        have hg0 : ∀ g, u5.ownBlock = some g → w.heap.size ≤ g ∧ g < wa.heap.size := fun g hg => own_lt hcs hg
        have HG0 := Lib.hid hg0
        have HCE := Lib.hid hce
        clear hg0 hra hce
        generalize vec.take 8 = vt at *
        have hn1 : os.length + 1 ≤ 1001 := by have := HLN.out; omega
        have hbase0 : w.heap.size ≤ wa.heap.size := hba.size
        go_region_held3 (fun w' => w'.cell? ⟨b0, 0, none⟩ = some (.int .u64 id) ∧ w'.cell? ⟨b0, 1, none⟩ = some (.int .u64 dist) ∧ w'.cell? ⟨b0, 2, none⟩ = some (.slice X vec.length cx)) (first | exact ⟨ha0, ha1, ha2⟩ | exact ⟨hk0, hk1, hk2⟩ | exact ⟨hm0, hm1, hm2⟩ | exact ⟨hn0, hn2, hn3⟩)
          (first
            | (go_at_call 22; refine (HC.out).mono ?_; rintro e w5 ⟨A5, c5, rfl, hc5, r5, hb5⟩; rw [HV.out] at hc5 ⊢; have hk0 := (hb5.cell (p := ⟨b0, 0, none⟩) (by exact hlt0)).trans ha0; have hk1 := (hb5.cell (p := ⟨b0, 1, none⟩) (by exact hlt0)).trans ha1; have hk2 := (hb5.cell (p := ⟨b0, 2, none⟩) (by exact hlt0)).trans ha2;
               have hs5 : wa.heap.size ≤ w5.heap.size := hb5.size;
               have hm0 := (World.cell?_alloc_lt w5 (.cells #[.int .u64 id, .int .u64 dist, .slice A5 vt.length c5] 36) ⟨b0, 0, none⟩ (show b0 < w5.heap.size by omega)).trans hk0; have hm1 := (World.cell?_alloc_lt w5 (.cells #[.int .u64 id, .int .u64 dist, .slice A5 vt.length c5] 36) ⟨b0, 1, none⟩ (show b0 < w5.heap.size by omega)).trans hk1; have hm2 := (World.cell?_alloc_lt w5 (.cells #[.int .u64 id, .int .u64 dist, .slice A5 vt.length c5] 36) ⟨b0, 2, none⟩ (show b0 < w5.heap.size by omega)).trans hk2;
               have hcs5 : w5.ownsRow w.heap.size 36 3 u5 os.length cs := own_kept (row := none) hcs ⟨hb5.os, hb5.tape, hb5.output, hb5.size, fun i hi _ => hb5.block i hi⟩ (by simp))
            | (refine step_append_lies _ (by rfl) _ _ _ (by rfl) w.heap.size 36 i0 _ 3 40 Try.underlying29 hi0 hz0 hz1 hz2 rfl (by omega) u5 os.length cs (by rfl) (hcs5.alloc _) ⟨w5.heap.size, 0, none⟩ 1 1 [.int .u64 id, .int .u64 dist, .slice A5 vt.length c5] (by rfl) (by rfl)
                (World.news_of_block (cs := #[.int .u64 id, .int .u64 dist, .slice A5 vt.length c5]) (t := 36) (fr := (0, 0)) (heap_alloc_new w5 _)) (by simp [Value.oneCell']) (by omega) (by unfold maxLen; omega) (by omega) (by simp; omega) (w5.heap.size + 1) (by simp) ?_; intro gg cap w6 hown6 hgrow6 hat6 hlt6; have hn0 := (hgrow6.cell_far ⟨b0, 0, none⟩ (by simp; omega) hne).trans hm0; have hn2 := (hgrow6.cell_far ⟨b0, 1, none⟩ (by simp; omega) hne).trans hm1; have hn3 := (hgrow6.cell_far ⟨b0, 2, none⟩ (by simp; omega) hne).trans hm2))
        have hb56 : Below w.heap.size w w6 := ((hba.drew.trans (hb5.mono hbase0)).alloc (by omega) _).grown hgrow6 (by simp; omega) (fun g hg => (HG0.out g hg).1)
        have h2 : Cells3 (fun g => w.heap.size ≤ g ∧ some g ≠ u5.ownBlock) w5 cs os := HCE.out.kept hs5 fun g hg s => ⟨hb5.block g hg, s⟩
        have h3 : Row (fun g => w.heap.size ≤ g ∧ some g ≠ u5.ownBlock) w5 A5 (i32s vt) := r5.mono fun g _ hg => ⟨Nat.le_trans hbase0 hg, fun e => by have h4 := (HG0.out g e.symm).2; exact absurd h4 (Nat.not_lt.2 hg)⟩
        have HO := Lib.hid (Own3.step (h := (id, dist, vt)) h2 hc5 h3 hown6 hgrow6 hat6)
        clear hown6 hgrow6 hat6 hn0 hn2 hn3 hm0 hm1 hm2 hk0 hk1 hk2 h2 h3 hcs5 hcs r5 hb5
        go_wp2_with fail
        go_roundw
        case rel => exact ⟨k + 1, by omega, by go_num, by rw [HT.out]; exact HO.out, hb56⟩
        case measure => simp [intOf]; omega
      · have HT := Lib.hid (show min (k + 1) n = min k n by omega)
        generalize hs[k].1 = id at *
        generalize hs[k].2.1 = dist at *
        generalize hs[k].2.2 = vec at *
        clear h hv
        go_wp2_with fail
        go_roundw
        case rel => exact ⟨k + 1, by omega, by go_num, by rw [HT.out]; exact hown.alloc _, hbl.alloc hbl.size _⟩
        case measure => simp [intOf]; omega
    · have HT := Lib.hid (show (hs.take (min k n)) = hs.take n by
        rcases Nat.le_total n k with h1 | h1
        · rw [Nat.min_eq_right h1]
        · rw [Nat.min_eq_left h1, List.take_of_length_le (by omega), List.take_of_length_le (by omega)])
      have HF := Lib.hid (show Own3 wr w.heap.size u5 ((hs.take n).map cutHit) by rw [← HT.out]; exact hown)
      have i1 : ¬ (k : Int) < (hs.length : Int) := by omega
      go_wp2_with fail
      go_ret
      exact ⟨_, rfl, by first | exact HF.out | (have h := HF.out; rw [List.map_take] at h; exact h), hbl⟩

end Go.Proofs.Ytfhnhfppamnjhaa
