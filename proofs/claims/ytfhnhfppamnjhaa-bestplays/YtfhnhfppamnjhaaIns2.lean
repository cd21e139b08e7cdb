/-
  The contract of slices.Insert at hits, ahead of the end; and at any place.
-/
import Derived.Test.YtfhnhfppamnjhaaIns
namespace Go.Proofs.Ytfhnhfppamnjhaa
open Go.RowKit

set_option maxRecDepth 100000 in
set_option maxHeartbeats 1000000 in
theorem insert_room (B : Nat) (g cap n k vb : Nat) (cur : Array Value) (cs : List Value) (x y z : Value) (w : World) (hg : B ≤ g) (hh : w.heap[g]? = some (.cells cur 36 (0, 0))) (hm : cap ≤ maxLen) (hcur : cur.size = cap * 3) (htk : cur.toList.take (n * 3) = cs) (hl : cs.length = n * 3)
    (hk : k < n) (hroom : n + 1 ≤ cap) (h1 : ∀ u ∈ cs, u.oneCell' = true) (hvb : vb ≠ g)
    (hv : w.heap[vb]? = some (.cells #[x, y, z] 36 (0, 0))) (h1v : ∀ u ∈ [x, y, z], u.oneCell' = true) (hn : n ≤ 1000) :
    Calls Try.prog 32 #[.slice (some ⟨g, 0, none⟩) n cap, .int .i64 (k : Int), .slice (some ⟨vb, 0, none⟩) 1 1] w fun e w' => ∃ v', e = .returned v' ∧ w'.ownsRow B 36 3 v' (n + 1) (cs.take (k * 3) ++ [x, y, z] ++ cs.drop (k * 3)) ∧ w.grownBy w' (some g) ∧ (v'.ownBlock = some g ∨ v'.ownBlock = some w.heap.size) := by
  unfold maxLen at hm
  have hz : ∀ w, (Go.sizeOf 36).run Try.prog w = .ok 3 w := fun w => by
    obtain ⟨i0, hi, hz0, hz1, hz2⟩ := info_parts Try.info36
    simp [sizeOf, typeInfo, hi, hz1]
  have hov : ∀ lb cb, (callFunc 36 #[.slice (some ⟨vb, 0, none⟩) 1 1, .slice (some ⟨g, (k + 1) * 3, none⟩) lb cb]).run Try.prog w = .ok (.value (.bool false)) w := fun lb cb => by
    rw [run_callFunc_extern Try.func36 (by kernel_rfl) (by kernel_rfl) (by kernel_rfl) (e := Extern.SlicesOverlaps.overlaps #[29, 29] #[4]) (by kernel_rfl),
      Lib.run_overlaps_apart w 29 4 36 Try.underlying29 3 hz ⟨vb, 0, none⟩ ⟨g, (k + 1) * 3, none⟩ 1 1 lb cb hvb 36 36 3 (cap * 3) (by simp [World.shape?, hv]) (by simp [World.shape?, hh, hcur]) (by omega) (by simp [World.frozen?, hv]) (by simp [World.frozen?, hv])]
    rfl
  have b1 : (k : Int) ≤ (n : Int) := by omega
  have b2 : ¬ (k = n) := by omega
  have b3 : ((k : Int) == (n : Int)) = false := by simp; omega
  have b4 : ¬ ((cap : Int) < (n : Int) + 1) := by omega
  have b5 : (0 : Int) ≤ (k : Int) + 1 := by omega
  have b6 : (k : Int) + 1 ≤ (n : Int) + 1 := by omega
  have b7 : (0 : Int) ≤ (n : Int) + 1 := by omega
  have b8 : (n : Int) + 1 ≤ (cap : Int) := by omega
  have b9 : ¬ (cap = k + 1) := by omega
  have b10 : ¬ (cap = k) := by omega
  have b11 : (k : Int) ≤ (n : Int) + 1 := by omega
  have w1 : IntKind.i64.wrap ((k : Int) + 1) = (k : Int) + 1 := by rw [IntKind.wrap_i64]; omega
  have w2 : ((k : Int) + 1).toNat = k + 1 := by omega
  have hdl : (cs.drop (k * 3)).length = (n - k) * 3 := by rw [List.length_drop, hl]; omega
  obtain ⟨cur1, hc1⟩ : ∃ x, x = (cur.toList.take ((k + 1) * 3) ++ cs.drop (k * 3) ++ cur.toList.drop ((k + 1) * 3 + (cs.drop (k * 3)).length)).toArray := ⟨_, rfl⟩
  obtain ⟨cur2, hc2⟩ : ∃ q, q = (cur1.toList.take (k * 3) ++ [x, y, z] ++ cur1.toList.drop (k * 3 + [x, y, z].length)).toArray := ⟨_, rfl⟩
  obtain ⟨p1, p2, p3⟩ := put_in cur.toList cs [x, y, z] n k hk hl rfl htk (by rw [Array.length_toList, hcur]; omega) cur1.toList cur2.toList (by rw [hc1]) (by rw [hc2])
  have hh1 : (w.drew.setRow g cur1).heap[g]? = some (.cells cur1 36 (0, 0)) := setRow_heap w.drew g cur _ 36 _ hh
  have hv1 : (w.drew.setRow g cur1).heap[vb]? = some (.cells #[x, y, z] 36 (0, 0)) := (setRow_other w.drew g vb _ hvb).trans hv
  have HC1 : Hid (∀ ty c c', (Builtin.copy_ #[29, 29] ty #[.slice (some ⟨g, (k + 1) * 3, none⟩) (n - k) c, .slice (some ⟨g, k * 3, none⟩) (n + 1 - k) c']).run Try.prog w.drew = .ok (goInt (n - k : Nat)) (w.drew.setRow g cur1)) := fun ty c c' => by
    have hmin : Nat.min (n + 1 - k) (n - k) = n - k := by simp only [Nat.min_def]; split <;> omega
    have := run_copy3 w.drew ty g ((k + 1) * 3) (n - k) c ⟨g, k * 3, none⟩ (n + 1 - k) c' cur (cs.drop (k * 3)) hh (by rw [hmin, hdl]) (fun j u hj => by
      rw [List.getElem?_drop, ← htk] at hj
      have hlt := (List.getElem?_eq_some_iff.1 hj).1
      rw [List.length_take] at hlt
      rw [List.getElem?_take_of_lt (by omega)] at hj
      rw [Addr.add_lit]
      have hh' : w.drew.heap[g]? = some (.cells cur 36 (0, 0)) := hh
      simpa [World.cell?, hh'] using hj) (by rw [hdl, hcur]; omega) (fun u hu => h1 u (List.mem_of_mem_drop hu))
    rw [hmin, ← hc1] at this
    exact this
  have HC2 : Hid (∀ ty c, (Builtin.copy_ #[29, 29] ty #[.slice (some ⟨g, k * 3, none⟩) (n + 1 - k) c, .slice (some ⟨vb, 0, none⟩) 1 1]).run Try.prog (w.drew.setRow g cur1) = .ok (goInt 1) (w.drew.setRow g cur2)) := fun ty c => by
    have hmin : Nat.min 1 (n + 1 - k) = 1 := by simp only [Nat.min_def]; split <;> omega
    have := run_copy3 (w.drew.setRow g cur1) ty g (k * 3) (n + 1 - k) c ⟨vb, 0, none⟩ 1 1 cur1 [x, y, z] hh1 (by rw [hmin]; rfl) (World.news_of_block (cs := #[x, y, z]) hv1) (by have := p1; rw [Array.length_toList, Array.length_toList] at this; rw [this, hcur]; simp; omega) h1v
    rw [hmin, ← hc2, setRow_setRow] at this
    exact this
  have fin : (w.drew.setRow g cur2).ownsRow B 36 3 (.slice (some ⟨g, 0, none⟩) (n + 1) cap) (n + 1) (cs.take (k * 3) ++ [x, y, z] ++ cs.drop (k * 3)) ∧ w.grownBy (w.drew.setRow g cur2) (some g) := by
    refine ⟨⟨by simp only [List.length_append, List.length_take, hdl, hl, List.length_cons, List.length_nil]; omega, .inr ⟨g, cap, cur2, rfl, hg, setRow_heap w.drew g cur _ 36 _ hh, hroom, by unfold maxLen; omega, by rw [← Array.length_toList, p2, Array.length_toList, hcur], p3⟩⟩, ?_⟩
    have := grown_setRow w.drew g cur2
    exact ⟨this.os, this.tape, this.output, this.size, this.block⟩
  clear hc1 hc2 p1 p2 p3 hh1 hv1 htk h1 h1v hdl
  go_enter Try.func32, Try.ntmps32
  go_wp2_with (simp only [hov])
  clear hov
  have hcp1 := HC1.out 3 (cap - (k + 1)) (cap - k)
  go_region
  clear hcp1
  have hcp2 := HC2.out 3 (cap - k)
  go_wp2_with (simp only [hcp2])
  go_ret
  exact ⟨_, rfl, fin.1, fin.2, .inl rfl⟩

set_option maxRecDepth 100000 in
set_option maxHeartbeats 1000000 in
theorem insert_grow (B : Nat) (g cap n k vb : Nat) (cur : Array Value) (cs : List Value) (x y z : Value) (w : World) (hB : B ≤ w.heap.size) (hh : w.heap[g]? = some (.cells cur 36 (0, 0))) (htk : cur.toList.take (n * 3) = cs) (hl : cs.length = n * 3)
    (hk : k < n) (hnc : n ≤ cap) (hroom : cap < n + 1) (h1 : ∀ u ∈ cs, u.oneCell' = true)
    (hv : w.heap[vb]? = some (.cells #[x, y, z] 36 (0, 0))) (h1v : ∀ u ∈ [x, y, z], u.oneCell' = true) (hn : n ≤ 1000) :
    Calls Try.prog 32 #[.slice (some ⟨g, 0, none⟩) n cap, .int .i64 (k : Int), .slice (some ⟨vb, 0, none⟩) 1 1] w fun e w' => ∃ v', e = .returned v' ∧ w'.ownsRow B 36 3 v' (n + 1) (cs.take (k * 3) ++ [x, y, z] ++ cs.drop (k * 3)) ∧ w.grownBy w' (some g) ∧ (v'.ownBlock = some g ∨ v'.ownBlock = some w.heap.size) := by
  obtain rfl : n = cap := by omega
  have hgl : g < w.heap.size := lt_of_block hh
  have hvl : vb < w.heap.size := lt_of_block hv
  have hdl : (cs.drop (k * 3)).length = (n - k) * 3 := by rw [List.length_drop, hl]; omega
  have htl : (cs.take (k * 3)).length = k * 3 := by rw [List.length_take, hl]; omega
  have hcell : ∀ (W : World), W.heap[g]? = some (.cells cur 36 (0, 0)) → ∀ o j u, cs[o + j]? = some u → W.cell? ((⟨g, o, none⟩ : Addr).add j) = some u := fun W hW o j u hj => by
    rw [← htk] at hj
    have hlt := (List.getElem?_eq_some_iff.1 hj).1
    rw [List.length_take] at hlt
    rw [List.getElem?_take_of_lt (by omega)] at hj
    rw [Addr.add_lit]
    simpa [World.cell?, hW] using hj
  obtain ⟨c, Z, hc, hcm, hZ, hrun⟩ := run_made3 w 29 g k n n (cs.take (k * 3)) htl (fun j u hj => by
    have hlt := (List.getElem?_eq_some_iff.1 hj).1
    rw [List.length_take] at hlt
    rw [List.getElem?_take_of_lt (by omega)] at hj
    exact hcell w hh 0 j u (by rw [Nat.zero_add]; exact hj)) (by omega) hn hroom
  have HR := Lib.hid hrun
  obtain ⟨N, hN⟩ : ∃ N, N = w.heap.size := ⟨_, rfl⟩
  rw [← hN] at HR
  obtain ⟨wa, hwa⟩ : ∃ x, x = w.drew.alloc (.cells (cs.take (k * 3) ++ Z).toArray 36) := ⟨_, rfl⟩
  have hNa : wa.heap[N]? = some (.cells (cs.take (k * 3) ++ Z).toArray 36 (0, 0)) := by rw [hwa, hN]; exact heap_alloc_new w.drew _
  have hga : wa.heap[g]? = some (.cells cur 36 (0, 0)) := by rw [hwa]; exact (heap_alloc_old w.drew _ hgl).trans hh
  have hva : wa.heap[vb]? = some (.cells #[x, y, z] 36 (0, 0)) := by rw [hwa]; exact (heap_alloc_old w.drew _ hvl).trans hv
  have hgra : w.grownBy wa (some g) := by rw [hwa]; exact ⟨rfl, rfl, rfl, by simp, fun i hi _ => heap_alloc_old w.drew _ hi⟩
  have hNs : N < wa.heap.size := lt_of_block hNa
  rw [← hwa] at HR
  obtain ⟨cur1, hc1⟩ : ∃ q, q = ((cs.take (k * 3) ++ Z).take (k * 3) ++ [x, y, z] ++ (cs.take (k * 3) ++ Z).drop (k * 3 + [x, y, z].length)).toArray := ⟨_, rfl⟩
  obtain ⟨cur2, hc2⟩ : ∃ x, x = (cur1.toList.take ((k + 1) * 3) ++ cs.drop (k * 3) ++ cur1.toList.drop ((k + 1) * 3 + (cs.drop (k * 3)).length)).toArray := ⟨_, rfl⟩
  obtain ⟨p1, p2, p3⟩ := put_new Z cs [x, y, z] n k hk hl rfl (by rw [hZ]; omega) cur1.toList cur2.toList (by rw [hc1]) (by rw [hc2])
  have hcs : c = c := rfl
  have HC1 : Hid (∀ ty c', (Builtin.copy_ #[29, 29] ty #[.slice (some ⟨N, k * 3, none⟩) (n + 1 - k) c', .slice (some ⟨vb, 0, none⟩) 1 1]).run Try.prog wa = .ok (goInt 1) (wa.setRow N cur1)) := fun ty c' => by
    have hmin : Nat.min 1 (n + 1 - k) = 1 := by simp only [Nat.min_def]; split <;> omega
    have := run_copy3 wa ty N (k * 3) (n + 1 - k) c' ⟨vb, 0, none⟩ 1 1 _ [x, y, z] hNa (by rw [hmin]; rfl) (World.news_of_block (cs := #[x, y, z]) hva) (by rw [List.size_toArray, hZ]; simp; omega) h1v
    rw [hmin, ← hc1] at this
    exact this
  have hN1 : (wa.setRow N cur1).drew.heap[N]? = some (.cells cur1 36 (0, 0)) := setRow_heap wa N _ _ 36 _ hNa
  have hg1 : (wa.setRow N cur1).drew.heap[g]? = some (.cells cur 36 (0, 0)) := (setRow_other wa N g _ (by omega)).trans hga
  have HC2 : Hid (∀ ty c' c'', (Builtin.copy_ #[29, 29] ty #[.slice (some ⟨N, (k + 1) * 3, none⟩) (n - k) c', .slice (some ⟨g, k * 3, none⟩) (n - k) c'']).run Try.prog (wa.setRow N cur1).drew = .ok (goInt (n - k : Nat)) (wa.drew.setRow N cur2)) := fun ty c' c'' => by
    have hmin : Nat.min (n - k) (n - k) = n - k := by simp only [Nat.min_def]; split <;> omega
    have := run_copy3 (wa.setRow N cur1).drew ty N ((k + 1) * 3) (n - k) c' ⟨g, k * 3, none⟩ (n - k) c'' cur1 (cs.drop (k * 3)) hN1 (by rw [hmin, hdl]) (fun j u hj => by
      rw [List.getElem?_drop] at hj
      exact hcell _ hg1 _ _ _ hj) (by rw [← Array.length_toList, p1, hZ, hdl]; omega) (fun u hu => h1 u (List.mem_of_mem_drop hu))
    rw [hmin, ← hc2] at this
    rw [this]
    exact congrArg (Result.ok _) (setRow_setRow wa.drew N cur1 cur2)
  have fin : (wa.drew.setRow N cur2).ownsRow B 36 3 (.slice (some ⟨N, 0, none⟩) (n + 1) c) (n + 1) (cs.take (k * 3) ++ [x, y, z] ++ cs.drop (k * 3)) ∧ w.grownBy (wa.drew.setRow N cur2) (some g) := by
    refine ⟨⟨by simp only [List.length_append, htl, hdl, List.length_cons, List.length_nil]; omega, .inr ⟨N, c, cur2, rfl, by omega, setRow_heap wa.drew N _ _ 36 _ hNa, hc, hcm, by rw [← Array.length_toList, p2, hZ], p3⟩⟩, ?_⟩
    have := grown_setRow wa.drew N cur2
    exact ⟨this.os.trans hgra.os, this.tape.trans hgra.tape, this.output.trans hgra.output, Nat.le_trans hgra.size this.size, fun i hi hne => (this.block i (Nat.lt_of_lt_of_le hi hgra.size) (fun e => by injection e with e; omega)).trans (hgra.block i hi hne)⟩
  clear hc1 hc2 p1 p2 p3 htk h1 h1v hdl hwa hrun hZ hNa hga hva hgra hN1 hg1 hcell htl
  unfold maxLen at hcm
  have b1 : (k : Int) ≤ (n : Int) := by omega
  have b2 : ¬ (k = n) := by omega
  have b2' : ¬ (n = k) := by omega
  have b3 : ((k : Int) == (n : Int)) = false := by simp; omega
  have b4 : (n : Int) < (n : Int) + 1 := by omega
  have b5 : (0 : Int) ≤ (k : Int) + 1 := by omega
  have b6 : (k : Int) + 1 ≤ (n : Int) + 1 := by omega
  have b9 : ¬ (c = k + 1) := by omega
  have b10 : ¬ (c = k) := by omega
  have b11 : (k : Int) ≤ (n : Int) + 1 := by omega
  have w1 : IntKind.i64.wrap ((k : Int) + 1) = (k : Int) + 1 := by rw [IntKind.wrap_i64]; omega
  have w2 : ((k : Int) + 1).toNat = k + 1 := by omega
  have b12 : k ≤ n := by omega
  have HN := Lib.hid hN
  clear hN
  go_enter Try.func32, Try.ntmps32
  have hcp1 := HC1.out 3 (c - k)
  go_wp2_with (first | (at_builtin; refine Lib.wpList_append_run _ rfl _ _ 29 3 rfl _ _ rfl rfl _ _ HR.out ?_) | simp only [hcp1])
  clear hcp1
  have hcp2 := HC2.out 3 (c - (k + 1)) (n - k)
  go_region
  go_wp2_with fail
  go_ret
  exact ⟨_, rfl, fin.1, fin.2, .inr (by rw [← HN.out]; rfl)⟩

theorem insert_any (B : Nat) (v : Value) (n k vb : Nat) (cs : List Value) (x y z : Value) (w : World) (hown : w.ownsRow B 36 3 v n cs) (hB : B ≤ w.heap.size) (hk : k ≤ n) (h1 : ∀ u ∈ cs, u.oneCell' = true) (hvb : v.ownBlock ≠ some vb)
    (hv : w.heap[vb]? = some (.cells #[x, y, z] 36 (0, 0))) (h1v : ∀ u ∈ [x, y, z], u.oneCell' = true) (hn : n ≤ 1000) :
    Calls Try.prog 32 #[v, .int .i64 (k : Int), .slice (some ⟨vb, 0, none⟩) 1 1] w fun e w' => ∃ v', e = .returned v' ∧ w'.ownsRow B 36 3 v' (n + 1) (cs.take (k * 3) ++ [x, y, z] ++ cs.drop (k * 3)) ∧ w.grownBy w' v.ownBlock ∧ (v'.ownBlock = v.ownBlock ∨ v'.ownBlock = some w.heap.size) := by
  by_cases hkn : k = n
  · subst hkn
    have := insert_end B v k vb cs x y z w hown hB hv h1v hn
    rw [List.take_of_length_le (by rw [hown.1]; exact Nat.le_refl _), List.drop_eq_nil_of_le (by rw [hown.1]; exact Nat.le_refl _), List.append_nil]
    exact this
  · rcases hown.2 with ⟨_, rfl⟩ | ⟨g, cap, cur, rfl, hg, hh, hnc, hm, hcur, htk⟩
    · omega
    · by_cases hroom : n + 1 ≤ cap
      · exact insert_room B g cap n k vb cur cs x y z w hg hh hm hcur htk hown.1 (by omega) hroom h1 (fun e => hvb (by rw [e]; rfl)) hv h1v hn
      · exact insert_grow B g cap n k vb cur cs x y z w hB hh htk hown.1 (by omega) hnc (by omega) h1 hv h1v hn

end Go.Proofs.Ytfhnhfppamnjhaa
