/-
  The contract of slices.Delete at versions: the first k are taken out, in place.
-/
import Derived.Test.YtphcakhhjjdpiaaSteps
namespace Go.Proofs.Ytphcakhhjjdpiaa
open Go.RowKit

/-- append where there is room -/
theorem run_append2 (w : World) (ty : TypeId) (g a cap m c : Nat) (sa : Addr) (cur : Array Value) (cs : List Value) (hg : w.heap[g]? = some (.cells cur 41 (0, 0))) (hcur : cur.size = cap * 2) (hroom : a + m ≤ cap)
    (hcs : cs.length = m * 2) (hsrc : ∀ j v, cs[j]? = some v → w.cell? (sa.add j) = some v) (h1 : ∀ v ∈ cs, v.oneCell' = true) :
    (Builtin.append_ #[51, 51] ty #[.slice (some ⟨g, 0, none⟩) a cap, .slice (some sa) m c]).run Try.prog w =
      .ok (.slice (some ⟨g, 0, none⟩) (a + m) cap) (w.setRow g (cur.toList.take (a * 2) ++ cs ++ cur.toList.drop (a * 2 + cs.length)).toArray) := by
  obtain ⟨i0, hi, hz0, hz1, hz2⟩ := info_parts Try.info41
  have hl := run_loadCells_list (P := Try.prog) w sa cs hsrc
  have hst := run_storeCells_at Try.prog g (a * 2) 41 cs 0 cur w hg (by omega) h1
  rw [hcs] at hl
  simp [Builtin.append_, run_underlying Try.underlying51, sizeOf, typeInfo, hi, hz1, Builtin.lenOf, Builtin.firstCells, hl, hroom, Addr.add_lit]
  simp at hst
  rw [hst]
  rfl

def zeros (k : Nat) : List Value := (Builtin.zeroCells #[Value.int .u64 0, .slice none 0 0] k).toList
theorem zeros_len (k : Nat) : (zeros k).length = k * 2 := by unfold zeros; simp [size_zeroCells]
theorem zeros_one (k : Nat) : ∀ v ∈ zeros k, v.oneCell' = true := by
  intro v hv
  unfold zeros Builtin.zeroCells at hv
  simp at hv
  obtain ⟨i, hi, rfl⟩ := hv
  have h2 : i % 2 < 2 := Nat.mod_lt _ (by decide)
  rcases (by omega : i % 2 = 0 ∨ i % 2 = 1) with e | e
  · rw [e]; rfl
  · rw [e]; rfl

/-- clear of so many versions -/
theorem run_clear2 (w : World) (ty : TypeId) (g o k c : Nat) (cur : Array Value) (hg : w.heap[g]? = some (.cells cur 41 (0, 0))) (hcur : o + k * 2 ≤ cur.size) (hk : 1 ≤ k) :
    (Builtin.clear_ #[51] ty #[.slice (some ⟨g, o, none⟩) k c]).run Try.prog w =
      .ok (.tuple #[]) (w.setRow g (cur.toList.take o ++ zeros k ++ cur.toList.drop (o + k * 2)).toArray) := by
  obtain ⟨i0, hi, hz0, hz1, hz2⟩ := info_parts Try.info41
  have hst := run_storeCells_at Try.prog g o 41 (zeros k) 0 cur w hg (by rw [zeros_len]; omega) (zeros_one k)
  have hzc : (Builtin.zeroCells (Value.agg #[.int .u64 0, .slice none 0 0]).cells k).toList = zeros k := by rfl
  rw [zeros_len] at hst
  simp only [Nat.add_zero] at hst
  obtain ⟨k, rfl⟩ : ∃ j, k = j + 1 := ⟨k - 1, by omega⟩
  simp [Builtin.clear_, run_underlying Try.underlying51, zeroValue, typeInfo, hi, hz0, hzc, hst]

theorem grown_setRow (w : World) (g : Nat) (arr : Array Value) : w.grownBy (w.setRow g arr) (some g) :=
  ⟨rfl, rfl, rfl, by simp [World.setRow], fun i _ hne => by
    have : g ≠ i := fun e => hne (by rw [e])
    simp [World.setRow, Array.getElem?_modify, this]⟩

set_option maxRecDepth 100000 in
set_option maxHeartbeats 1000000 in
theorem delete_any (B : Nat) (v : Value) (n k : Nat) (cs : List Value) (w : World) (hown : w.ownsRow B 41 2 v n cs) (hk0 : 1 ≤ k) (hk : k ≤ n) (h1 : ∀ u ∈ cs, u.oneCell' = true) (hn : n ≤ 1000) :
    Calls Try.prog 26 #[v, .int .i64 0, .int .i64 (k : Int)] w fun e w' => ∃ A' c', e = .returned (.slice A' (n - k) c') ∧ w'.ownsRow B 41 2 (.slice A' (n - k) c') (n - k) (cs.drop (k * 2)) ∧ w.grownBy w' v.ownBlock ∧ (Value.slice A' (n - k) c').ownBlock = v.ownBlock := by
  obtain ⟨hl, h2⟩ := hown
  rcases h2 with ⟨_, h0⟩ | ⟨g, cap, cur, rfl, hg, hh, hnc, hm, hcur, htk⟩
  · omega
  unfold maxLen at hm
  obtain ⟨m, rfl⟩ : ∃ m, n = m + k := ⟨n - k, by omega⟩
  have hsrc : ∀ j u, (cs.drop (k * 2))[j]? = some u → w.cell? (⟨g, k * 2 + j, none⟩) = some u := fun j u hj => by
    rw [List.getElem?_drop, ← htk] at hj
    have hlt := (List.getElem?_eq_some_iff.1 hj).1
    rw [List.length_take] at hlt
    rw [List.getElem?_take_of_lt (by omega)] at hj
    simpa [World.cell?, hh] using hj
  have hdl : (cs.drop (k * 2)).length = m * 2 := by rw [List.length_drop, hl]; omega
  have h1d : ∀ u ∈ cs.drop (k * 2), u.oneCell' = true := fun u hu => h1 u (List.mem_of_mem_drop hu)
  have hmk : m + k - k = m := by omega
  rw [hmk]
  obtain ⟨cur1, hc1⟩ : ∃ x, x = (cur.toList.take (0 * 2) ++ cs.drop (k * 2) ++ cur.toList.drop (0 * 2 + (cs.drop (k * 2)).length)).toArray := ⟨_, rfl⟩
  have hs1 : cur1.size = cur.size := by
    rw [hc1]
    simp only [List.size_toArray, List.length_append, List.length_take, List.length_drop, Array.length_toList, hl, hcur]
    omega
  have hh1 : (w.drew.setRow g cur1).heap[g]? = some (.cells cur1 41 (0, 0)) := setRow_heap w.drew g cur _ 41 _ hh
  have HC : Hid (∀ ty c, (Builtin.clear_ #[51] ty #[.slice (some ⟨g, m * 2, none⟩) k c]).run Try.prog (w.drew.setRow g cur1) =
      .ok (.tuple #[]) (w.drew.setRow g (cur1.toList.take (m * 2) ++ zeros k ++ cur1.toList.drop (m * 2 + k * 2)).toArray)) := fun ty c => by
    rw [run_clear2 _ ty g (m * 2) k c cur1 hh1 (by omega) hk0, setRow_setRow]
  obtain ⟨cur2, hc2⟩ : ∃ x, x = (cur1.toList.take (m * 2) ++ zeros k ++ cur1.toList.drop (m * 2 + k * 2)).toArray := ⟨_, rfl⟩
  rw [← hc2] at HC
  have fin : (w.drew.setRow g cur2).ownsRow B 41 2 (.slice (some ⟨g, 0, none⟩) m cap) m (cs.drop (k * 2)) ∧ w.grownBy (w.drew.setRow g cur2) (some g) := by
    refine ⟨⟨hdl, .inr ⟨g, cap, cur2, rfl, hg, setRow_heap w.drew g cur _ 41 _ hh, by omega, by unfold maxLen; omega, ?_, ?_⟩⟩, ?_⟩
    · rw [hc2]
      simp only [List.size_toArray, List.length_append, List.length_take, List.length_drop, Array.length_toList, hs1, hcur, zeros_len]
      omega
    · rw [hc2]
      show List.take (m * 2) (cur1.toList.take (m * 2) ++ _ ++ _) = _
      rw [List.append_assoc, List.take_left' (by rw [List.length_take, Array.length_toList, hs1]; omega), hc1]
      show List.take (m * 2) (cur.toList.take (0 * 2) ++ _ ++ _) = _
      rw [List.append_assoc, show cur.toList.take (0 * 2) = [] by simp, List.nil_append, List.take_left' hdl]
    · have := grown_setRow w.drew g cur2
      exact ⟨this.os, this.tape, this.output, this.size, this.block⟩
  clear hc2
  have d0 : ((0 : Int) == (k : Int)) = false := by simp; omega
  have b1 : (k : Int) ≤ (m : Int) + (k : Int) := by omega
  have b2 : (0 : Int) ≤ (k : Int) := by omega
  have b3 : k ≤ m + k := by omega
  have b4 : ¬ (cap = m) := by omega
  have b5 : m + k ≤ cap := hnc
  have b6 : (m : Int) ≤ (m : Int) + (k : Int) := by omega
  have b7 : k ≤ cap := by omega
  have b8 : m ≤ m + k := by omega
  have b9 : m ≤ cap := by omega
  by_cases hcap : cap = k
  · obtain rfl : m = 0 := by omega
    subst hcap
    have HA : Hid (∀ ty c, (Builtin.append_ #[51, 51] ty #[.slice (some ⟨g, 0, none⟩) 0 cap, .slice (some ⟨g, 0, none⟩) 0 c]).run Try.prog w.drew = .ok (.slice (some ⟨g, 0, none⟩) 0 cap) (w.drew.setRow g cur1)) := fun ty c => by
      have e0 : cs.drop (cap * 2) = [] := List.eq_nil_of_length_eq_zero (by rw [hdl])
      have := run_append2 w.drew ty g 0 cap 0 c ⟨g, 0, none⟩ cur (cs.drop (cap * 2)) hh hcur (by omega) (by rw [e0]; rfl) (fun j u hj => by rw [e0] at hj; simp at hj) h1d
      rw [this, ← hc1]
    simp only [Nat.zero_mul] at HC
    clear hc1 hsrc hdl h1d h1 htk
    go_enter Try.func26, Try.ntmps26
    go_wp2_with fail
    go_region_law (refine step_append_run rfl _ _ 51 51 rfl _ _ (by rfl) (by rfl) (HA.out _ _) ?_)
    have hclr := HC.out
    go_wp2_with (simp only [hclr])
    go_ret
    exact ⟨_, _, rfl, fin.1, fin.2, rfl⟩
  · have HA : Hid (∀ ty c, (Builtin.append_ #[51, 51] ty #[.slice (some ⟨g, 0, none⟩) 0 cap, .slice (some ⟨g, k * 2, none⟩) m c]).run Try.prog w.drew = .ok (.slice (some ⟨g, 0, none⟩) m cap) (w.drew.setRow g cur1)) := fun ty c => by
      have := run_append2 w.drew ty g 0 cap m c ⟨g, k * 2, none⟩ cur _ hh hcur (by omega) hdl (fun j u hj => by rw [Addr.add_lit]; exact hsrc j u hj) h1d
      rw [Nat.zero_add] at this
      rw [this, ← hc1]
    clear hc1 hsrc hdl h1d h1 htk
    go_enter Try.func26, Try.ntmps26
    go_wp2_with fail
    go_region_law (refine step_append_run rfl _ _ 51 51 rfl _ _ (by rfl) (by rfl) (HA.out _ _) ?_)
    have hclr := HC.out
    go_wp2_with (simp only [hclr])
    go_ret
    exact ⟨_, _, rfl, fin.1, fin.2, rfl⟩

end Go.Proofs.Ytphcakhhjjdpiaa
