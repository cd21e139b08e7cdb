/-
  The contract of slices.Delete at hits: one is taken out, in place.
-/
import Derived.Test.YtfhnhfppamnjhaaHit
import Derived.Lib.AppendZeros
import Derived.BigRegion
import Derived.Deep.RegionLaw
namespace Go.Proofs.Ytfhnhfppamnjhaa
open Go.RowKit

/-- append where there is room -/
theorem run_append3 (w : World) (ty : TypeId) (g a cap m c : Nat) (sa : Addr) (cur : Array Value) (cs : List Value) (hg : w.heap[g]? = some (.cells cur 36 (0, 0))) (hcur : cur.size = cap * 3) (hroom : a + m ≤ cap)
    (hcs : cs.length = m * 3) (hsrc : ∀ j v, cs[j]? = some v → w.cell? (sa.add j) = some v) (h1 : ∀ v ∈ cs, v.oneCell' = true) :
    (Builtin.append_ #[29, 29] ty #[.slice (some ⟨g, 0, none⟩) a cap, .slice (some sa) m c]).run Try.prog w =
      .ok (.slice (some ⟨g, 0, none⟩) (a + m) cap) (w.setRow g (cur.toList.take (a * 3) ++ cs ++ cur.toList.drop (a * 3 + cs.length)).toArray) := by
  obtain ⟨i0, hi, hz0, hz1, hz2⟩ := info_parts Try.info36
  have hl := run_loadCells_list (P := Try.prog) w sa cs hsrc
  have hst := run_storeCells_at Try.prog g (a * 3) 36 cs 0 cur w hg (by omega) h1
  rw [hcs] at hl
  simp [Builtin.append_, run_underlying Try.underlying29, sizeOf, typeInfo, hi, hz1, Builtin.lenOf, Builtin.firstCells, hl, hroom, Addr.add_lit]
  simp at hst
  rw [hst]
  rfl

theorem step_append_run {P : Program} {ops : Array Oper} {o : Oper} {a : Act} {w : World} {K : Act → World → Prop} {Q : Exit → Act → World → Prop} {E : Prop}
    (hg : o.guard = none) (d x : Operand) (dT sT : TypeId) (hop : o.op = Op.call { callee := Callee.builtin Builtin.append, args := #[d, x], argTypes := #[dT, sT] })
    (v u : Value) (hd : a.eval d = v) (hx : a.eval x = u) {v' : Value} {w' : World} (hr : (Builtin.append_ #[dT, sT] o.type #[v, u]).run P w = .ok v' w') (hK : K (a.put o.dst v') w') :
    if Region.wanted o (yielded ops a.tmps) = true then Oper.wp P o a w K Q else E := by
  have hw : Region.wanted o (yielded ops a.tmps) = true := by simp [Region.wanted, hg]
  rw [if_pos hw]
  unfold Oper.wp
  simp [execOp, hop, resolve, invoke, builtin, hd, hx, hr, Result.andThen]
  exact hK

/-- clear of one hit -/
theorem run_clear3 (w : World) (ty : TypeId) (g o c : Nat) (cur : Array Value) (hg : w.heap[g]? = some (.cells cur 36 (0, 0))) (hcur : o + 3 ≤ cur.size) :
    (Builtin.clear_ #[29] ty #[.slice (some ⟨g, o, none⟩) 1 c]).run Try.prog w =
      .ok (.tuple #[]) (w.setRow g (cur.toList.take o ++ [Value.int .u64 0, Value.int .u64 0, Value.slice none 0 0] ++ cur.toList.drop (o + 3)).toArray) := by
  obtain ⟨i0, hi, hz0, hz1, hz2⟩ := info_parts Try.info36
  have hst := run_storeCells_at Try.prog g o 36 [.int .u64 0, .int .u64 0, .slice none 0 0] 0 cur w hg (by simpa using hcur) (by simp [Value.oneCell'])
  have hzc : Builtin.zeroCells (Value.agg #[.int .u64 0, .int .u64 0, .slice none 0 0]).cells 1 = #[.int .u64 0, .int .u64 0, .slice none 0 0] := by kernel_rfl
  simp only [List.length_cons, List.length_nil, Nat.add_zero] at hst
  simp [Builtin.clear_, run_underlying Try.underlying29, zeroValue, typeInfo, hi, hz0, hzc, hst]

theorem grown_setRow (w : World) (g : Nat) (arr : Array Value) : w.grownBy (w.setRow g arr) (some g) :=
  ⟨rfl, rfl, rfl, by simp [World.setRow], fun i _ hne => by
    have : g ≠ i := fun e => hne (by rw [e])
    simp [World.setRow, Array.getElem?_modify, this]⟩

set_option maxRecDepth 100000 in
set_option maxHeartbeats 1000000 in
theorem delete_any (B : Nat) (v : Value) (n k : Nat) (cs : List Value) (w : World) (hown : w.ownsRow B 36 3 v n cs) (hk : k < n) (h1 : ∀ u ∈ cs, u.oneCell' = true) (hn : n ≤ 1000) :
    Calls Try.prog 33 #[v, .int .i64 (k : Int), .int .i64 ((k : Int) + 1)] w fun e w' => ∃ v', e = .returned v' ∧ w'.ownsRow B 36 3 v' (n - 1) (cs.take (k * 3) ++ cs.drop ((k + 1) * 3)) ∧ w.grownBy w' v.ownBlock ∧ v'.ownBlock = v.ownBlock := by
  obtain ⟨hl, h2⟩ := hown
  rcases h2 with ⟨_, h0⟩ | ⟨g, cap, cur, rfl, hg, hh, hnc, hm, hcur, htk⟩
  · omega
  unfold maxLen at hm
  obtain ⟨m, rfl⟩ : ∃ m, n = m + 1 := ⟨n - 1, by omega⟩
  have hd1 : ((k : Int) == (k : Int) + 1) = false := by simp; omega
  have hsrc : ∀ j u, (cs.drop ((k + 1) * 3))[j]? = some u → w.cell? (⟨g, (k + 1) * 3 + j, none⟩) = some u := fun j u hj => by
    rw [List.getElem?_drop, ← htk] at hj
    have hlt := (List.getElem?_eq_some_iff.1 hj).1
    rw [List.length_take] at hlt
    rw [List.getElem?_take_of_lt (by omega)] at hj
    simpa [World.cell?, hh] using hj
  have hdl : (cs.drop ((k + 1) * 3)).length = (m - k) * 3 := by rw [List.length_drop, hl]; omega
  have h1d : ∀ u ∈ cs.drop ((k + 1) * 3), u.oneCell' = true := fun u hu => h1 u (List.mem_of_mem_drop hu)
  have b1 : k ≤ cap := by omega
  have b2 : (k : Int) + 1 ≤ (m : Int) + 1 := by omega
  have b3 : k ≤ m := by omega
  have b4 : (k : Int) ≤ (m : Int) := by omega
  have b5 : (0 : Int) ≤ (k : Int) + 1 := by omega
  have b6 : ¬ (cap = m) := by omega
  have b7 : m + 1 ≤ cap := hnc
  obtain ⟨cur1, hc1⟩ : ∃ x, x = (cur.toList.take (k * 3) ++ cs.drop ((k + 1) * 3) ++ cur.toList.drop (k * 3 + (cs.drop ((k + 1) * 3)).length)).toArray := ⟨_, rfl⟩
  have hs1 : cur1.size = cur.size := by
    rw [hc1]
    simp only [List.size_toArray, List.length_append, List.length_take, List.length_drop, Array.length_toList, hl, hcur]
    omega
  have hh1 : (w.drew.setRow g cur1).heap[g]? = some (.cells cur1 36 (0, 0)) := setRow_heap w.drew g cur _ 36 _ hh
  have HC : Hid (∀ ty c, (Builtin.clear_ #[29] ty #[.slice (some ⟨g, m * 3, none⟩) 1 c]).run Try.prog (w.drew.setRow g cur1) =
      .ok (.tuple #[]) (w.drew.setRow g (cur1.toList.take (m * 3) ++ [Value.int .u64 0, Value.int .u64 0, Value.slice none 0 0] ++ cur1.toList.drop (m * 3 + 3)).toArray)) := fun ty c => by
    rw [run_clear3 _ ty g (m * 3) c cur1 hh1 (by omega), setRow_setRow]
  obtain ⟨cur2, hc2⟩ : ∃ x, x = (cur1.toList.take (m * 3) ++ [Value.int .u64 0, Value.int .u64 0, Value.slice none 0 0] ++ cur1.toList.drop (m * 3 + 3)).toArray := ⟨_, rfl⟩
  rw [← hc2] at HC
  have fin : (w.drew.setRow g cur2).ownsRow B 36 3 (.slice (some ⟨g, 0, none⟩) m cap) m (cs.take (k * 3) ++ cs.drop ((k + 1) * 3)) ∧ w.grownBy (w.drew.setRow g cur2) (some g) := by
    refine ⟨⟨by simp only [List.length_append, List.length_take, hdl, hl]; omega, .inr ⟨g, cap, cur2, rfl, hg, setRow_heap w.drew g cur _ 36 _ hh, by omega, by unfold maxLen; omega, ?_, ?_⟩⟩, ?_⟩
    · rw [hc2]
      simp only [List.size_toArray, List.length_append, List.length_take, List.length_drop, Array.length_toList, hs1, hcur, List.length_cons, List.length_nil]
      omega
    · have e1 : cur.toList.take (k * 3) = cs.take (k * 3) := by rw [← htk, List.take_take, Nat.min_eq_left (by omega)]
      rw [hc2]
      show List.take (m * 3) (cur1.toList.take (m * 3) ++ _ ++ _) = _
      rw [List.append_assoc, List.take_left' (by rw [List.length_take, Array.length_toList, hs1]; omega), hc1]
      show List.take (m * 3) (cur.toList.take (k * 3) ++ _ ++ _) = _
      rw [e1, List.take_left' (by simp only [List.length_append, List.length_take, hdl, hl]; omega)]
    · have := grown_setRow w.drew g cur2
      exact ⟨this.os, this.tape, this.output, this.size, this.block⟩
  clear hc2
  by_cases hcap : cap = k + 1
  · obtain rfl : m = k := by omega
    subst hcap
    have b8 : (m : Int) ≤ (m : Int) + 1 := by omega
    have HA : Hid (∀ ty c, (Builtin.append_ #[29, 29] ty #[.slice (some ⟨g, 0, none⟩) m (m + 1), .slice (some ⟨g, 0, none⟩) 0 c]).run Try.prog w.drew = .ok (.slice (some ⟨g, 0, none⟩) m (m + 1)) (w.drew.setRow g cur1)) := fun ty c => by
      have e0 : cs.drop ((m + 1) * 3) = [] := List.eq_nil_of_length_eq_zero (by rw [hdl]; omega)
      have := run_append3 w.drew ty g m (m + 1) 0 c ⟨g, 0, none⟩ cur (cs.drop ((m + 1) * 3)) hh hcur (by omega) (by rw [e0]; rfl) (fun j u hj => by rw [e0] at hj; simp at hj) h1d
      rw [this, ← hc1]
      rfl
    clear hc1 hsrc hdl h1d h1 htk
    go_enter Try.func33, Try.ntmps33
    go_wp2_with fail
    go_region_law (refine step_append_run rfl _ _ 29 29 rfl _ _ (by rfl) (by rfl) (HA.out _ _) ?_)
    have hclr := HC.out
    go_wp2_with (simp only [hclr])
    go_ret
    exact ⟨_, rfl, fin.1, fin.2, rfl⟩
  · have HA : Hid (∀ ty c, (Builtin.append_ #[29, 29] ty #[.slice (some ⟨g, 0, none⟩) k cap, .slice (some ⟨g, (k + 1) * 3, none⟩) (m - k) c]).run Try.prog w.drew = .ok (.slice (some ⟨g, 0, none⟩) m cap) (w.drew.setRow g cur1)) := fun ty c => by
      have := run_append3 w.drew ty g k cap (m - k) c ⟨g, (k + 1) * 3, none⟩ cur _ hh hcur (by omega) hdl (fun j u hj => by rw [Addr.add_lit]; exact hsrc j u hj) h1d
      rw [show k + (m - k) = m by omega] at this
      rw [this, ← hc1]
    clear hc1 hsrc hdl h1d h1 htk
    go_enter Try.func33, Try.ntmps33
    go_wp2_with fail
    go_region_law (refine step_append_run rfl _ _ 29 29 rfl _ _ (by rfl) (by rfl) (HA.out _ _) ?_)
    have hclr := HC.out
    go_wp2_with (simp only [hclr])
    go_ret
    exact ⟨_, rfl, fin.1, fin.2, rfl⟩

end Go.Proofs.Ytfhnhfppamnjhaa
