/-
  The contract of slices.Insert at hits: one is put in, in place or in a new row.
-/
import Derived.Test.YtfhnhfppamnjhaaDel
import Derived.Lib.Overlaps
namespace Go.Proofs.Ytfhnhfppamnjhaa
open Go.RowKit

theorem run_copy3 (w : World) (ty : TypeId) (g o dLen dCap : Nat) (sa : Addr) (sLen sCap : Nat) (cur : Array Value) (cs : List Value)
    (hg : w.heap[g]? = some (.cells cur 36 (0, 0))) (hn : cs.length = Nat.min sLen dLen * 3)
    (hsrc : ∀ j v, cs[j]? = some v → w.cell? (sa.add j) = some v) (hfit : o + cs.length ≤ cur.size) (h1 : ∀ v ∈ cs, v.oneCell' = true) :
    (Builtin.copy_ #[29, 29] ty #[.slice (some ⟨g, o, none⟩) dLen dCap, .slice (some sa) sLen sCap]).run Try.prog w =
      .ok (goInt (Nat.min sLen dLen)) (w.setRow g (cur.toList.take o ++ cs ++ cur.toList.drop (o + cs.length)).toArray) := by
  obtain ⟨i0, hi, hz0, hz1, hz2⟩ := info_parts Try.info36
  have hl := run_loadCells_list (P := Try.prog) w sa cs hsrc
  have hst := run_storeCells_at Try.prog g o 36 cs 0 cur w hg (by simpa using hfit) h1
  rw [hn] at hl
  simp at hst
  simp [Builtin.copy_, run_underlying Try.underlying29, Builtin.lenOf, Builtin.firstCells, sizeOf, typeInfo, hi, hz1, hl, hst]

theorem step_copy_run {P : Program} {ops : Array Oper} {o : Oper} {a : Act} {w : World} {K : Act → World → Prop} {Q : Exit → Act → World → Prop} {E : Prop}
    (hg : o.guard = none) (d x : Operand) (dT sT : TypeId) (hop : o.op = Op.call { callee := Callee.builtin Builtin.copy, args := #[d, x], argTypes := #[dT, sT] })
    (v u : Value) (hd : a.eval d = v) (hx : a.eval x = u) {v' : Value} {w' : World} (hr : (Builtin.copy_ #[dT, sT] o.type #[v, u]).run P w = .ok v' w') (hK : K (a.put o.dst v') w') :
    if Region.wanted o (yielded ops a.tmps) = true then Oper.wp P o a w K Q else E := by
  have hw : Region.wanted o (yielded ops a.tmps) = true := by simp [Region.wanted, hg]
  rw [if_pos hw]
  unfold Oper.wp
  simp [execOp, hop, resolve, invoke, builtin, hd, hx, hr, Result.andThen]
  exact hK

theorem wpList_copy_run {P : Program} (w : World) {ops : Array Oper} {rest : List Oper} {o : Oper} {a : Act} {Q : Exit → Act → World → Prop} (hgd : o.guard = none) (d s : Operand) (t t' : TypeId)
    (ho : o.op = .call { callee := .builtin .copy, args := #[d, s], argTypes := #[t, t'] }) (v u : Value) (hd : a.eval d = v) (hs : a.eval s = u) {v' : Value} {w' : World}
    (hr : (Builtin.copy_ #[t, t'] o.type #[v, u]).run P w = .ok v' w') (h : wpList P ops Q rest (a.put o.dst v') w') : wpList P ops Q (o :: rest) a w :=
  wpList_plain hgd fun _ hK => by
    unfold Oper.wp execOp
    simp only [ho, resolve, invoke, builtin, Sem.run_bind, Sem.run_pure, Result.andThen_ok, List.map_toArray, List.map_cons, List.map_nil, hd, hs, hr]
    exact hK _ _ h

/-- append of so many zero hits, where it must grow -/
theorem run_made3 (w : World) (ty : TypeId) (g k n cap : Nat) (olds : List Value) (hlo : olds.length = k * 3) (holds : ∀ j v, olds[j]? = some v → w.cell? ((⟨g, 0, none⟩ : Addr).add j) = some v) (hk : k ≤ n) (hn : n ≤ 1000) (hg : cap < n + 1) :
    ∃ c Z, n + 1 ≤ c ∧ c ≤ maxLen ∧ (olds ++ Z).length = c * 3 ∧ (Builtin.append_ #[29, 3] ty #[.slice (some ⟨g, 0, none⟩) k cap, .int .i64 ((n : Int) + 1 - (k : Int))]).run Try.prog w =
      .ok (.slice (some ⟨w.heap.size, 0, none⟩) (n + 1) c) (w.drew.alloc (.cells (olds ++ Z).toArray 36)) := by
  obtain ⟨i0, hi, hz0, hz1, hz2⟩ := info_parts Try.info36
  obtain ⟨q, hq⟩ : ∃ q : Nat, q = n + 1 - k := ⟨_, rfl⟩
  have hqi : (n : Int) + 1 - (k : Int) = (q : Int) := by omega
  have hkq : k + q = n + 1 := by omega
  rw [hqi]
  refine ⟨grownCap w (n + 1) cap 36, (Builtin.zeroCells #[Value.int .u64 0, Value.int .u64 0, Value.slice none 0 0] q ++ Builtin.zeroCells #[Value.int .u64 0, Value.int .u64 0, Value.slice none 0 0] (grownCap w (n + 1) cap 36 - (n + 1))).toList, grownCap_ge w (n + 1) cap 36, grownCap_le_maxLen w (n + 1) cap 36 (by unfold maxLen; omega), ?_, ?_⟩
  · have := grownCap_ge w (n + 1) cap 36
    simp only [List.length_append, hlo, Array.length_toList, Array.size_append, size_zeroCells]
    simp
    omega
  have hnc : ¬ (n + 1 ≤ cap) := by omega
  have h48 := growslice_fits (need := n + 1) (old := cap) (bytes := 40) hg (by omega)
  have h48' : ¬ (281474976710656 < Builtin.nextslicecap (n + 1) cap * 40) := by omega
  have hof := run_firstCells_some (P := Try.prog) w.drew 3 k ⟨g, 0, none⟩ k cap olds hlo (by simpa using holds)
  have hw : IntKind.i64.wrap (q : Int) = (q : Int) := by rw [IntKind.wrap_i64]; omega
  have hkn : ¬ ((q : Int) < 0) := by omega
  have hkb : ¬ (281474976710656 < (q : Int) * 40) := by omega
  have hkz : q ≠ 0 := by omega
  have hmx : max (q : Int) 0 = (q : Int) := by omega
  have h63 : ¬ (9223372036854775807 < (k : Int) + (q : Int)) := by omega
  simp [Builtin.append_, run_underlying Try.underlying29, run_underlying Try.underlying3, sizeOf, typeInfo, zeroValue, hi, hz0, hz1, hz2, Builtin.lenOf, hkq, hnc, h48', h63, Question.forced, hof, newRow, grownCap, asInt, asIntOf, hw, hkn, hkb, hkz, hmx]
  rw [if_neg (by omega)]
  congr 3
  apply Array.ext'
  simp only [Array.toList_append]
  rfl

/-- what stands there behind the two copies, in place -/
theorem put_in (cur cs xyz : List Value) (n k : Nat) (hk : k < n) (hl : cs.length = n * 3) (hx : xyz.length = 3) (htk : cur.take (n * 3) = cs) (hc : (n + 1) * 3 ≤ cur.length) (cur1 cur2 : List Value)
    (h1 : cur1 = cur.take ((k + 1) * 3) ++ cs.drop (k * 3) ++ cur.drop ((k + 1) * 3 + (cs.drop (k * 3)).length)) (h2 : cur2 = cur1.take (k * 3) ++ xyz ++ cur1.drop (k * 3 + xyz.length)) :
    cur1.length = cur.length ∧ cur2.length = cur.length ∧ cur2.take ((n + 1) * 3) = cs.take (k * 3) ++ xyz ++ cs.drop (k * 3) := by
  have hdl : (cs.drop (k * 3)).length = n * 3 - k * 3 := by rw [List.length_drop, hl]
  have e1 : cur1.length = cur.length := by
    rw [h1]; simp only [List.length_append, List.length_take, List.length_drop, hl]; omega
  have e2 : cur1.take (k * 3) = cs.take (k * 3) := by
    rw [h1, List.append_assoc, List.take_append_of_le_length (by rw [List.length_take]; omega), List.take_take, ← htk, List.take_take]
    congr 1
    omega
  have e3 : cur1.drop (k * 3 + xyz.length) = cs.drop (k * 3) ++ cur.drop ((k + 1) * 3 + (cs.drop (k * 3)).length) := by
    rw [h1, List.append_assoc, List.drop_left' (by rw [List.length_take, hx]; omega)]
  refine ⟨e1, by rw [h2]; simp only [List.length_append, List.length_take, List.length_drop, e1, hx]; omega, ?_⟩
  rw [h2, e2, e3, ← List.append_assoc, List.take_left' (by simp only [List.length_append, List.length_take, hl, hx, hdl]; omega)]

/-- .. in a new row -/
theorem put_new (Z cs xyz : List Value) (n k : Nat) (hk : k < n) (hl : cs.length = n * 3) (hx : xyz.length = 3) (hc : (n + 1) * 3 ≤ (cs.take (k * 3) ++ Z).length) (cur1 cur2 : List Value)
    (h1 : cur1 = (cs.take (k * 3) ++ Z).take (k * 3) ++ xyz ++ (cs.take (k * 3) ++ Z).drop (k * 3 + xyz.length)) (h2 : cur2 = cur1.take ((k + 1) * 3) ++ cs.drop (k * 3) ++ cur1.drop ((k + 1) * 3 + (cs.drop (k * 3)).length)) :
    cur1.length = (cs.take (k * 3) ++ Z).length ∧ cur2.length = (cs.take (k * 3) ++ Z).length ∧ cur2.take ((n + 1) * 3) = cs.take (k * 3) ++ xyz ++ cs.drop (k * 3) := by
  have hdl : (cs.drop (k * 3)).length = n * 3 - k * 3 := by rw [List.length_drop, hl]
  have htl : (cs.take (k * 3)).length = k * 3 := by rw [List.length_take, hl]; omega
  have e1 : cur1.length = (cs.take (k * 3) ++ Z).length := by
    rw [h1]; simp only [List.length_append, List.length_take, List.length_drop, hx] at hc ⊢; omega
  have e2 : cur1.take ((k + 1) * 3) = cs.take (k * 3) ++ xyz := by
    rw [h1, List.take_left' (by simp only [List.length_append, List.length_take, hl, hx]; omega), List.take_left' htl]
  refine ⟨e1, by rw [h2]; simp only [List.length_append, List.length_take, List.length_drop, e1, hl, hx] at hc ⊢; omega, ?_⟩
  rw [h2, e2, List.take_left' (by simp only [List.length_append, hdl, htl, hx]; omega)]

set_option maxRecDepth 100000 in
set_option maxHeartbeats 1000000 in
theorem insert_end (B : Nat) (v : Value) (n vb : Nat) (cs : List Value) (x y z : Value) (w : World) (hown : w.ownsRow B 36 3 v n cs) (hB : B ≤ w.heap.size)
    (hv : w.heap[vb]? = some (.cells #[x, y, z] 36 (0, 0))) (h1v : ∀ u ∈ [x, y, z], u.oneCell' = true) (hn : n ≤ 1000) :
    Calls Try.prog 32 #[v, .int .i64 (n : Int), .slice (some ⟨vb, 0, none⟩) 1 1] w fun e w' => ∃ v', e = .returned v' ∧ w'.ownsRow B 36 3 v' (n + 1) (cs ++ [x, y, z]) ∧ w.grownBy w' v.ownBlock ∧ (v'.ownBlock = v.ownBlock ∨ v'.ownBlock = some w.heap.size) := by
  obtain ⟨i0, hi, hz0, hz1, hz2⟩ := info_parts Try.info36
  have hnews : ∀ j u, [x, y, z][j]? = some u → w.cell? ((⟨vb, 0, none⟩ : Addr).add j) = some u := World.news_of_block (cs := #[x, y, z]) hv
  obtain ⟨v', w', hr, ho, hgr, _, hat⟩ := run_append_own_at (P := Try.prog) w B 29 29 36 i0 _ 3 40 Try.underlying29 hi hz0 hz1 hz2 rfl (by omega) v n cs hown ⟨vb, 0, none⟩ 1 1 [x, y, z] (by rfl) hnews h1v (by unfold maxLen; omega) (by omega) hB
  have HR := Lib.hid hr
  have hnn : n ≤ n := Nat.le_refl _
  rcases hown.2 with ⟨rfl, rfl⟩ | ⟨g, cap, cur, rfl, hg, hh, hnc, hm, hcur, htk⟩
  · clear hown hnews hv
    go_enter Try.func32, Try.ntmps32
    go_wp2_with (at_builtin; refine Lib.wpList_append_run _ rfl _ _ 29 29 rfl _ _ rfl rfl _ _ HR.out ?_)
    go_ret
    exact ⟨_, rfl, ho, hgr, hat⟩
  · unfold maxLen at hm
    by_cases hcap : cap = n
    · clear hown hnews hv
      go_enter Try.func32, Try.ntmps32
      go_wp2_with (at_builtin; refine Lib.wpList_append_run _ rfl _ _ 29 29 rfl _ _ rfl rfl _ _ HR.out ?_)
      go_ret
      exact ⟨_, rfl, ho, hgr, hat⟩
    · clear hown hnews hv
      go_enter Try.func32, Try.ntmps32
      go_wp2_with (at_builtin; refine Lib.wpList_append_run _ rfl _ _ 29 29 rfl _ _ rfl rfl _ _ HR.out ?_)
      go_ret
      exact ⟨_, rfl, ho, hgr, hat⟩

end Go.Proofs.Ytfhnhfppamnjhaa
