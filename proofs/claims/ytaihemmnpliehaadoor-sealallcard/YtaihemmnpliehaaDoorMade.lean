/-
  append of noughts (append(s, make(..)...)), where it must grow.
-/
import Derived.Test.YtaihemmnpliehaaDoorClone
namespace Go.Proofs.YtaihemmnpliehaaDoor
open Go.RowKit

theorem zeros_list (k : Nat) : (Builtin.zeroCells #[Value.int .u8 0] k).toList = List.replicate k (.int .u8 0) := by
  simp only [Builtin.zeroCells]
  apply List.ext_getElem?
  intro i
  simp only [Array.toList_map, Array.toList_range, List.getElem?_map, List.size_toArray, List.length_cons, List.length_nil, Nat.zero_add, Nat.mul_one]
  rcases Nat.lt_or_ge i k with h | h
  · simp [h, Nat.mod_one]
  · simp [h]

theorem run_append_made (w : World) (ty : TypeId) (b : Addr) (n cap k : Nat) (olds : List Value) (hlo : olds.length = n) (holds : ∀ j v, olds[j]? = some v → w.cell? (b.add j) = some v) (hk0 : 0 < k) (hg : 2 * cap < n + k) (hk : n + k ≤ 100000) :
    ∃ c, n + k ≤ c ∧ (Builtin.append_ #[24, 3] ty #[.slice (some b) n cap, .int .i64 (k : Int)]).run Tryd.prog w =
      .ok (.slice (some ⟨w.heap.size, 0, none⟩) (n + k) c) (w.drew.alloc (.cells (olds ++ (List.replicate k (Value.int .u8 0) ++ List.replicate (c - (n + k)) (Value.int .u8 0))).toArray 5)) := by
  obtain ⟨i0, hi, hz0, hz1, hz2⟩ := info_parts Tryd.info5
  refine ⟨grownCap w (n + k) cap 5, grownCap_ge w (n + k) cap 5, ?_⟩
  have hn : ¬ (n + k ≤ cap) := by omega
  have h63' : ¬ (9223372036854775807 < ((n : Int) + (k : Int))) := by omega
  have hcap : Builtin.nextslicecap (n + k) cap = n + k := by unfold Builtin.nextslicecap; rw [if_pos hg]
  have h48' : ¬ (281474976710656 < Builtin.nextslicecap (n + k) cap) := by rw [hcap]; omega
  have hof := run_firstCells_some (P := Tryd.prog) w.drew 1 n b n cap olds (by omega) (by simpa using holds)
  have hw : IntKind.i64.wrap (k : Int) = (k : Int) := by rw [IntKind.wrap_i64]; omega
  have hkn : ¬ ((k : Int) < 0) := by omega
  have hkb : ¬ (281474976710656 < (k : Int)) := by omega
  have hkz : k ≠ 0 := by omega
  have hmx : max (k : Int) 0 = (k : Int) := by omega
  simp [Builtin.append_, run_underlying Tryd.underlying24, run_underlying Tryd.underlying3, sizeOf, typeInfo, zeroValue, hi, hz0, hz1, hz2, Builtin.lenOf, hn, h63', h48', Question.forced, hof, newRow, grownCap, asInt, asIntOf, hw, hkn, hkb, hkz, hmx]
  congr 2
  apply Array.ext'
  simp only [Array.toList_append, show (Value.int IntKind.u8 0).cells = #[Value.int IntKind.u8 0] from rfl, zeros_list, List.replicate_append_replicate]

theorem wpList_append_made (w : World) {ops : Array Oper} {rest : List Oper} {o : Oper} {a : Act} {Q : Exit → Act → World → Prop} (hgd : o.guard = none) (s x : Operand)
    (ho : o.op = .call { callee := .builtin .append, args := #[s, x], argTypes := #[24, 3] }) (b : Addr) (n cap k : Nat) (hs : a.eval s = .slice (some b) n cap) (hx : a.eval x = .int .i64 (k : Int))
    (olds : List Value) (hlo : olds.length = n) (holds : ∀ j v, olds[j]? = some v → w.cell? (b.add j) = some v) (hk0 : 0 < k) (hg : 2 * cap < n + k) (hk : n + k ≤ 100000)
    (h : ∀ c w', n + k ≤ c → Row (fun g => w.heap.size ≤ g) w' (some ⟨w.heap.size, 0, none⟩) (olds ++ List.replicate k (Value.int .u8 0)) → Below w.heap.size w w' → wpList Tryd.prog ops Q rest (a.put o.dst (.slice (some ⟨w.heap.size, 0, none⟩) (n + k) c)) w') :
    wpList Tryd.prog ops Q (o :: rest) a w := by
  obtain ⟨c, hc, hrun⟩ := run_append_made w o.type b n cap k olds hlo holds hk0 hg hk
  refine wpList_plain hgd fun K hK => ?_
  unfold Oper.wp
  simp [execOp, ho, resolve, invoke, builtin, hs, hx, hrun, Result.andThen]
  refine hK _ _ (h c _ hc ?_ ?_)
  · have hb : (w.drew.alloc (.cells (olds ++ (List.replicate k (Value.int .u8 0) ++ List.replicate (c - (n + k)) (Value.int .u8 0))).toArray 5)).heap[w.heap.size]? = some (.cells (olds ++ (List.replicate k (Value.int .u8 0) ++ List.replicate (c - (n + k)) (Value.int .u8 0))).toArray 5) := new_at (w := w.drew) rfl
    have hr : Row (fun g => w.heap.size ≤ g) _ _ _ := Row.of_block hb (Nat.le_refl _)
    have := hr.take (n + k)
    rw [← List.append_assoc, List.take_left' (by simp [hlo])] at this
    simpa using this
  · simpa using (⟨rfl, rfl, rfl, Nat.le_refl _, fun _ _ => rfl⟩ : Below w.heap.size w w.drew).alloc (Nat.le_refl _) (.cells (olds ++ (List.replicate k (Value.int .u8 0) ++ List.replicate (c - (n + k)) (Value.int .u8 0))).toArray 5)

end Go.Proofs.YtaihemmnpliehaaDoor
