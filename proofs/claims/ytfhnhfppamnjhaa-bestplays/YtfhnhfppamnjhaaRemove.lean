/-
  The contract of remove: the hit at a place is no more, neither in the row nor in the map.
-/
import Derived.Test.YtfhnhfppamnjhaaOwn
namespace Go.Proofs.Ytfhnhfppamnjhaa
open Go.RowKit Go.Maps

theorem law33 : Keyed Try.prog 33 := int_keyed Try.underlying33

theorem step_delete_run {P : Program} {ops : Array Oper} {o : Oper} {a : Act} {w : World} {K : Act → World → Prop} {Q : Exit → Act → World → Prop} {E : Prop}
    (hg : o.guard = none) (d x : Operand) (dT sT : TypeId) (hop : o.op = Op.call { callee := Callee.builtin Builtin.delete, args := #[d, x], argTypes := #[dT, sT] })
    (v u : Value) (hd : a.eval d = v) (hx : a.eval x = u) {v' : Value} {w' : World} (hr : (Builtin.delete_ #[dT, sT] o.type #[v, u]).run P w = .ok v' w') (hK : K (a.put o.dst v') w') :
    if Region.wanted o (yielded ops a.tmps) = true then Oper.wp P o a w K Q else E := by
  have hw : Region.wanted o (yielded ops a.tmps) = true := by simp [Region.wanted, hg]
  rw [if_pos hw]
  unfold Oper.wp
  simp [execOp, hop, resolve, invoke, builtin, hd, hx, hr, Result.andThen]
  exact hK

theorem own_slice {w : World} {B e s n : Nat} {v : Value} {xs : List Value} (h : w.ownsRow B e s v n xs) : ∃ A c, v = .slice A n c := by
  rcases h.2 with ⟨rfl, rfl⟩ | ⟨g, cap, cur, rfl, _⟩
  · exact ⟨_, _, rfl⟩
  · exact ⟨_, _, rfl⟩

theorem Cells3.away {S S' : Nat → Prop} {w w' : World} {cs : List Value} {hs : List Hit} (h : Cells3 S w cs hs) (hs' : w.heap.size ≤ w'.heap.size) (hk : ∀ g, g < w.heap.size → S g → w'.heap[g]? = w.heap[g]?) (hS : ∀ g, S g → S' g) : Cells3 S' w' cs hs := h.kept hs' fun g hg s => ⟨hk g hg s, hS g s⟩

set_option maxRecDepth 100000 in
set_option maxHeartbeats 1000000 in
theorem remove_any (B b mb n most p : Nat) (v : Value) (hs : List Hit) (w : World) (L : Lst w B b mb n v most hs) (hg : Good most hs) (hp : p < hs.length) (hn : hs.length ≤ 1000) :
    Calls Try.prog 29 #[.pointer (some ⟨b, 0, none⟩), .int .i64 (p : Int)] w fun e w' => e = .returned (.tuple #[]) ∧ ∃ v', Lst w' B b mb n v' most (hs.take p ++ hs.drop (p + 1)) ∧ Chg w w' b mb v v' := by
  obtain ⟨c0, c1, c2⟩ := L.cells
  obtain ⟨A, ca, hv, _, hat⟩ := L.hits
  obtain ⟨ad, rfl, _, hlt, h0, _⟩ := hat p hp
  obtain ⟨hne1, hne2, hne3⟩ := L.ne
  obtain ⟨D, hmap, hsay⟩ := L.map
  obtain ⟨cs, hrow, hcell⟩ := L.row
  have hkey : keyOf Try.prog 33 (.int .u64 hs[p].1) = some (.int .u64 hs[p].1) := keyOf_int_mk Try.underlying33 (hg.wf _ (List.getElem_mem hp)).1
  obtain ⟨w1, hrun, hown1, hturn⟩ := (hmap.drew).drop law33 Try.underlying52 hkey 0
  have hg1 := hturn.grown
  have hrow1 : w1.ownsRow B 36 3 v hs.length cs := own_kept (row := some mb) hrow ⟨hg1.os, hg1.tape, hg1.output, hg1.size, hg1.block⟩ (fun g e e' => hne3 (by rw [e]; exact e'.symm))
  have hb1 : w1.heap[b]? = some (.cells #[.int .i64 most, v, .map (some mb)] 54 (0, 0)) := (hg1.block b L.lt.1 (fun e => hne1 (by injection e))).trans L.blk
  have d1 := three_cell1 hb1
  have HD := Lib.hid (delete_any B v hs.length p cs w1 hrow1 hp hcell.oneCell hn)
  have HR := Lib.hid hrun
  have HB1 := Lib.hid hb1
  have i1 : (p : Int) < (hs.length : Int) := by omega
  have i2 : IntKind.i64.wrap ((p : Int) + 1) = (p : Int) + 1 := by rw [IntKind.wrap_i64]; omega
  have hvb : w1.frozen? ⟨b, 1, none⟩ = false := three_free hb1
  -- what comes out
  have fin : ∀ v' w5, w5.ownsRow B 36 3 v' (hs.length - 1) (cs.take (p * 3) ++ cs.drop ((p + 1) * 3)) → w1.grownBy w5 v.ownBlock → v'.ownBlock = v.ownBlock →
      w5.cell? ⟨b, 1, none⟩ = some v ∧ w5.frozen? ⟨b, 1, none⟩ = false ∧ Lst (w5.setCell ⟨b, 1, none⟩ v') B b mb n v' most (hs.take p ++ hs.drop (p + 1)) ∧ Chg w (w5.setCell ⟨b, 1, none⟩ v') b mb v v' := by
    intro v' w5 ho hgr hvv
    have hb5 : w5.heap[b]? = some (.cells #[.int .i64 most, v, .map (some mb)] 54 (0, 0)) := (hgr.block b (lt_of_block hb1) (fun e => hne2 e.symm)).trans hb1
    have hlen : (hs.take p ++ hs.drop (p + 1)).length = hs.length - 1 := by simp only [List.length_append, List.length_take, List.length_drop]; omega
    have hsz : w.heap.size ≤ w5.heap.size := Nat.le_trans hg1.size hgr.size
    have hblk : ∀ g, g < w.heap.size → g ≠ b → g ≠ mb → some g ≠ v.ownBlock → (w5.setCell ⟨b, 1, none⟩ v').heap[g]? = w.heap[g]? := fun g hgl g1 g2 g3 => by
      rw [Below.heap_setCell _ _ _ _ g1, hgr.block g (Nat.lt_of_lt_of_le hgl hg1.size) g3]
      exact hg1.block g hgl (fun e => g2 (by injection e))
    have hm5 : (w5.setCell ⟨b, 1, none⟩ v').ownsMap Try.prog 33 (plainElem Try.prog 33) mb n (D.del (.int .u64 hs[p].1)) := (hown1.kept hgr (fun e => hne3 e.symm)).setCell hne1.symm v'
    refine ⟨three_cell1 hb5, three_free hb5, ⟨three_set1 hb5, ⟨cs.take (p * 3) ++ cs.drop ((p + 1) * 3), ?_, ?_⟩, ⟨_, hm5, hsay.del hg p hp⟩, L.lob, L.lom⟩, ⟨?_, ?_, ?_, ?_, hblk, .inl hvv⟩⟩
    · rw [hlen]
      refine own_kept (row := some b) ho ⟨rfl, rfl, rfl, by simp [World.setCell], fun i _ hi => Below.heap_setCell _ _ _ _ (fun e => hi (by rw [e]))⟩ (fun g e e' => hne2 (by rw [← hvv, e]; exact e'.symm))
    · have h3 := (hcell.take p (by omega)).append (hcell.drop (p + 1))
      refine h3.away (by rw [set_size]; exact hsz) (fun g hgl s => hblk g hgl s.2.1 s.2.2.1 s.2.2.2) (fun g s => by rw [hvv]; exact s)
    · exact (set_os _ _ _).trans (hgr.os.trans hg1.os)
    · exact (set_tape _ _ _).trans (hgr.tape.trans hg1.tape)
    · exact (set_output _ _ _).trans (hgr.output.trans hg1.output)
    · rw [set_size]; exact hsz
  have FIN := Lib.hid fin
  clear fin hrun hown1 hturn hg1 hrow1 hb1 hkey hmap hsay hrow hcell hat L
  subst hv
  go_enter Try.func29, Try.ntmps29
  go_wp2_with fail
  go_region_law (refine step_delete_run rfl _ _ 52 33 rfl _ _ (by rfl) (by rfl) HR.out ?_)
  all_goals (
    go_wp2_with fail
    refine (HD.out).mono ?_
    rintro e w5 ⟨v', rfl, ho, hgr, hvv⟩
    obtain ⟨A', c', rfl⟩ := own_slice ho
    obtain ⟨e1, e2, e3, e4⟩ := FIN.out _ w5 ho hgr hvv
    have E3 := Lib.hid e3; have E4 := Lib.hid e4; clear e3 e4 ho hgr hvv
    go_wp2_with fail
    go_end0
    exact ⟨rfl, _, E3.out, E4.out⟩)

end Go.Proofs.Ytfhnhfppamnjhaa
