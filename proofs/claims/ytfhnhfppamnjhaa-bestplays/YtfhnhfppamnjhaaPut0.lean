/-
  What put does, behind its calls.
-/
import Derived.Test.YtfhnhfppamnjhaaFull
namespace Go.Proofs.Ytfhnhfppamnjhaa
open Go.RowKit Go.Maps

theorem zero33 (w : World) : (zeroValue 33).run Try.prog w = .ok (.int .u64 0) w := by
  have h : (Try.prog.info? 33).map (fun i => (i.zero, i.size, i.bytes)) = some (some (.int .u64 0), 1, 8) := by kernel_rfl
  obtain ⟨i0, hi, hz0, _, _⟩ := info_parts h
  simp [zeroValue, typeInfo, hi, hz0]

/-- the look into the map -/
theorem look_there {w : World} {mb n : Nat} {D : DataW Unit} {hs : List Hit} (hm : w.ownsMap Try.prog 33 (plainElem Try.prog 33) mb n D) (hsay : Says D hs) {p : Nat} (hp : p < hs.length) (hw : (Lit.int .u64 hs[p].1).wf = true) :
    (Instr.lookup 52 (.map (some mb)) (.int .u64 hs[p].1) true).run Try.prog w = .ok (.tuple #[.int .u64 hs[p].2.1, .bool true]) w := by
  obtain ⟨v, ps, hrun, hv⟩ := hm.look_ok law33 Try.underlying52 (zero33 w) (plainElem_int Try.underlying33 (by decide)) (keyOf_int_mk Try.underlying33 hw)
  have h1 : has D (.int .u64 hs[p].1) = true := by
    rw [hsay.1]
    exact List.any_eq_true.2 ⟨hs[p], List.getElem_mem hp, by simp⟩
  rw [hsay.2 _ (List.getElem_mem hp)] at hv
  obtain ⟨c, rfl, hc, _⟩ := plainElem_int_inv Try.underlying33 hv
  have : c = hs[p].2.1 := by
    injection hc with hc _
    injection hc with hc
    injection hc with _ hc
    exact hc.symm
  subst this
  rw [h1] at hrun
  exact hrun
theorem look_none {w : World} {mb n : Nat} {D : DataW Unit} {hs : List Hit} (hm : w.ownsMap Try.prog 33 (plainElem Try.prog 33) mb n D) (hsay : Says D hs) {id : Int} (hno : ∀ x ∈ hs, x.1 ≠ id) (hw : (Lit.int .u64 id).wf = true) :
    (Instr.lookup 52 (.map (some mb)) (.int .u64 id) true).run Try.prog w = .ok (.tuple #[.int .u64 0, .bool false]) w := by
  obtain ⟨v, ps, hrun, hv⟩ := hm.look_ok law33 Try.underlying52 (zero33 w) (plainElem_int Try.underlying33 (by decide)) (keyOf_int_mk Try.underlying33 hw)
  have h1 : has D (.int .u64 id) = false := by
    rw [hsay.1, List.any_eq_false]
    intro x hx
    simpa using hno x hx
  rw [atKey_of_not_has h1] at hv
  obtain ⟨c, rfl, hc, _⟩ := plainElem_int_inv Try.underlying33 hv
  have : c = 0 := by
    injection hc with hc _
    injection hc with hc
    injection hc with _ hc
    exact hc.symm
  subst this
  rw [h1] at hrun
  exact hrun

/-- What put answers. -/
def PutGave (B b mb n most : Nat) (v : Value) (hs : List Hit) (h : Hit) (w : World) (e : Ending) (w' : World) : Prop :=
  ∃ v', e = .returned (.bool (base most hs h).isSome) ∧ Lst w' B b mb (n + 1) v' most (match base most hs h with | some l => ins l h | none => hs) ∧ Chg w w' b mb v v'

theorem Lst.wider {w : World} {B b mb n m : Nat} {v : Value} {most : Nat} {hs : List Hit} (h : Lst w B b mb n v most hs) (hm : n ≤ m) : Lst w B b mb m v most hs := by
  obtain ⟨D, h1, h2⟩ := h.map
  exact ⟨h.blk, h.row, ⟨D, h1.mono hm, h2⟩, h.lob, h.lom⟩

theorem own_below {w w' : World} {B e s n : Nat} {v : Value} {xs : List Value} (h : w.ownsRow B e s v n xs) (hb : Below w.heap.size w w') : w'.ownsRow B e s v n xs :=
  own_kept (row := none) h ⟨hb.os, hb.tape, hb.output, hb.size, fun i hi _ => hb.block i hi⟩ (by simp)

theorem put_fin {w w6 w8 w9 w11 : World} {B b mb n most k c8 : Nat} {v v6 v9 : Value} {l : List Hit} {h : Hit} {A8 : Option Addr} {cs : List Value} {o : Obj} {D : DataW Unit} (L6 : Lst w6 B b mb n v6 most l) (hC6 : Chg w w6 b mb v v6)
    (hk : k ≤ l.length) (hb8 : Below w6.heap.size w6 w8) (hc8 : h.2.2.length ≤ c8) (hr8 : Row (fun g => w6.heap.size ≤ g) w8 A8 (i32s h.2.2))
    (hcell : Cells3 (fun g => B ≤ g ∧ g ≠ b ∧ g ≠ mb ∧ some g ≠ v6.ownBlock) w6 cs l)
    (ho9 : w9.ownsRow B 36 3 v9 (l.length + 1) (cs.take (k * 3) ++ [.int .u64 h.1, .int .u64 h.2.1, .slice A8 h.2.2.length c8] ++ cs.drop (k * 3)))
    (hgr9 : (w8.alloc o).grownBy w9 v6.ownBlock) (hat9 : v9.ownBlock = v6.ownBlock ∨ v9.ownBlock = some (w8.alloc o).heap.size)
    (hm11 : w11.ownsMap Try.prog 33 (plainElem Try.prog 33) mb (n + 1) (D.put (.int .u64 h.1) (.lit (.int .u64 h.2.1)))) (hturn : (w9.setCell ⟨b, 1, none⟩ v9).drew.mapTurned w11 mb)
    (hD : IsMap D) (hsay : Says D l) (hno : ∀ x ∈ l, x.1 ≠ h.1) :
    Lst w11 B b mb (n + 1) v9 most (l.take k ++ h :: l.drop k) ∧ Chg w w11 b mb v v9 := by
  obtain ⟨hne1, hne2, hne3⟩ := L6.ne
  obtain ⟨hlb, hlm, hlB⟩ := L6.lt
  have hg11 := hturn.grown
  have hsa : (w8.alloc o).heap.size = w8.heap.size + 1 := by simp
  have hs9 := hgr9.size
  have hs8 := hb8.size
  have hs11 : w9.heap.size ≤ w11.heap.size := by have := hg11.size; rw [show (w9.setCell ⟨b, 1, none⟩ v9).drew.heap.size = w9.heap.size from set_size _ _ _] at this; exact this
  have hv9 : ∀ g, v9.ownBlock = some g → v6.ownBlock = some g ∨ g = w8.heap.size + 1 := fun g e => by
    rcases hat9 with e' | e'
    · exact .inl (e'.symm.trans e)
    · rw [e'] at e; injection e with e; exact .inr (by omega)
  have h9b : v9.ownBlock ≠ some b := fun e => by
    rcases hv9 b e with e | e
    · exact hne2 e
    · omega
  have h9m : v9.ownBlock ≠ some mb := fun e => by
    rcases hv9 mb e with e | e
    · exact hne3 e
    · omega
  -- what stays from w8 on
  have blk : ∀ g, g < w8.heap.size → g ≠ b → g ≠ mb → some g ≠ v6.ownBlock → w11.heap[g]? = w8.heap[g]? := fun g hg g1 g2 g3 => by
    rw [hg11.block g (by rw [show (w9.setCell ⟨b, 1, none⟩ v9).drew.heap.size = w9.heap.size from set_size _ _ _]; omega) (fun e => g2 (by injection e))]
    show (w9.setCell ⟨b, 1, none⟩ v9).heap[g]? = _
    rw [Below.heap_setCell _ _ _ _ g1, hgr9.block g (by omega) g3, Below.heap_alloc _ _ _ hg]
  have blk6 : ∀ g, g < w6.heap.size → g ≠ b → g ≠ mb → some g ≠ v6.ownBlock → w11.heap[g]? = w6.heap[g]? := fun g hg g1 g2 g3 => (blk g (by omega) g1 g2 g3).trans (hb8.block g hg)
  have hb9 : w9.heap[b]? = some (.cells #[.int .i64 most, v6, .map (some mb)] 54 (0, 0)) := by
    rw [hgr9.block b (by omega) (fun e => hne2 e.symm), Below.heap_alloc _ _ _ (by omega), hb8.block b hlb]
    exact L6.blk
  have hb11 : w11.heap[b]? = some (.cells #[.int .i64 most, v9, .map (some mb)] 54 (0, 0)) := by
    rw [hg11.block b (by rw [show (w9.setCell ⟨b, 1, none⟩ v9).drew.heap.size = w9.heap.size from set_size _ _ _]; omega) (fun e => hne1 (by injection e))]
    exact three_set1 hb9
  have hlen : (l.take k ++ h :: l.drop k).length = l.length + 1 := by simp only [List.length_append, List.length_take, List.length_cons, List.length_drop]; omega
  have hchg : Chg w6 w11 b mb v6 v9 := by
    refine ⟨?_, ?_, ?_, by omega, blk6, ?_⟩
    · exact hg11.os.trans (hgr9.os.trans hb8.os)
    · exact hg11.tape.trans (hgr9.tape.trans hb8.tape)
    · exact hg11.output.trans (hgr9.output.trans hb8.output)
    · rcases hat9 with e | e
      · exact .inl e
      · exact .inr ⟨_, e, by omega⟩
  refine ⟨⟨hb11, ⟨cs.take (k * 3) ++ [.int .u64 h.1, .int .u64 h.2.1, .slice A8 h.2.2.length c8] ++ cs.drop (k * 3), ?_, ?_⟩, ⟨_, hm11, hsay.put hD k h hno⟩, L6.lob, L6.lom⟩, hC6.trans hchg⟩
  · rw [hlen]
    have ho10 : (w9.setCell ⟨b, 1, none⟩ v9).drew.ownsRow B 36 3 v9 (l.length + 1) (cs.take (k * 3) ++ [.int .u64 h.1, .int .u64 h.2.1, .slice A8 h.2.2.length c8] ++ cs.drop (k * 3)) :=
      own_kept (w' := w9.setCell ⟨b, 1, none⟩ v9) (row := some b) ho9 ⟨rfl, rfl, rfl, by simp [World.setCell], fun i _ hi => Below.heap_setCell _ _ _ _ (fun e => hi (by rw [e]))⟩ (fun g e e' => h9b (by rw [e]; exact e'.symm))
    exact own_kept (row := some mb) ho10 hg11 (fun g e e' => h9m (by rw [e]; exact e'.symm))
  · have t1 : Cells3 (fun g => B ≤ g ∧ g ≠ b ∧ g ≠ mb ∧ some g ≠ v9.ownBlock) w11 (cs.take (k * 3)) (l.take k) := (hcell.take k hk).kept (by omega) fun g hg s => ⟨blk6 g hg s.2.1 s.2.2.1 s.2.2.2, s.1, s.2.1, s.2.2.1, fun e => by
      rcases hv9 g e.symm with e' | e'
      · exact s.2.2.2 e'.symm
      · omega⟩
    have t2 : Cells3 (fun g => B ≤ g ∧ g ≠ b ∧ g ≠ mb ∧ some g ≠ v9.ownBlock) w11 (cs.drop (k * 3)) (l.drop k) := (hcell.drop k).kept (by omega) fun g hg s => ⟨blk6 g hg s.2.1 s.2.2.1 s.2.2.2, s.1, s.2.1, s.2.2.1, fun e => by
      rcases hv9 g e.symm with e' | e'
      · exact s.2.2.2 e'.symm
      · omega⟩
    have hr11 : Row (fun g => B ≤ g ∧ g ≠ b ∧ g ≠ mb ∧ some g ≠ v9.ownBlock) w11 A8 (i32s h.2.2) := by
      have hr8' : Row (fun g => w6.heap.size ≤ g ∧ g < w8.heap.size) w8 A8 (i32s h.2.2) := hr8.mono fun g hg s => ⟨s, hg⟩
      refine (hr8'.kept (by omega) fun g hg s => blk g hg (by omega) (by omega) (fun e => ?_)).mono fun g _ s => ⟨by omega, by omega, by omega, fun e => ?_⟩
      · have := (L6.rowlt e.symm).2
        omega
      · rcases hv9 g e.symm with e' | e'
        · have := (L6.rowlt e').2
          omega
        · omega
    have t3 := (t1.append (Cells3.one h A8 c8 hc8 hr11)).append t2
    rw [List.append_assoc] at t3
    simpa using t3

theorem step_update_run {P : Program} {ops : Array Oper} {o : Oper} {a : Act} {w : World} {K : Act → World → Prop} {Q : Exit → Act → World → Prop} {E : Prop}
    (hg : o.guard = none) (m x y : Operand) (t : TypeId) (hop : o.op = Op.mapUpdate t m x y)
    (v u z : Value) (hd : a.eval m = v) (hx : a.eval x = u) (hy : a.eval y = z) {w' : World} (hr : (Instr.mapUpdate t v u z).run P w = .ok () w') (hK : K (a.put o.dst undef) w') :
    if Region.wanted o (yielded ops a.tmps) = true then Oper.wp P o a w K Q else E := by
  have hw : Region.wanted o (yielded ops a.tmps) = true := by simp [Region.wanted, hg]
  rw [if_pos hw]
  unfold Oper.wp
  simp [execOp, hop, hd, hx, hy, hr, Result.andThen]
  exact hK

end Go.Proofs.Ytfhnhfppamnjhaa
