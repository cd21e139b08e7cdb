/-
  append inside a statement that draws its order; the contracts of ref01's Copy and ref05's Read.
-/
import Derived.Test.YtchedflfinkppaaRef1
import Derived.BigRegion
import Derived.Deep.RegionLaw
namespace Go.Proofs.Ytchedflfinkppaa
open Go.RowKit Go.Maps

theorem Try.info82 : (Try.prog.info? 82).map (fun i => (i.zero, i.size, i.bytes)) = some (some (.agg #[.string ⟨#[]⟩, .slice none 0 0, .slice none 0 0]), 3, 64) := by kernel_rfl

theorem step_append_run {P : Program} {ops : Array Oper} {o : Oper} {a : Act} {w : World} {K : Act → World → Prop} {Q : Exit → Act → World → Prop} {E : Prop}
    (hg : o.guard = none) (d x : Operand) (dT sT : TypeId) (hop : o.op = Op.call { callee := Callee.builtin Builtin.append, args := #[d, x], argTypes := #[dT, sT] })
    (v u : Value) (hd : a.eval d = v) (hx : a.eval x = u) {v' : Value} {w' : World} (hr : (Builtin.append_ #[dT, sT] o.type #[v, u]).run P w = .ok v' w') (hK : K (a.put o.dst v') w') :
    if Region.wanted o (yielded ops a.tmps) = true then Oper.wp P o a w K Q else E := by
  have hw : Region.wanted o (yielded ops a.tmps) = true := by simp [Region.wanted, hg]
  rw [if_pos hw]
  unfold Oper.wp
  simp [execOp, hop, resolve, invoke, builtin, hd, hx, hr, Result.andThen]
  exact hK
theorem run_appendF0 (w : World) (ty : TypeId) (base : Nat) (v : Value) (n : Nat) (xs : List Value) (hown : w.ownsRow base 82 3 v n xs) (A : Option Addr) (c : Nat) :
    (Builtin.append_ #[70, 70] ty #[v, .slice A 0 c]).run Try.prog w = .ok v w := by
  obtain ⟨i0, hi, hz0, hz1, hz2⟩ := info_parts Try.info82
  rcases hown.2 with ⟨rfl, rfl⟩ | ⟨g, cap, cur, rfl, _, _, hnc, _⟩ <;> cases A <;>
    simp [Builtin.append_, run_underlying Try.underlying70, sizeOf, typeInfo, hi, Builtin.lenOf, Builtin.firstCells, storeCells, loadCells, loadCellsFrom, *]
theorem run_appendB0 (w : World) (ty : TypeId) (base : Nat) (v : Value) (n : Nat) (xs : List Value) (hown : w.ownsRow base 5 1 v n xs) (A : Option Addr) (c : Nat) :
    (Builtin.append_ #[41, 41] ty #[v, .slice A 0 c]).run Try.prog w = .ok v w := by
  obtain ⟨i0, hi, hz0, hz1, hz2⟩ := info_parts Try.info5
  rcases hown.2 with ⟨rfl, rfl⟩ | ⟨g, cap, cur, rfl, _, _, hnc, _⟩ <;> cases A <;>
    simp [Builtin.append_, run_underlying Try.underlying41, sizeOf, typeInfo, hi, Builtin.lenOf, Builtin.firstCells, storeCells, loadCells, loadCellsFrom, *]

set_option maxRecDepth 100000 in
/-- append of so many files onto a row of the call's own -/
theorem step_append_files {ops : Array Oper} {o : Oper} {a : Act} {w : World} {K : Act → World → Prop} {Q : Exit → Act → World → Prop} {E : Prop} (hgd : o.guard = none) (s x : Operand)
    (ho : o.op = .call { callee := .builtin .append, args := #[s, x], argTypes := #[70, 70] }) (base : Nat) (v : Value) (n : Nat) (xs : List Value) (hs : a.eval s = v) (hown : w.ownsRow base 82 3 v n xs)
    (A : Option Addr) (m c : Nat) (news : List Value) (hx : a.eval x = .slice A m c) (hl : news.length = m * 3) (hnews : ∀ j u, news[j]? = some u → ∃ ad, A = some ad ∧ w.cell? (ad.add j) = some u) (h1 : ∀ u ∈ news, u.oneCell' = true)
    (h63 : n + m ≤ 1000000) (hbase : base ≤ w.heap.size)
    (h : ∀ A' c' w', w'.ownsRow base 82 3 (.slice A' (n + m) c') (n + m) (xs ++ news) → w.grownBy w' v.ownBlock → ((Value.slice A' (n + m) c').ownBlock = v.ownBlock ∨ (Value.slice A' (n + m) c').ownBlock = some w.heap.size) → K (a.put o.dst (.slice A' (n + m) c')) w') :
    if Region.wanted o (yielded ops a.tmps) = true then Oper.wp Try.prog o a w K Q else E := by
  obtain ⟨i0, hi, hz0, hz1, hz2⟩ := info_parts Try.info82
  rcases Nat.eq_zero_or_pos m with h0 | h0
  · subst h0
    have hn : news = [] := List.eq_nil_of_length_eq_zero (by omega)
    subst hn
    have hv : ∃ A0 c0, v = .slice A0 n c0 := by
      rcases hown.2 with ⟨rfl, rfl⟩ | ⟨g, cap, cur, rfl, _⟩
      · exact ⟨none, 0, rfl⟩
      · exact ⟨_, cap, rfl⟩
    obtain ⟨A0, c0, rfl⟩ := hv
    exact step_append_run hgd s x 70 70 ho _ _ hs hx (run_appendF0 w _ base _ n xs hown A c) (h A0 c0 w (by simpa using hown) (World.grownBy.refl w _) (.inl rfl))
  · obtain ⟨ad, rfl, _⟩ := hnews 0 (news[0]'(by omega)) (by simp)
    refine step_append_lies _ hgd s x 70 ho base 82 i0 _ 3 64 Try.underlying70 hi hz0 hz1 hz2 rfl (by omega) v n xs hs hown ad m c news hx hl (fun j u hj => ?_) h1 h0 (by unfold maxLen; omega) (by omega) hbase w.heap.size rfl (fun g cap w' k1 k2 k3 _ => h _ cap w' k1 k2 ?_)
    · obtain ⟨ad', e, hc⟩ := hnews j u hj
      injection e with e
      subst e
      exact hc
    · rcases k3 with k3 | k3
      · exact .inl k3.symm
      · exact .inr (by rw [k3]; rfl)
set_option maxRecDepth 100000 in
/-- append of so many bytes onto a row of the call's own -/
theorem step_append_bytes {ops : Array Oper} {o : Oper} {a : Act} {w : World} {K : Act → World → Prop} {Q : Exit → Act → World → Prop} {E : Prop} (hgd : o.guard = none) (s x : Operand)
    (ho : o.op = .call { callee := .builtin .append, args := #[s, x], argTypes := #[41, 41] }) (base : Nat) (v : Value) (n : Nat) (xs : List Value) (hs : a.eval s = v) (hown : w.ownsRow base 5 1 v n xs)
    (S : Nat → Prop) (A : Option Addr) (m c : Nat) (news : List Value) (hx : a.eval x = .slice A m c) (hl : news.length = m) (hr : Row S w A news) (h1 : ∀ u ∈ news, u.oneCell' = true)
    (h63 : n + m ≤ 3000000) (hbase : base ≤ w.heap.size)
    (h : ∀ A' c' w', w'.ownsRow base 5 1 (.slice A' (n + m) c') (n + m) (xs ++ news) → w.grownBy w' v.ownBlock → ((Value.slice A' (n + m) c').ownBlock = v.ownBlock ∨ (Value.slice A' (n + m) c').ownBlock = some w.heap.size) → K (a.put o.dst (.slice A' (n + m) c')) w') :
    if Region.wanted o (yielded ops a.tmps) = true then Oper.wp Try.prog o a w K Q else E := by
  obtain ⟨i0, hi, hz0, hz1, hz2⟩ := info_parts Try.info5
  rcases Nat.eq_zero_or_pos m with h0 | h0
  · subst h0
    have hn : news = [] := List.eq_nil_of_length_eq_zero hl
    subst hn
    have hv : ∃ A0 c0, v = .slice A0 n c0 := by
      rcases hown.2 with ⟨rfl, rfl⟩ | ⟨g, cap, cur, rfl, _⟩
      · exact ⟨none, 0, rfl⟩
      · exact ⟨_, cap, rfl⟩
    obtain ⟨A0, c0, rfl⟩ := hv
    exact step_append_run hgd s x 41 41 ho _ _ hs hx (run_appendB0 w _ base _ n xs hown A c) (h A0 c0 w (by simpa using hown) (World.grownBy.refl w _) (.inl rfl))
  · obtain ⟨ad, rfl, hcs⟩ := hr.cells (by omega)
    refine step_append_lies _ hgd s x 41 ho base 5 i0 _ 1 1 Try.underlying41 hi hz0 hz1 hz2 rfl (by omega) v n xs hs hown ad m c news hx (by omega) (fun j u hj => hcs j u hj) h1 h0 (by unfold maxLen; omega) (by omega) hbase w.heap.size rfl (fun g cap w' k1 k2 k3 _ => h _ cap w' k1 k2 ?_)
    rcases k3 with k3 | k3
    · exact .inl k3.symm
    · exact .inr (by rw [k3]; rfl)

/-- New bytes of the call's own. -/
def GivesO (w : World) (l : List Int) (e : Ending) (w' : World) : Prop :=
  ∃ A c, e = .returned (.slice A l.length c) ∧ w'.ownsRow w.heap.size 5 1 (.slice A l.length c) l.length (u8s l) ∧ Below w.heap.size w w'
set_option maxRecDepth 100000 in
set_option maxHeartbeats 400000 in
theorem rcopy_any (S : Nat → Prop) (A : Option Addr) (c : Nat) (l : List Int) (w : World) (hrow : Row S w A (u8s l)) (hl : l.length ≤ 2000000) :
    Calls Try.prog 57 #[.slice A l.length c] w fun e w' => GivesO w l e w' := by
  obtain ⟨i0, hi, hz0, hz1, hz2⟩ := info_parts Try.info5
  have h0 : (w.alloc (.cells #[] 5)).ownsRow w.heap.size 5 1 (.slice (some ⟨w.heap.size, 0, none⟩) 0 0) 0 [] := World.ownsRow_lit w #[] 0 (Nat.le_refl _) (by decide) rfl
  have hrow1 := hrow.alloc (.cells #[] 5)
  have h1c := u8s_one l
  have HL := Lib.hid (u8s_len l)
  unfold GivesO
  clear hrow
  go_enter Try.func57, Try.ntmps57
  go_wp2_with (at_builtin; refine wpList_append_row _ rfl (.tmp 3) (.tmp 4) 41 rfl w.heap.size 5 i0 (.int .u8 0) 1 Try.underlying41 hi hz0 hz1 hz2 rfl _ 0 [] rfl h0 S A l.length c (u8s l) rfl HL.out hrow1 h1c ?c3 ?c4 ?c5 ?_; rotate_right; intro A' c' w' hown hgrow hat)
  case c3 => unfold maxLen; omega
  case c4 => omega
  case c5 => simp
  rw [Nat.zero_add, List.nil_append] at hown
  have hg' : (w.alloc (.cells #[] 5)).grownBy w' (some w.heap.size) := hgrow
  go_ret
  exact ⟨A', c', rfl, hown, ((Below.refl _ _).alloc (Nat.le_refl _) _).grown hg' (by simp) (fun k e => by injection e with e; omega)⟩

section
variable (w : World) (B : BK) (x room : Nat) (p : Pw) (v : Value) (L : List RF) (s : ByteArray)

set_option maxHeartbeats 400000 in
theorem rread_nil : Calls Try.prog 40 #[.pointer none, .string s] w fun e w' => GivesR w [] 6 e w' := by
  go_enter Try.func40, Try.ntmps40
  go_wp2_with fail
  go_ret2
  exact ⟨none, 0, rfl, Nat.le_refl _, Row.nil, Below.refl _ _⟩
set_option maxHeartbeats 400000 in
theorem rread_down (h : RD w B x p room v L) (hd : p.down = true) : Calls Try.prog 40 #[.pointer (some ⟨x, 0, none⟩), .string s] w fun e w' => GivesR w [] 9 e w' := by
  obtain ⟨_, _, _, _, c4⟩ := h.cells
  rw [hd] at c4
  clear h
  go_enter Try.func40, Try.ntmps40
  go_wp2_with fail
  go_ret2
  exact ⟨none, 0, rfl, Nat.le_refl _, Row.nil, Below.refl _ _⟩
set_option maxRecDepth 100000 in
set_option maxHeartbeats 400000 in
theorem rread_none (h : RD w B x p room v L) (hl : L.length ≤ 1000) (hd : p.down = false) (hn : findR L s = -1) : Calls Try.prog 40 #[.pointer (some ⟨x, 0, none⟩), .string s] w fun e w' => GivesR w [] 6 e w' := by
  obtain ⟨_, _, _, _, c4⟩ := h.cells
  rw [hd] at c4
  have hf := rfind_any w B x room p v L s h hl
  rw [hn] at hf
  have HF := Lib.hid hf
  clear h hf
  go_enter Try.func40, Try.ntmps40
  go_wp2_with fail
  refine (HF.out).mono ?_
  rintro e w1 ⟨rfl, hb1⟩
  have HB1 := Lib.hid hb1
  clear hb1
  go_wp2_with fail
  go_ret2
  exact ⟨none, 0, rfl, Nat.le_refl _, Row.nil, HB1.out⟩
set_option maxRecDepth 100000 in
set_option maxHeartbeats 1000000 in
theorem rread_some (k : Nat) (hk : k < L.length) (h : RD w B x p room v L) (hl : L.length ≤ 1000) (hd : p.down = false) (hn : findR L s = (k : Int)) (hz : L[k].firm.length + L[k].loose.length ≤ 1048576) :
    Calls Try.prog 40 #[.pointer (some ⟨x, 0, none⟩), .string s] w fun e w' => GivesR w (L[k].firm ++ L[k].loose) 0 e w' := by
  obtain ⟨_, c1, _, _, c4⟩ := h.cells
  rw [hd] at c4
  have hf := rfind_any w B x room p v L s h hl
  rw [hn] at hf
  have HF := Lib.hid hf
  obtain ⟨A, c, rfl, hc, hFi⟩ := h.files
  have HFI := Lib.hid hFi
  have HD := Lib.hid h
  obtain ⟨tt, htt⟩ : ∃ t, t = L[k].firm ++ L[k].loose := ⟨_, rfl⟩
  rw [← htt]
  have HTT := Lib.hid htt
  clear h hf hFi htt
  go_enter Try.func40, Try.ntmps40
  go_wp2_with fail
  refine (HF.out).mono ?_
  rintro e w1 ⟨rfl, hb1⟩
  obtain ⟨ad, rfl, _, _, _, ⟨F, cf, k1, hcf, r1⟩, G, cg, k2, hcg, r2⟩ := (HFI.out.below hb1) k hk
  have hc1 : w1.cell? ⟨x, 1, none⟩ = some (.slice (some ad) L.length c) := (HD.out.below hb1).cells.2.1
  have HCL : Hid (∀ W, Below w1.heap.size w1 W → W.cell? ⟨x, 1, none⟩ = some (.slice (some ad) L.length c) ∧ W.cell? ⟨(ad.add (k * 3)).block, (ad.add (k * 3)).off + 1, none⟩ = some (.slice F L[k].firm.length cf) ∧ W.cell? ⟨(ad.add (k * 3)).block, (ad.add (k * 3)).off + 2, none⟩ = some (.slice G L[k].loose.length cg)) := fun W hW =>
    ⟨(hW.cell (lt_of_cell hc1)).trans hc1, (hW.cell (lt_of_cell k1)).trans k1, (hW.cell (lt_of_cell k2)).trans k2⟩
  have HRL : Hid (∀ W, Below w1.heap.size w1 W → Row (fun _ => True) W G (u8s L[k].loose)) := fun W hW => (r2.below hW).any
  have HLL := Lib.hid (u8s_len L[k].loose)
  have H1C := Lib.hid (u8s_one L[k].loose)
  have HCP : Hid (∀ W, Below w1.heap.size w1 W → Calls Try.prog 57 #[.slice F L[k].firm.length cf] W fun e w' => ∃ A c, e = .returned (.slice A L[k].firm.length c) ∧ w'.ownsRow w1.heap.size 5 1 (.slice A L[k].firm.length c) L[k].firm.length (u8s L[k].firm) ∧ Below w1.heap.size w1 w') := fun W hW => by
    refine (rcopy_any _ F cf L[k].firm W (r1.below hW) (by omega)).mono ?_
    rintro e w' ⟨A', c', rfl, ho, hb'⟩
    exact ⟨A', c', rfl, own_lower ho hW.size, hW.trans (hb'.mono hW.size)⟩
  have HB1 := Lib.hid hb1
  have hap : u8s L[k].firm ++ u8s L[k].loose = u8s (L[k].firm ++ L[k].loose) := by simp [u8s]
  have HFIN : Hid (∀ A' c' w', w'.ownsRow w1.heap.size 5 1 (.slice A' (L[k].firm.length + L[k].loose.length) c') (L[k].firm.length + L[k].loose.length) (u8s L[k].firm ++ u8s L[k].loose) → Below w1.heap.size w1 w' → GivesR w tt 0 (.returned (.tuple #[.slice A' (L[k].firm.length + L[k].loose.length) c', .int .i64 0])) w') := fun A' c' w' ho hb' => by
    rw [hap] at ho
    rw [HTT.out]
    obtain ⟨A2, c2, e2, hc2, _, hr2⟩ := Row.of_own ho
    injection e2 with e21 _ e23
    subst e21 e23
    have hbs := HB1.out.size
    exact ⟨A', c', by rw [List.length_append], by rw [List.length_append]; exact hc2, hr2.mono fun g _ s => by omega, HB1.out.trans (hb'.mono hbs)⟩
  have i1 : (k : Int) < (L.length : Int) := by omega
  clear r1 r2 hap k1 k2 hc1 hcf hcg hb1
  generalize u8s L[k].firm = uf at *
  generalize u8s L[k].loose = ul at *
  generalize L[k].firm.length = lf at *
  generalize L[k].loose.length = lg at *
  have hb0 : Below w1.heap.size w1 w1.drew := (Below.refl _ _).drew
  obtain ⟨q0, q1, q2⟩ := HCL.out _ hb0
  obtain ⟨q0', q1', q2'⟩ := HCL.out _ (Below.refl _ w1)
  go_wp2_with fail
  go_region_law
    (first
      | (go_simp; go_at_call 57; refine (HCP.out _ hb0).mono ?_; rintro e w7 ⟨A7, c7, rfl, ho7, hb7⟩; obtain ⟨s0, s1, s2⟩ := HCL.out _ hb7)
      | (refine step_append_bytes (by rfl) (.tmp 26) (.tmp 34) (by rfl) w1.heap.size _ lf uf (by rfl) ho7 (fun _ => True) G lg cg ul (by rfl) HLL.out (HRL.out _ hb7) H1C.out (by omega) hb7.size ?_; intro A9 c9 w9 ho9 hg9 ha9; have hb9 : Below w1.heap.size w1 w9 := hb7.grown hg9 hb7.size (fun g e => (own_lt ho7 e).1))
      | fail)
  all_goals
    have HG := Lib.hid (HFIN.out A9 c9 w9 ho9 hb9)
    clear ho9 hg9 ha9 hb9 ho7 hb7
    go_wp2_with fail
    go_ret2
    exact HG.out
end

end Go.Proofs.Ytchedflfinkppaa
