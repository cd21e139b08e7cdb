/-
  The contracts of ref04's without and worst.
-/
import Derived.Test.YtfhnhfppamnjhaaRefMath
namespace Go.Proofs.Ytfhnhfppamnjhaa
open Go.RowKit Go.Maps

/-- append of no hits -/
theorem run_append0 (w : World) (ty : TypeId) (base : Nat) (v : Value) (n : Nat) (xs : List Value) (hown : w.ownsRow base 36 3 v n xs) (A : Option Addr) (c : Nat) :
    (Builtin.append_ #[29, 29] ty #[v, .slice A 0 c]).run Try.prog w = .ok v w := by
  obtain ⟨i0, hi, hz0, hz1, hz2⟩ := info_parts Try.info36
  rcases hown.2 with ⟨rfl, rfl⟩ | ⟨g, cap, cur, rfl, _, _, hnc, _⟩ <;> cases A <;>
    simp [Builtin.append_, run_underlying Try.underlying29, sizeOf, typeInfo, hi, Builtin.lenOf, Builtin.firstCells, storeCells, loadCells, loadCellsFrom, *]

/-- append of so many hits onto a row of the call's own -/
theorem step_append_hits {ops : Array Oper} {o : Oper} {a : Act} {w : World} {K : Act → World → Prop} {Q : Exit → Act → World → Prop} {E : Prop} (hgd : o.guard = none) (s x : Operand)
    (ho : o.op = .call { callee := .builtin .append, args := #[s, x], argTypes := #[29, 29] }) (base : Nat) (v : Value) (n : Nat) (xs : List Value) (hs : a.eval s = v) (hown : w.ownsRow base 36 3 v n xs)
    (A : Option Addr) (m c : Nat) (news : List Value) (hx : a.eval x = .slice A m c) (hl : news.length = m * 3) (hnews : ∀ j u, news[j]? = some u → ∃ ad, A = some ad ∧ w.cell? (ad.add j) = some u) (h1 : ∀ u ∈ news, u.oneCell' = true)
    (h63 : n + m ≤ 3000000) (hbase : base ≤ w.heap.size)
    (h : ∀ A' c' w', w'.ownsRow base 36 3 (.slice A' (n + m) c') (n + m) (xs ++ news) → w.grownBy w' v.ownBlock → ((Value.slice A' (n + m) c').ownBlock = v.ownBlock ∨ (Value.slice A' (n + m) c').ownBlock = some w.heap.size) → K (a.put o.dst (.slice A' (n + m) c')) w') :
    if Region.wanted o (yielded ops a.tmps) = true then Oper.wp Try.prog o a w K Q else E := by
  obtain ⟨i0, hi, hz0, hz1, hz2⟩ := info_parts Try.info36
  rcases Nat.eq_zero_or_pos m with h0 | h0
  · subst h0
    have hn : news = [] := List.eq_nil_of_length_eq_zero (by omega)
    subst hn
    have hv : ∃ A0 c0, v = .slice A0 n c0 := by
      rcases hown.2 with ⟨rfl, rfl⟩ | ⟨g, cap, cur, rfl, _⟩
      · exact ⟨none, 0, rfl⟩
      · exact ⟨_, cap, rfl⟩
    obtain ⟨A0, c0, rfl⟩ := hv
    exact step_append_run hgd s x 29 29 ho _ _ hs hx (run_append0 w _ base _ n xs hown A c) (h A0 c0 w (by simpa using hown) (World.grownBy.refl w _) (.inl rfl))
  · obtain ⟨ad, rfl, _⟩ := hnews 0 (news[0]'(by omega)) (by simp)
    refine step_append_lies _ hgd s x 29 ho base 36 i0 _ 3 40 Try.underlying29 hi hz0 hz1 hz2 rfl (by omega) v n xs hs hown ad m c news hx hl (fun j u hj => ?_) h1 h0 (by unfold maxLen; omega) (by omega) hbase w.heap.size rfl (fun g cap w' k1 k2 k3 _ => h _ cap w' k1 k2 ?_)
    · obtain ⟨ad', e, hc⟩ := hnews j u hj
      injection e with e
      subst e
      exact hc
    · rcases k3 with k3 | k3
      · exact .inl k3.symm
      · exact .inr (by rw [k3]; rfl)

set_option maxRecDepth 100000 in
set_option maxHeartbeats 1000000 in
theorem without_any (S : Nat → Prop) (B : Nat) (A : Option Addr) (c i : Nat) (L : List Hit) (cs : List Value) (w : World) (hown : w.ownsRow B 36 3 (.slice A L.length c) L.length cs) (hce : Cells3 S w cs L) (hi : i < L.length) (hL : L.length ≤ 1000000) :
    Calls Try.prog 23 #[.slice A L.length c, .int .i64 (i : Int)] w fun e w' => ∃ A' c', e = .returned (.slice A' (L.length - 1) c') ∧ w'.ownsRow w.heap.size 36 3 (.slice A' (L.length - 1) c') (L.length - 1) (cs.take (i * 3) ++ cs.drop ((i + 1) * 3)) ∧ Below w.heap.size w w' := by
  have h1 := hce.oneCell
  have hlen := hce.1
  have hcell : ∀ j u, cs[j]? = some u → ∀ g, A = some ⟨g, 0, none⟩ → w.cell? ⟨g, j, none⟩ = some u := fun j u hj g e => by
    have := hown.cells (g := g) (by subst e; rfl) j u hj
    rw [Addr.add_lit, Nat.zero_add] at this
    exact this
  rcases hown.2 with ⟨_, e⟩ | ⟨g, cap, cur, e, hBg, hh, hnc, hm, hcur, _⟩
  · omega
  injection e with e e2 e3
  subst e e3
  clear hown hce hh hcur e2
  obtain ⟨m, hn⟩ : ∃ m, L.length = m + 1 := ⟨L.length - 1, by omega⟩
  rw [hn] at hi hL hlen hnc ⊢
  clear hn
  have hcell' : ∀ j u, cs[j]? = some u → w.cell? ⟨g, j, none⟩ = some u := fun j u hj => hcell j u hj g rfl
  have hgl : g < w.heap.size := lt_of_cell (hcell' 0 cs[0] (by simp))
  have h0 : (w.drew.alloc (.cells #[] 36)).ownsRow w.heap.size 36 3 (.slice (some ⟨w.heap.size, 0, none⟩) 0 0) 0 [] := World.ownsRow_lit w.drew #[] 0 (Nat.le_refl _) (by decide) rfl
  have n1 : ∀ j u, (cs.take (i * 3))[j]? = some u → ∃ ad, some (⟨g, 0, none⟩ : Addr) = some ad ∧ (w.drew.alloc (.cells #[] 36)).cell? (ad.add j) = some u := fun j u hj => by
    refine ⟨_, rfl, ?_⟩
    rw [Addr.add_lit, Nat.zero_add, World.cell?_alloc_lt _ _ _ (by exact hgl)]
    refine hcell' j u ?_
    have hlt := (List.getElem?_eq_some_iff.1 hj).1
    rw [List.length_take] at hlt
    rw [List.getElem?_take_of_lt (by omega)] at hj
    exact hj
  have n2 : ∀ (w1 : World), (w.drew.alloc (.cells #[] 36)).grownBy w1 (some w.heap.size) → ∀ j u, (cs.drop ((i + 1) * 3))[j]? = some u → w1.cell? ⟨g, (i + 1) * 3 + j, none⟩ = some u := fun w1 hg1 j u hj => by
    rw [List.getElem?_drop] at hj
    refine (hg1.cell_far ⟨g, (i + 1) * 3 + j, none⟩ (by simp; omega) (by intro e; injection e with e; simp at e; omega)).trans ?_
    rw [World.cell?_alloc_lt _ _ _ (by exact hgl)]
    exact hcell' _ u hj
  have l1 : (cs.take (i * 3)).length = i * 3 := by rw [List.length_take]; omega
  have l2 : (cs.drop ((i + 1) * 3)).length = (m - i) * 3 := by rw [List.length_drop]; omega
  have o1 : ∀ u ∈ cs.take (i * 3), u.oneCell' = true := fun u hu => h1 u (List.mem_of_mem_take hu)
  have o2 : ∀ u ∈ cs.drop ((i + 1) * 3), u.oneCell' = true := fun u hu => h1 u (List.mem_of_mem_drop hu)
  have fin : ∀ (w1 w2 : World) (A1 A2 : Option Addr) (c1 c2 : Nat), (w.drew.alloc (.cells #[] 36)).grownBy w1 (some w.heap.size) → ((Value.slice A1 (0 + i) c1).ownBlock = some w.heap.size ∨ (Value.slice A1 (0 + i) c1).ownBlock = some (w.heap.size + 1)) → w1.grownBy w2 (Value.slice A1 (0 + i) c1).ownBlock → Below w.heap.size w w2 := fun w1 w2 A1 A2 c1 c2 g1 g2 g3 => by
    have hb : Below w.heap.size w w1 := (((Below.refl _ _).drew).alloc (Nat.le_refl _) _).grown g1 (by show w.heap.size ≤ _; simp) (fun k e => by injection e with e; rw [← e]; exact Nat.le_refl _)
    refine hb.grown g3 hb.size (fun k e => ?_)
    rcases g2 with g2 | g2 <;> rw [e] at g2 <;> injection g2 with g2 <;> omega
  clear hcell hcell' h1
  generalize cs.take (i * 3) = ts at *
  generalize cs.drop ((i + 1) * 3) = ds at *
  have HN1 := Lib.hid n1
  have HN2 := Lib.hid n2
  have HO1 := Lib.hid o1
  have HO2 := Lib.hid o2
  have HL1 := Lib.hid l1
  have HL2 := Lib.hid l2
  have HFIN := Lib.hid fin
  have H0 := Lib.hid h0
  clear n1 n2 o1 o2 l1 l2 fin h0 hlen
  have b1 : i ≤ c := by omega
  have b2 : (i : Int) + 1 ≤ (m : Int) + 1 := by omega
  have b3 : i ≤ m := by omega
  have b4 : (i : Int) ≤ (m : Int) := by omega
  have b5 : (0 : Int) ≤ (i : Int) + 1 := by omega
  have b7 : m + 1 ≤ c := hnc
  have hwr : IntKind.i64.wrap ((i : Int) + 1) = (i : Int) + 1 := by rw [IntKind.wrap_i64]; omega
  by_cases hcap : c = i + 1
  · obtain rfl : m = i := by omega
    subst hcap
    have hds : ds = [] := List.eq_nil_of_length_eq_zero (by have := HL2.out; omega)
    subst hds
    have b8 : (m : Int) ≤ (m : Int) + 1 := by omega
    go_enter Try.func23, Try.ntmps23
    go_wp2_with fail
    go_region_held3 (fun _ => True) (trivial)
      (first
        | (refine step_append_hits (by rfl) (.tmp 5) (.tmp 8) (by rfl) w.heap.size _ 0 [] (by rfl) H0.out (some ⟨g, 0, none⟩) m (m + 1) ts (by rfl) HL1.out HN1.out HO1.out (by omega) (by simp) ?_; intro A1 c1 w1 ho1 hg1 ha1)
        | (refine step_append_hits (by rfl) (.tmp 9) (.tmp 13) (by rfl) w.heap.size _ (0 + m) ([] ++ ts) (by rfl) ho1 (some ⟨g, 0, none⟩) 0 _ [] (by rfl) (by simp) (fun j u hj => ⟨_, rfl, by rw [Addr.add_lit]; exact (by simp at hj)⟩) HO2.out (by omega) (by have := hg1.size; simp at this; omega) ?_; intro A2 c2 w2 ho2 hg2 ha2))
    have HB := Lib.hid (HFIN.out w1 w2 A1 A2 c1 c2 hg1 (ha1.imp id fun e => e.trans (by show some (w.alloc _).heap.size = _; simp)) hg2)
    have HR := Lib.hid ho2
    clear ho1 hg1 ha1 ho2 hg2 ha2
    go_wp2_with fail
    go_ret
    have h9 := HR.out
    rw [show 0 + m + 0 = m by omega] at h9
    exact ⟨A2, c2, rfl, by simpa using h9, HB.out⟩
  · go_enter Try.func23, Try.ntmps23
    go_wp2_with fail
    go_region_held3 (fun _ => True) (trivial)
      (first
        | (refine step_append_hits (by rfl) (.tmp 5) (.tmp 8) (by rfl) w.heap.size _ 0 [] (by rfl) H0.out (some ⟨g, 0, none⟩) i c ts (by rfl) HL1.out HN1.out HO1.out (by omega) (by simp) ?_; intro A1 c1 w1 ho1 hg1 ha1)
        | (refine step_append_hits (by rfl) (.tmp 9) (.tmp 13) (by rfl) w.heap.size _ (0 + i) ([] ++ ts) (by rfl) ho1 (some ⟨g, (i + 1) * 3, none⟩) (m - i) (c - (i + 1)) ds (by rfl) HL2.out (fun j u hj => ⟨_, rfl, by rw [Addr.add_lit]; exact HN2.out w1 hg1 j u hj⟩) HO2.out (by omega) (by have := hg1.size; simp at this; omega) ?_; intro A2 c2 w2 ho2 hg2 ha2))
    have HB := Lib.hid (HFIN.out w1 w2 A1 A2 c1 c2 hg1 (ha1.imp id fun e => e.trans (by show some (w.alloc _).heap.size = _; simp)) hg2)
    have HR := Lib.hid ho2
    clear ho1 hg1 ha1 ho2 hg2 ha2
    go_wp2_with fail
    go_ret
    have h9 := HR.out
    rw [show 0 + i + (m - i) = m by omega] at h9
    exact ⟨A2, c2, rfl, by simpa using h9, HB.out⟩

end Go.Proofs.Ytfhnhfppamnjhaa
