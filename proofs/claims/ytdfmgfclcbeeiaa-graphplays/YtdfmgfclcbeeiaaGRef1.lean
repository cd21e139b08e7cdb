/-
  The document's graph in memory; its Has and find.
-/
import Derived.Test.YtdfmgfclcbeeiaaGPutL
namespace Go.Proofs.Ytdfmgfclcbeeiaa
open Go.RowKit Go.Maps Go.Sort
set_option linter.unusedSimpArgs false
set_option linter.unusedVariables false

/-- the document's graph at block x: its nodes, its edges -/
structure RG (w : World) (B x : Nat) (vN vE : Value) (N : List Int) (E : List Edg) : Prop where
  blk : w.heap[x]? = some (.cells #[vN, vE] 30 (0, 0))
  nodes : w.ownsRow B 31 1 vN N.length (us N)
  edges : w.ownsRow B 50 3 vE E.length (flatE E)
  low : B ≤ x

section
variable {w w' : World} {B x : Nat} {vN vE : Value} {N : List Int} {E : List Edg}
theorem RG.below (h : RG w B x vN vE N E) (hb : Below w.heap.size w w') : RG w' B x vN vE N E :=
  ⟨(hb.block x (lt_of_block h.blk)).trans h.blk, own_below h.nodes hb, own_below h.edges hb, h.low⟩
theorem RG.cell0 (h : RG w B x vN vE N E) : w.cell? ⟨x, 0, none⟩ = some vN := by simp [World.cell?, h.blk]
theorem RG.cell1 (h : RG w B x vN vE N E) : w.cell? ⟨x, 1, none⟩ = some vE := by simp [World.cell?, h.blk]
theorem RG.free (h : RG w B x vN vE N E) (k : Nat) : w.frozen? ⟨x, k, none⟩ = false := by simp [World.frozen?, h.blk]

set_option maxRecDepth 100000 in
set_option maxHeartbeats 1000000 in
theorem rhas_any (h : RG w B x vN vE N E) (hl : N.length ≤ 1099511627776) (y : Int) : Calls Try.prog 20 #[.pointer (some ⟨x, 0, none⟩), .int .u64 y] w fun e w' => e = .returned (.bool (hasN N y)) ∧ w' = w := by
  have c0 := h.cell0
  obtain ⟨A, c, rfl, hnc, hrow⟩ := Row.of_own h.nodes
  have H1 := Lib.hid hrow
  obtain ⟨n, hn⟩ : ∃ n, n = N.length := ⟨_, rfl⟩
  rw [← hn] at c0 hnc hl
  have HN : Hid (N.length = n) := hn.symm
  clear h hrow hn
  go_enter Try.func20, Try.ntmps20
  go_wp2_with fail
  go_loop [6, 14] (fun _ i => ∃ k : Nat, k ≤ n ∧ i = .int .i64 k ∧ ∀ j, j < k → N.getD j 0 ≠ y) (fun _ i => n - (intOf i).toNat)
  case atStart => exact ⟨0, Nat.zero_le _, rfl, fun j hj => by omega⟩
  case round =>
    obtain ⟨k, hk, rfl, hno⟩ := hrel
    have HNO := Lib.hid hno
    clear hno
    by_cases hlt : k < n
    · have hlt' : k < N.length := by rw [HN.out]; exact hlt
      obtain ⟨ad, rfl, _, hcA⟩ := H1.out k (by rw [us_len]; exact hlt')
      rw [us_at hlt'] at hcA
      have i1 : (k : Int) < (n : Int) := by omega
      obtain ⟨z, hz⟩ : ∃ z, z = N.getD k 0 := ⟨_, rfl⟩
      rw [← hz] at hcA
      by_cases hzy : z = y
      · have HY : Hid (hasN N y = true) := by
          show _ = _
          rw [hasN_iff, ← hzy, hz]
          simp [List.getD, hlt']
        subst hzy
        clear hz
        go_wp2_with fail
        go_ret
        exact ⟨by rw [HY.out]; rfl, rfl⟩
      · have HNN : Hid (∀ j, j < k + 1 → N.getD j 0 ≠ y) := fun j hj => by
          by_cases e : j = k
          · rw [e, ← hz]; exact hzy
          · exact HNO.out j (by omega)
        have e2 : (z == y) = false := by simp [hzy]
        clear hz
        go_wp2_with fail
        go_round
        case rel => exact ⟨k + 1, by omega, by go_num, HNN.out⟩
        case measure => simp [intOf]; omega
    · have i1 : ¬ (k : Int) < (n : Int) := by omega
      have HY : Hid (hasN N y = false) := hasN_not.2 fun hc => by
        obtain ⟨j, hj, e⟩ := List.getElem_of_mem hc
        exact absurd (by simp [List.getD, hj, e]) (HNO.out j (by have := HN.out; omega))
      go_wp2_with fail
      go_ret
      exact ⟨by rw [HY.out]; rfl, rfl⟩

/-- the error of two nodes -/
def endsR (N : List Int) (a b : Int) : Int := if a = b then 1 else if hasN N a && hasN N b then 0 else 6
/-- where the edge between two stands -/
def At (E : List Edg) (a b i : Int) : Prop := (fE E a b = 0 ∧ i = -1) ∨ ∃ k : Nat, ∃ hk : k < E.length, i = k ∧ lnk (E[k]'hk) a b = true
/-- what find answers -/
def FindG (w : World) (N : List Int) (E : List Edg) (a b : Int) (e : Ending) (w' : World) : Prop :=
  ∃ i : Int, e = .returned (.tuple #[.int .i64 i, .int .i64 (endsR N a b)]) ∧ (endsR N a b = 0 → At E a b i) ∧ Below w.heap.size w w'

theorem find_no {N : List Int} {E : List Edg} {a b e : Int} (h : endsR N a b = e) (h0 : e ≠ 0) (w : World) : FindG w N E a b (.returned (.tuple #[.int .i64 (-1), .int .i64 e])) w :=
  ⟨-1, by rw [h], fun h' => absurd (h.symm.trans h') h0, Below.refl _ _⟩

set_option maxRecDepth 100000 in
set_option maxHeartbeats 2000000 in
theorem rfind_any (h : RG w B x vN vE N E) (hl : N.length ≤ 1099511627776) (hE : E.length ≤ 1099511627776) (a b : Int) : Calls Try.prog 40 #[.pointer (some ⟨x, 0, none⟩), .int .u64 a, .int .u64 b] w (FindG w N E a b) := by
  have HA := Lib.hid (rhas_any h hl a)
  have HB := Lib.hid (rhas_any h hl b)
  by_cases hab : a = b
  · have HV : Hid (endsR N a b = 1) := by show _ = _; unfold endsR; rw [if_pos hab]
    subst hab
    clear h HA HB
    go_enter Try.func40, Try.ntmps40
    go_wp2_with fail
    go_ret2
    exact find_no HV.out (by decide) _
  · have e1 : (a == b) = false := by simp [hab]
    cases ha : hasN N a with
    | false =>
      have HV : Hid (endsR N a b = 6) := by show _ = _; unfold endsR; rw [if_neg hab, ha]; rfl
      rw [ha] at HA
      clear h HB ha
      go_enter Try.func40, Try.ntmps40
      go_wp2_with fail
      refine (HA.out).mono ?_
      rintro e w' ⟨rfl, rfl⟩
      go_wp2_with fail
      go_ret2
      exact find_no HV.out (by decide) _
    | true =>
      cases hb : hasN N b with
      | false =>
        have HV : Hid (endsR N a b = 6) := by show _ = _; unfold endsR; rw [if_neg hab, ha, hb]; rfl
        rw [ha] at HA
        rw [hb] at HB
        clear h ha hb
        go_enter Try.func40, Try.ntmps40
        go_wp2_with fail
        refine (HA.out).mono ?_
        rintro e w' ⟨rfl, hw⟩
        have hw := hw.symm
        subst hw
        go_wp2_with fail
        refine (HB.out).mono ?_
        rintro e w' ⟨rfl, rfl⟩
        go_wp2_with fail
        go_ret2
        exact find_no HV.out (by decide) _
      | true =>
        have HV : Hid (endsR N a b = 0) := by show _ = _; unfold endsR; rw [if_neg hab, ha, hb]; rfl
        rw [ha] at HA
        rw [hb] at HB
        have c1 := h.cell1
        obtain ⟨A, c, rfl, hnc, _, hrow⟩ := Edges.of_own h.edges
        have H1 := Lib.hid hrow
        obtain ⟨n, hn⟩ : ∃ n, n = E.length := ⟨_, rfl⟩
        rw [← hn] at c1 hnc hE
        have HN : Hid (E.length = n) := hn.symm
        have HNE : Hid (a ≠ b) := hab
        have HLO : Hid (∀ e : Edg, lnk e a b = true ↔ e.1 = min a b ∧ e.2.1 = max a b) := fun e => lnk_iff
        clear h ha hb hrow hn hab
        go_enter Try.func40, Try.ntmps40
        go_wp2_with fail
        refine (HA.out).mono ?_
        rintro e w' ⟨rfl, hw⟩
        have hw := hw.symm
        subst hw
        go_wp2_with fail
        refine (HB.out).mono ?_
        rintro e w' ⟨rfl, hw⟩
        have hw := hw.symm
        subst hw
        go_wp2_with fail
        go_loopw [8, 9, 30] (fun _ _ i wr => ∃ k : Nat, k ≤ n ∧ i = .int .i64 k ∧ (∀ j (hj : j < E.length), j < k → lnk (E[j]'hj) a b = false) ∧ Below w.heap.size w wr) (fun _ _ i _ => n - (intOf i).toNat)
        case atStart => exact ⟨0, Nat.zero_le _, rfl, fun j _ hj => by omega, Below.refl _ _⟩
        case round =>
          obtain ⟨k, hk, rfl, hno, hbl⟩ := hrel
          have HNO := Lib.hid hno
          have HBL := Lib.hid hbl
          by_cases hlt : k < n
          · have hlt' : k < E.length := by rw [HN.out]; exact hlt
            obtain ⟨ad, rfl, _, q0, q1, q2⟩ := (H1.out.below hbl) k hlt'
            have i1 : (k : Int) < (n : Int) := by omega
            have HB2 : Hid (Below w.heap.size w (wr.alloc (.cells #[.int .u64 (E[k]'hlt').1, .int .u64 (E[k]'hlt').2.1, .bool (E[k]'hlt').2.2] 50))) := hbl.alloc hbl.size _
            have HLK := Lib.hid (HLO.out (E[k]'hlt'))
            have HFD : Hid (lnk (E[k]'hlt') a b = true → FindG w N E a b (.returned (.tuple #[.int .i64 k, .int .i64 0])) (wr.alloc (.cells #[.int .u64 (E[k]'hlt').1, .int .u64 (E[k]'hlt').2.1, .bool (E[k]'hlt').2.2] 50))) := fun hh => ⟨k, by rw [HV.out], fun _ => .inr ⟨k, hlt', rfl, hh⟩, HB2.out⟩
            have HNN : Hid (lnk (E[k]'hlt') a b = false → ∀ j (hj : j < E.length), j < k + 1 → lnk (E[j]'hj) a b = false) := fun hh j hj hjk => by
              by_cases e : j = k
              · subst e; exact hh
              · exact HNO.out j hj (by omega)
            obtain ⟨l, hll⟩ : ∃ l, l = lnk (E[k]'hlt') a b := ⟨_, rfl⟩
            rw [← hll] at HLK HFD HNN
            clear hll hno hbl
            generalize (E[k]'hlt').1 = z0 at *
            generalize (E[k]'hlt').2.1 = z1 at *
            generalize (E[k]'hlt').2.2 = z2 at *
            cases l with
            | true =>
              have h3 := HLK.out.1 rfl
              obtain ⟨rfl, rfl⟩ := h3
              have HF := Lib.hid (HFD.out rfl)
              clear HLK HFD HNN
              go_wp2_with fail
              go_ret2
              exact HF.out
            | false =>
              have HF := Lib.hid (HNN.out rfl)
              have h3 : ¬ (z0 = min a b ∧ z1 = max a b) := fun h => by have := HLK.out.2 h; cases this
              clear HLK HFD HNN
              by_cases e0 : z0 = min a b
              · have e1 : (z1 == max a b) = false := by simpa using fun h => h3 ⟨e0, h⟩
                subst e0
                clear h3
                go_wp2_with fail
                go_roundw
                case rel => exact ⟨k + 1, by omega, by go_num, HF.out, HB2.out⟩
                case measure => simp [intOf]; omega
              · have e1 : (z0 == min a b) = false := by simpa using e0
                clear h3
                go_wp2_with fail
                go_roundw
                case rel => exact ⟨k + 1, by omega, by go_num, HF.out, HB2.out⟩
                case measure => simp [intOf]; omega
          · have i1 : ¬ (k : Int) < (n : Int) := by omega
            have HF : Hid (FindG w N E a b (.returned (.tuple #[.int .i64 (-1), .int .i64 0])) wr) := ⟨-1, by rw [HV.out], fun _ => .inl ⟨fE_zero.2 fun e he => by
              obtain ⟨j, hj, rfl⟩ := List.getElem_of_mem he
              exact hno j hj (by have := HN.out; omega), rfl⟩, hbl⟩
            clear hno hbl
            go_wp2_with fail
            go_ret2
            exact HF.out
end

end Go.Proofs.Ytdfmgfclcbeeiaa
