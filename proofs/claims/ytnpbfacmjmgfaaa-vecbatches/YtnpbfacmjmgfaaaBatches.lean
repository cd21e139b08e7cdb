/-
  What VecBatches does: it returns true, and turns nothing that was there.
-/
import Derived.Test.YtnpbfacmjmgfaaaTwice
import Derived.BigRegion
namespace Go.Proofs.Ytnpbfacmjmgfaaa
open Go.RowKit

theorem chk_perm {dim : Int} {a b : List (Int × List Int)} (h : a.Perm b) : chk dim a = chk dim b := by
  unfold chk
  have e2 : a.all (fitsB dim) = b.all (fitsB dim) := by
    rw [Bool.eq_iff_iff, List.all_eq_true, List.all_eq_true]
    exact ⟨fun h' x hx => h' x (h.mem_iff.2 hx), fun h' x hx => h' x (h.mem_iff.1 hx)⟩
  have e3 : (a.map (·.1)).Nodup ↔ (b.map (·.1)).Nodup := (h.map _).nodup_iff
  rw [h.length_eq, e2]
  simp only [e3]

theorem own_set {w : World} {B e s n g j : Nat} {v u : Value} {cs : List Value} (h : w.ownsRow B e s v n cs) (hg : v.ownBlock = some g) : (w.setCell ⟨g, j, none⟩ u).ownsRow B e s v n (cs.set j u) := by
  obtain ⟨h1, h2⟩ := h
  refine ⟨by rw [List.length_set]; exact h1, ?_⟩
  rcases h2 with ⟨rfl, _⟩ | ⟨g', cap, cur, rfl, hb, hh, a1, a2, a3, a4⟩
  · simp [Value.ownBlock] at hg
  · obtain rfl : g' = g := by simpa [Value.ownBlock] using hg
    refine .inr ⟨g', cap, cur.setIfInBounds j u, rfl, hb, ?_, a1, a2, by simp [a3], ?_⟩
    · simp [World.setCell, Array.getElem?_modify, hh]
    · rw [Array.toList_setIfInBounds, List.take_set, a4]
theorem Cells2.set {S : Nat → Prop} {w : World} {cs : List Value} {ops : List (Int × List Int)} (h : Cells2 S w cs ops) (j : Nat) (hj : j < ops.length) (id : Int) (vec : List Int) (X : Option Addr) (c : Nat) (hc : vec.length ≤ c) (hr : Row S w X (i32s vec)) :
    Cells2 S w ((cs.set (j * 2) (.int .u64 id)).set (j * 2 + 1) (.slice X vec.length c)) (ops.set j (id, vec)) := by
  obtain ⟨h1, h2⟩ := h
  refine ⟨by simp [h1], fun i hi => ?_⟩
  rw [List.length_set] at hi
  by_cases e : j = i
  · subst e
    rw [List.getElem?_set_ne (by omega), List.getElem?_set_self (by omega), List.getElem?_set_self (by rw [List.length_set]; omega)]
    simp only [List.getElem_set_self]
    exact ⟨trivial, X, c, rfl, hc, hr⟩
  · rw [List.getElem?_set_ne (by omega), List.getElem?_set_ne (by omega), List.getElem?_set_ne (by omega), List.getElem?_set_ne (by omega)]
    simp only [List.getElem_set_ne e]
    exact h2 i hi

theorem cell_still {w : World} {p q : Addr} {x v : Value} (h : w.cell? q = some v) : ∃ v', (w.setCell p x).cell? q = some v' := by
  by_cases e : p = q
  · subst e; exact ⟨x, World.cell?_setCell_same w p x h⟩
  · exact ⟨v, (World.cell?_setCell_other w p q x e).trans h⟩
theorem add_zero_lit (g n : Nat) : (⟨g, 0, none⟩ : Addr).add n = ⟨g, n, none⟩ := by
  unfold Addr.add
  split
  · rename_i h; subst h; rfl
  · simp

set_option maxRecDepth 100000 in
set_option maxHeartbeats 2000000 in
theorem law_batches (S T : Nat → Prop) (dim : Int) (A B : Option Addr) (c d : Nat) (ops : List (Int × List Int)) (ord : List Int) (w : World) (h : OpsAt S w A ops) (h2 : Row T w B (u8s ord))
    (hl : ops.length ≤ 9223372036854775807) (hv : ∀ o ∈ ops, o.2.length ≤ 9223372036854775807) (hid : ∀ o ∈ ops, U64 o.1) (ho : ord.length ≤ 9223372036854775807) (h8 : ∀ x ∈ ord, 0 ≤ x ∧ x < 256) :
    Calls Try.prog 8 #[.int .i64 dim, .slice A ops.length c, .slice B ord.length d] w fun e w' => e = .returned (.bool true) ∧ Below w.heap.size w w' := by
  go_enter Try.func8, Try.ntmps8
  go_wp2_with fail
  refine (awake_any _).mono ?_
  rintro e w1 ⟨rfl, hb1⟩
  have o1 := h.below hb1
  go_wp2_with fail
  refine (few_any S A c 20 ops _ o1 hl hv (by decide)).mono ?_
  rintro e w2 ⟨va, rfl, hoa, hb2⟩
  have o2 := o1.below hb2
  go_wp2_with fail
  refine (few_any S A c 20 ops _ o2 hl hv (by decide)).mono ?_
  rintro e w3 ⟨vb, rfl, hob, hb3⟩
  have hb12 : Below w.heap.size w w2 := hb1.trans (hb2.mono hb1.size)
  have hb13 : Below w.heap.size w w3 := hb12.trans (hb3.mono hb12.size)
  have hpl : ((ops.take 20).map cutOp).length ≤ 20 := by rw [List.length_map, List.length_take]; omega
  have hpv : ∀ o ∈ (ops.take 20).map cutOp, o.2.length ≤ 1000 := fun o ho => by
    obtain ⟨x, _, rfl⟩ := List.mem_map.1 ho
    show (x.2.take 10).length ≤ 1000
    rw [List.length_take]; omega
  have hpi : ∀ o ∈ (ops.take 20).map cutOp, U64 o.1 := fun o ho => by
    obtain ⟨x, hx, rfl⟩ := List.mem_map.1 ho
    exact hid x (List.mem_of_mem_take hx)
  generalize (ops.take 20).map cutOp = os at *
  obtain ⟨Aa, ca, rfl, hca, oa⟩ := hoa.ops
  obtain ⟨Ab, cb, hvb, hcb, ob⟩ := hob.ops
  have hsz2 : w.heap.size ≤ w2.heap.size := hb12.size
  have hsz3 : w2.heap.size ≤ w3.heap.size := hb3.size
  rw [hvb] at hob ⊢
  clear h o1 o2 hv hid hl hb1 hb2 hoa hb12 hvb ob
  have HPV := Lib.hid hpv
  have HPI := Lib.hid hpi
  have H8 := Lib.hid h8
  clear hpv hpi h8
  go_wp2_with fail
  go_loopw [9, 10, 19] (fun _ _ i wr => ∃ k : Nat, k ≤ os.length ∧ i = .int .i64 k ∧ (∃ os', Own2 wr w2.heap.size (.slice Ab os.length cb) os' ∧ os'.Perm os) ∧ Below w2.heap.size w3 wr) (fun _ _ i _ => os.length - (intOf i).toNat)
  case atStart => exact ⟨0, Nat.zero_le _, rfl, ⟨os, hob, List.Perm.refl _⟩, Below.refl _ _⟩
  case round =>
    obtain ⟨k, hk, rfl, ⟨os', hown, hperm⟩, hbl⟩ := hrel
    have hle := hperm.length_eq
    by_cases hlt : k < os.length
    · have i1 : (k : Int) < (os.length : Int) := by omega
      have hpos : (os.length : Int) ≠ 0 := by omega
      have HP := Lib.hid hperm
      have HL := Lib.hid hle
      clear hperm hle
      by_cases hko : k < ord.length
      · have i2 : (k : Int) < (ord.length : Int) := by omega
        obtain ⟨bd, rfl, _, _, hcB⟩ := (h2.below (hb13.trans (hbl.mono hsz2))) k (by rw [u8s_len]; exact hko)
        rw [u8s_at hko] at hcB
        obtain ⟨x0, x1⟩ := H8.out _ (List.getElem_mem hko)
        generalize ord[k] = x at *
        obtain ⟨m, hm⟩ : ∃ m : Nat, x % (os.length : Int) = m := ⟨(x % (os.length : Int)).toNat, by have := Int.emod_nonneg x hpos; omega⟩
        have hml : m < os.length := by have := Int.emod_lt_of_pos x (show (0 : Int) < os.length by omega); omega
        have hm' : x.tmod (os.length : Int) = m := by rw [Int.tmod_eq_emod_of_nonneg x0]; exact hm
        have i3 : (m : Int) < (os.length : Int) := by omega
        obtain ⟨cs, hcs, hce⟩ := hown
        obtain ⟨g, cap, cur, hv, hg, hh, hnc, hcm, hcur, htk⟩ := (hcs.2).resolve_left (by intro hh; have := hh.2; have := HL.out; omega)
        obtain rfl : Ab = some ⟨g, 0, none⟩ := by injection hv
        have hk2 : k < os'.length := by have := HL.out; omega
        have hm2 : m < os'.length := by have := HL.out; omega
        obtain ⟨y0, Y, cy, y1, hcy, hry⟩ := hce.2 k hk2
        obtain ⟨z0, Z, cz, z1, hcz, hrz⟩ := hce.2 m hm2
        obtain ⟨⟨ik, vk⟩, hek⟩ : ∃ p, os'[k] = p := ⟨_, rfl⟩
        obtain ⟨⟨im, vm⟩, hem⟩ : ∃ p, os'[m] = p := ⟨_, rfl⟩
        simp only [hek] at y0 y1 hcy hry
        simp only [hem] at z0 z1 hcz hrz
        have HPP := Lib.hid (show ((os'.set k (im, vm)).set m (ik, vk)).Perm os by rw [← hek, ← hem]; exact (List.set_set_perm hk2 hm2).trans HP.out)
        have HNL := Lib.hid (show ((os'.set k (im, vm)).set m (ik, vk)).length = os'.length by simp)
        clear hek hem
        have c0 := hcs.cells (g := g) rfl _ _ y0
        have c1 := hcs.cells (g := g) rfl _ _ y1
        have d0 := hcs.cells (g := g) rfl _ _ z0
        have d1 := hcs.cells (g := g) rfl _ _ z1
        rw [add_zero_lit] at c0 c1 d0 d1
        have f0 : ∀ n, wr.frozen? ⟨g, n, none⟩ = false := fun n => by simp [World.frozen?, hh]
        have hz : ((os.length : Int) == 0) = false := by rw [beq_eq_false_iff_ne]; exact hpos
        clear hm hpos
        clear y0 y1 z0 z1 hh htk hcur hcm hnc hv
        obtain ⟨q1, hq1⟩ := cell_still (p := ⟨g, k * 2, none⟩) (x := .int .u64 im) d0
        obtain ⟨q2, hq2⟩ := cell_still (p := ⟨g, k * 2 + 1, none⟩) (x := .slice Z vm.length cz) hq1
        obtain ⟨q3, hq3⟩ := cell_still (p := ⟨g, k * 2, none⟩) (x := .int .u64 im) d1
        obtain ⟨q4, hq4⟩ := cell_still (p := ⟨g, k * 2 + 1, none⟩) (x := .slice Z vm.length cz) hq3
        have hf := f0 (k * 2)
        have hf1 := f0 (k * 2 + 1)
        have hf2 := f0 (m * 2)
        have hf3 := f0 (m * 2 + 1)
        have j1 : (0 : Int) ≤ (k : Int) := by omega
        have j2 : (0 : Int) ≤ (m : Int) := by omega
        have hO : Own2 ((((wr.setCell ⟨g, k * 2, none⟩ (.int .u64 im)).setCell ⟨g, k * 2 + 1, none⟩ (.slice Z vm.length cz)).setCell ⟨g, m * 2, none⟩ (.int .u64 ik)).setCell ⟨g, m * 2 + 1, none⟩ (.slice Y vk.length cy)) w2.heap.size
            (.slice (some ⟨g, 0, none⟩) os.length cb) ((os'.set k (im, vm)).set m (ik, vk)) := by
          refine ⟨_, by rw [HNL.out]; exact own_set (own_set (own_set (own_set hcs rfl) rfl) rfl) rfl, ?_⟩
          have hc2 := (hce.set k hk2 im vm Z cz hcz hrz).set m (by rw [List.length_set]; exact hm2) ik vk Y cy hcy hry
          refine hc2.kept (by simp [World.setCell]) fun q hq sq => ⟨?_, sq⟩
          have hqg : q ≠ g := fun e => sq.2 (by rw [e]; rfl)
          rw [Below.heap_setCell _ _ _ _ hqg, Below.heap_setCell _ _ _ _ hqg, Below.heap_setCell _ _ _ _ hqg, Below.heap_setCell _ _ _ _ hqg]
        have hbN : Below w2.heap.size w3 ((((wr.setCell ⟨g, k * 2, none⟩ (.int .u64 im)).setCell ⟨g, k * 2 + 1, none⟩ (.slice Z vm.length cz)).setCell ⟨g, m * 2, none⟩ (.int .u64 ik)).setCell ⟨g, m * 2 + 1, none⟩ (.slice Y vk.length cy)) :=
          (((hbl.setCell hg _).setCell hg _).setCell hg _).setCell hg _
        have HO := Lib.hid hO
        have HBN := Lib.hid hbN
        clear f0 hq1 hq3 hO hbN hce hry hrz hcs hob
        go_wp2_with fail
        go_region
        go_wp2_with fail
        go_roundw
        case rel => exact ⟨k + 1, by omega, by go_num, ⟨_, HO.out.drew, HPP.out⟩, HBN.out.drew⟩
        case measure => simp [intOf]; omega
      · have i2 : ¬ (k : Int) < (ord.length : Int) := by omega
        go_wp2_with fail
        go_roundw
        case rel => exact ⟨k + 1, by omega, by go_num, ⟨_, hown, HP.out⟩, hbl⟩
        case measure => simp [intOf]; omega
    · have i1 : ¬ (k : Int) < (os.length : Int) := by omega
      have HE := Lib.hid (chk_perm (dim := dim) hperm)
      have hb2r : Below w2.heap.size w2 wr := hb3.trans hbl
      have HA := Lib.hid (check_any _ dim Aa ca os wr (oa.below hb2r) (by omega) HPV.out HPI.out)
      obtain ⟨Ac, cc, hvc, _, oc⟩ := hown.ops
      obtain ⟨rfl, -, rfl⟩ : Ab = Ac ∧ os.length = os'.length ∧ cb = cc := by injection hvc with a1 a2 a3; exact ⟨a1, a2, a3⟩
      have HB : Hid (∀ W, Below wr.heap.size wr W → Calls Try.prog 23 #[.int .i64 dim, .slice Ab os.length cb] W fun e w' => e = .returned (.int .i64 (chk dim os)) ∧ Below W.heap.size W w') := fun W hW => by
        rw [← HE.out, ← hle]
        exact check_any _ dim Ab cb os' W (oc.below hW) (by omega) (fun o ho => HPV.out o (hperm.mem_iff.1 ho)) (fun o ho => HPI.out o (hperm.mem_iff.1 ho))
      have hbF : Below w.heap.size w wr := hb13.trans (hbl.mono hsz2)
      clear HE oc hown hperm hle oa h2 hob hvc
      generalize chk dim os = ch at *
      go_wp2_with fail
      refine (HA.out).mono ?_
      rintro e w5 ⟨rfl, hb5⟩
      go_wp2_with fail
      with_reducible refine (HB.out _ hb5).mono ?_
      rintro e w6 ⟨rfl, hb6⟩
      go_wp2_with fail
      go_ret
      exact ⟨by simp, (hbF.trans (hb5.mono hbF.size)).trans (hb6.mono (Nat.le_trans hbF.size hb5.size))⟩

end Go.Proofs.Ytnpbfacmjmgfaaa
