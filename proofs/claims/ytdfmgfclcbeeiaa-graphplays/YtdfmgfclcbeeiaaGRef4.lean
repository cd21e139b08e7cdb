/-
  The document's graph: Near and Reach.
-/
import Derived.Test.YtdfmgfclcbeeiaaGRef2
import Derived.Deep.QuietTactic
import Derived.BigQuiet
namespace Go.Proofs.Ytdfmgfclcbeeiaa
open Go.RowKit Go.Maps Go.Sort
set_option linter.unusedSimpArgs false
set_option linter.unusedVariables false

/-- a new row of numbers -/
def GivesL (w : World) (l : List Int) (e : Ending) (w' : World) : Prop :=
  ∃ A c, e = .returned (.slice A l.length c) ∧ w'.ownsRow w.heap.size 31 1 (.slice A l.length c) l.length (us l) ∧ Below w.heap.size w w'

/-- where a loop that makes a row stands -/
def Mks (w : World) (l : List Int) (v : Value) (wr : World) : Prop := wr.ownsRow w.heap.size 31 1 v l.length (us l) ∧ Below w.heap.size w wr
theorem Mks.gives {w wr : World} {l : List Int} {v : Value} (h : Mks w l v wr) : GivesL w l (.returned v) wr := by
  obtain ⟨A, c, rfl, _⟩ := own_form h.1
  exact ⟨A, c, rfl, h.1, h.2⟩
theorem Mks.below {w wr w2 : World} {l : List Int} {v : Value} (h : Mks w l v wr) (hb : Below wr.heap.size wr w2) : Mks w l v w2 := ⟨own_below h.1 hb, h.2.trans (hb.mono h.2.size)⟩
theorem Mks.put {w wr w2 : World} {l l' : List Int} {v v' : Value} {n : Nat} (h : Mks w l v wr) (ho : w2.ownsRow wr.heap.size 31 1 v' l'.length (us l')) (hb : Below wr.heap.size wr w2) : Mks w l' v' w2 := ⟨own_lower ho h.2.size, h.2.trans (hb.mono h.2.size)⟩

theorem take_succ_edge {E : List Edg} {k : Nat} (h : k < E.length) : E.take (k + 1) = E.take k ++ [E[k]] := List.take_succ_eq_append_getElem h
theorem nearL_len (k : Int) (soft : Bool) (E : List Edg) : (nearL E k soft).length ≤ E.length := by
  refine snoc_ind (P := fun E => (nearL E k soft).length ≤ E.length) (by simp [nearL]) (fun E e ih => ?_) E
  rw [nearL_snoc, List.length_append]
  unfold nearS
  split
  · simp; omega
  · split
    · rw [putL_len]; simp; omega
    · split
      · rw [putL_len]; simp; omega
      · simp; omega

section
variable {w w' : World} {B x : Nat} {vN vE : Value} {N : List Int} {E : List Edg} {y a b : Int}

set_option maxRecDepth 100000 in
set_option maxHeartbeats 4000000 in
theorem rnear_any (h : RG w B x vN vE N E) (hE : E.length ≤ 1000000) (sft : Bool) :
    Calls Try.prog 15 #[.pointer (some ⟨x, 0, none⟩), .int .u64 y, .bool sft] w (GivesL w (nearL E y sft)) := by
  have c1 := h.cell1
  obtain ⟨A, c, rfl, hnc, _, hrow⟩ := Edges.of_own h.edges
  have H1 := Lib.hid hrow
  obtain ⟨n, hn⟩ : ∃ n, n = E.length := ⟨_, rfl⟩
  rw [← hn] at c1 hnc hE
  have HN : Hid (E.length = n) := hn.symm
  clear h hrow hn
  go_enter Try.func15, Try.ntmps15
  go_wp2_with fail
  go_loopw [7, 9, 17] (fun v _ i wr => ∃ k : Nat, k ≤ n ∧ i = .int .i64 k ∧ Mks w (nearL (E.take k) y sft) v wr) (fun _ _ i _ => n - (intOf i).toNat)
  case atStart => exact ⟨0, Nat.zero_le _, rfl, ⟨rfl, .inl ⟨rfl, rfl⟩⟩, Below.refl _ _⟩
  case round =>
    obtain ⟨k, hk, rfl, hM⟩ := hrel
    by_cases hlt : k < n
    · have hlt' : k < E.length := by rw [HN.out]; exact hlt
      obtain ⟨ad, rfl, _, q0, q1, q2⟩ := (H1.out.below hM.2) k hlt'
      have i1 : (k : Int) < (n : Int) := by omega
      have HS : Hid (nearL (E.take (k + 1)) y sft = nearS y sft (nearL (E.take k) y sft) (E[k]'hlt')) := by show _ = _; rw [take_succ_edge hlt', nearL_snoc]
      have hlen : (nearL (E.take k) y sft).length ≤ 1000000 := Nat.le_trans (nearL_len _ _ _) (by rw [List.length_take]; omega)
      obtain ⟨e, he⟩ : ∃ e, e = E[k]'hlt' := ⟨_, rfl⟩
      rw [← he] at q0 q1 q2 HS
      obtain ⟨l, hl⟩ : ∃ l, l = nearL (E.take k) y sft := ⟨_, rfl⟩
      rw [← hl] at hM HS hlen
      have hM2 := hM.below (w2 := wr.alloc (.cells #[.int .u64 e.1, .int .u64 e.2.1, .bool e.2.2] 50)) ((Below.refl _ _).alloc (Nat.le_refl _) _)
      have HM2 := Lib.hid hM2
      obtain ⟨A7, c7, rfl, hnc7, hrow7⟩ := Row.of_own hM2.1
      have HPU : Hid (∀ z, Calls Try.prog 28 #[.slice A7 l.length c7, .int .u64 z] (wr.alloc (.cells #[.int .u64 e.1, .int .u64 e.2.1, .bool e.2.2] 50)) (PutG (wr.alloc (.cells #[.int .u64 e.1, .int .u64 e.2.1, .bool e.2.2] 50)) l.length (putL l z))) := fun z => put_any A7 c7 l.length l z _ rfl hrow7 hnc7 (by omega)
      have HPM : Hid (∀ z A' c' w2, w2.ownsRow (wr.alloc (.cells #[.int .u64 e.1, .int .u64 e.2.1, .bool e.2.2] 50)).heap.size 31 1 (.slice A' (l.length + 1) c') (l.length + 1) (us (putL l z)) → Below (wr.alloc (.cells #[.int .u64 e.1, .int .u64 e.2.1, .bool e.2.2] 50)).heap.size (wr.alloc (.cells #[.int .u64 e.1, .int .u64 e.2.1, .bool e.2.2] 50)) w2 → Mks w (putL l z) (.slice A' (l.length + 1) c') w2) := fun z A' c' w2 ho hb => HM2.out.put (n := 0) (by rw [putL_len]; exact ho) hb
      have hm2 : Hid (wr.alloc (.cells #[.int .u64 e.1, .int .u64 e.2.1, .bool e.2.2] 50) = wr.alloc (.cells #[.int .u64 e.1, .int .u64 e.2.1, .bool e.2.2] 50)) := rfl
      unfold nearS at HS
      clear he hl hM hM2 hlt' hrow7
      obtain ⟨z0, z1, z2⟩ := e
      simp only at q0 q1 q2 HS HPU HPM HM2
      cases sft <;> cases z2
      all_goals simp only [Bool.and_true, Bool.and_false, Bool.true_and, Bool.false_and, if_true, if_false, Bool.false_eq_true] at HS
      all_goals first
        | (by_cases h0 : z0 = y
           · subst h0
             rw [if_pos rfl] at HS
             have HP := Lib.hid (HPU.out z1)
             go_wp2_with fail
             refine (HP.out).mono ?_
             rintro e w2 ⟨A', c', rfl, ho, hb⟩
             have HQ := Lib.hid (HPM.out _ _ _ _ ho hb)
             clear ho hb HPM HPU
             go_wp2_with fail
             go_roundw
             case rel => exact ⟨k + 1, by omega, by go_num, by rw [HS.out]; exact HQ.out⟩
             case measure => simp [intOf]; omega
           · rw [if_neg h0] at HS
             have e0 : (z0 == y) = false := by simp [h0]
             by_cases h1 : z1 = y
             · subst h1
               rw [if_pos rfl] at HS
               have HP := Lib.hid (HPU.out z0)
               go_wp2_with fail
               refine (HP.out).mono ?_
               rintro e w2 ⟨A', c', rfl, ho, hb⟩
               have HQ := Lib.hid (HPM.out _ _ _ _ ho hb)
               clear ho hb HPM HPU
               go_wp2_with fail
               go_roundw
               case rel => exact ⟨k + 1, by omega, by go_num, by rw [HS.out]; exact HQ.out⟩
               case measure => simp [intOf]; omega
             · rw [if_neg h1] at HS
               have e1 : (z1 == y) = false := by simp [h1]
               go_wp2_with fail
               go_roundw
               case rel => exact ⟨k + 1, by omega, by go_num, by rw [HS.out]; exact HM2.out⟩
               case measure => simp [intOf]; omega)
        | (go_wp2_with fail
           go_roundw
           case rel => exact ⟨k + 1, by omega, by go_num, by rw [HS.out]; exact HM2.out⟩
           case measure => simp [intOf]; omega)
    · have i1 : ¬ (k : Int) < (n : Int) := by omega
      rw [List.take_of_length_le (by rw [HN.out]; omega)] at hM
      have HG := Lib.hid hM.gives
      clear hM
      go_wp2_with fail
      go_ret
      exact HG.out
end

end Go.Proofs.Ytdfmgfclcbeeiaa
