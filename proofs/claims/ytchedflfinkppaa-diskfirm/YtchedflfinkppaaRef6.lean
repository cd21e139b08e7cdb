/-
  The contract of ref05's Drop.
-/
import Derived.Test.YtchedflfinkppaaRef5
namespace Go.Proofs.Ytchedflfinkppaa
open Go.RowKit Go.Maps

/-- one file gone; so many -/
def rdrop1 (L : List RF) (s : ByteArray) : List RF := match L.findIdx? (fun f => decide (f.name = s)) with | some k => L.take k ++ L.drop (k + 1) | none => L
def rdropL (L : List RF) (ns : List ByteArray) : List RF := ns.foldl rdrop1 L
theorem rdropL_snoc (L : List RF) (ns : List ByteArray) (s : ByteArray) : rdropL L (ns ++ [s]) = rdrop1 (rdropL L ns) s := by unfold rdropL; rw [List.foldl_append]; rfl
theorem rdrop1_len (L : List RF) (s : ByteArray) : (rdrop1 L s).length ≤ L.length := by
  unfold rdrop1
  split
  · rw [List.length_append, List.length_take, List.length_drop]; omega
  · exact Nat.le_refl _
theorem rdropL_len : ∀ (ns : List ByteArray) (L : List RF), (rdropL L ns).length ≤ L.length
  | [], L => Nat.le_refl _
  | s :: ns, L => Nat.le_trans (rdropL_len ns (rdrop1 L s)) (rdrop1_len L s)
theorem findR_low (L : List RF) (s : ByteArray) : findR L s = -1 ∨ 0 ≤ findR L s := by
  unfold findR
  split
  · exact .inr (by omega)
  · exact .inl rfl
theorem findR_idx {L : List RF} {s : ByteArray} (h : findR L s = -1) : L.findIdx? (fun f => decide (f.name = s)) = none := by
  unfold findR at h
  split at h
  · omega
  · assumption

def rdropE (p : Pw) (L : List RF) (ns : List ByteArray) : Int := if p.spent.down = true then 9 else if allR L ns = true then 0 else 6
def RDrop (w : World) (B : BK) (x : Nat) (p : Pw) (room : Nat) (v : Value) (L : List RF) (ns : List ByteArray) (e : Ending) (w' : World) : Prop :=
  e = .returned (.int .i64 (rdropE p L ns)) ∧ ∃ v', RD w' B x p.spent room v' (if rdropE p L ns = 0 then rdropL L ns else L) ∧ AddC x w w' v v'

section
variable (w : World) (B : BK) (x room : Nat) (p : Pw) (v : Value) (L : List RF) (s : ByteArray)

/-- remove, whether it is there or not -/
theorem rremove_any (h : RD w B x p room v L) (hl : L.length ≤ 1000) :
    Calls Try.prog 61 #[.pointer (some ⟨x, 0, none⟩), .string s] w fun e w' => e = .returned (.tuple #[]) ∧ ∃ v', RD w' B x p room v' (rdrop1 L s) ∧ AddC x w w' v v' := by
  rcases findR_low L s with hn | hn
  · refine (rremove_none w B x room p v L s h hl hn).mono ?_
    rintro e w' ⟨e1, hb⟩
    refine ⟨e1, v, ?_, AddC.below hb v⟩
    unfold rdrop1
    rw [findR_idx hn]
    exact h.below hb
  · obtain ⟨k, hk, hf, hi⟩ := findR_some hn
    refine (rremove_some w B x room p v L s k hk h hl hf).mono ?_
    rintro e w' ⟨e1, v', R, C⟩
    refine ⟨e1, v', ?_, C⟩
    unfold rdrop1
    rw [hi]
    exact R

set_option maxRecDepth 100000 in
set_option maxHeartbeats 1000000 in
theorem rdrop_any (S : Nat → Prop) (A : Option Addr) (c : Nat) (ns : List ByteArray) (h : RD w B x p room v L) (hp : p.ok) (hl : L.length ≤ 1000) (hr : Row S w A (strs ns)) (hS : ∀ g, S g → g ≠ x ∧ some g ≠ v.ownBlock) (hn : ns.length ≤ 1000) :
    Calls Try.prog 36 #[.pointer (some ⟨x, 0, none⟩), .slice A ns.length c] w fun e w' => RDrop w B x p room v L ns e w' := by
  have HB := Lib.hid (begin_any w B x room p v L h hp)
  have HR := Lib.hid hr
  have HS := Lib.hid hS
  have HKEEP : Hid (∀ W v', AddC x w W v v' → Row S W A (strs ns)) := fun W v' hC => HR.out.kept hC.size fun g hg s => hC.block g hg (HS.out g s).1 (HS.out g s).2
  clear h hr hS
  cases hd : p.spent.down with
  | true =>
    have he : p.err = 9 := by unfold Pw.err; rw [hd]; rfl
    have HE : Hid (rdropE p L ns = 9) := by show _ = _; unfold rdropE; rw [if_pos hd]
    rw [he] at HB
    clear hd he
    go_enter Try.func36, Try.ntmps36
    go_wp2_with fail
    refine (HB.out).mono ?_
    rintro e w1 ⟨rfl, R1, O1⟩
    have HF : Hid (RDrop w B x p room v L ns (.returned (.int .i64 9)) w1) := ⟨by rw [HE.out], v, by rw [HE.out]; exact R1, O1.addC v⟩
    clear R1 O1
    go_wp2_with fail
    go_ret
    exact HF.out
  | false =>
    have he : p.err = 0 := by unfold Pw.err; rw [hd]; rfl
    have HE : Hid (rdropE p L ns = if allR L ns = true then 0 else 6) := by show _ = _; unfold rdropE; rw [if_neg (by rw [hd]; decide)]
    rw [he] at HB
    clear hd he
    go_enter Try.func36, Try.ntmps36
    go_wp2_with fail
    refine (HB.out).mono ?_
    rintro e w1 ⟨rfl, R1, O1⟩
    have HC1 := Lib.hid (O1.addC v)
    have HAL := Lib.hid (rall_any w1 B x room p.spent v L S A c ns R1 hl (HKEEP.out w1 v HC1.out) hn)
    have HR1 := Lib.hid R1
    clear R1 O1 HB
    cases ha : allR L ns with
    | false =>
      rw [ha] at HAL HE
      clear ha
      go_wp2_with fail
      refine (HAL.out).mono ?_
      rintro e w2 ⟨rfl, hb2⟩
      have HF : Hid (RDrop w B x p room v L ns (.returned (.int .i64 6)) w2) := ⟨by rw [HE.out]; rfl, v, by rw [HE.out]; exact HR1.out.below hb2, HC1.out.trans (AddC.below hb2 v)⟩
      clear hb2
      go_wp2_with fail
      go_ret
      exact HF.out
    | true =>
      rw [ha] at HAL HE
      have HALL : Hid (∀ s ∈ ns, 0 ≤ findR L s) := fun s hs => by
        unfold allR at ha
        simpa using List.all_eq_true.1 ha s hs
      clear ha
      go_wp2_with fail
      refine (HAL.out).mono ?_
      rintro e w2 ⟨rfl, hb2⟩
      have HR2 := Lib.hid (HR1.out.below hb2)
      have HC2 := Lib.hid (HC1.out.trans (AddC.below hb2 v))
      clear hb2 HAL HR1 HC1
      go_wp2_with fail
      go_loopw [7, 19] (fun _ i wr => ∃ (k : Nat) (v' : Value), k ≤ ns.length ∧ i = .int .i64 k ∧ RD wr B x p.spent room v' (rdropL L (ns.take k)) ∧ AddC x w wr v v') (fun _ i _ => ns.length - (intOf i).toNat)
      case atStart => exact ⟨0, v, Nat.zero_le _, rfl, HR2.out, HC2.out⟩
      case round =>
        obtain ⟨k, v', hk, rfl, R, C⟩ := hrel
        by_cases hlt : k < ns.length
        · obtain ⟨ad, rfl, _, _, hcs⟩ := (HKEEP.out wr v' C) k (by rw [strs_len]; exact hlt)
          rw [strs_at hlt] at hcs
          have i1 : (k : Int) < (ns.length : Int) := by omega
          have HRM : Hid (Calls Try.prog 61 #[.pointer (some ⟨x, 0, none⟩), .string ns[k]] wr fun e w' => e = .returned (.tuple #[]) ∧ ∃ v2, RD w' B x p.spent room v2 (rdropL L (ns.take (k + 1))) ∧ AddC x w w' v v2) := by
            refine (rremove_any wr B x room p.spent v' _ ns[k] R (Nat.le_trans (rdropL_len _ _) hl)).mono ?_
            rintro e w' ⟨e1, v2, R2, C2⟩
            exact ⟨e1, v2, by rw [List.take_succ_eq_append_getElem hlt, rdropL_snoc]; exact R2, C.trans C2⟩
          clear R C
          generalize ns[k] = sk at *
          go_wp2_with fail
          refine (HRM.out).mono ?_
          rintro e w5 ⟨rfl, v2, R2, C2⟩
          have HG : Hid (RD w5 B x p.spent room v2 (rdropL L (ns.take (k + 1))) ∧ AddC x w w5 v v2) := ⟨R2, C2⟩
          clear R2 C2
          go_wp2_with fail
          go_roundw
          case rel => exact ⟨k + 1, v2, by omega, by go_num, HG.out.1, HG.out.2⟩
          case measure => simp [intOf]; omega
        · have i1 : ¬ (k : Int) < (ns.length : Int) := by omega
          rw [List.take_of_length_le (by omega)] at R
          have HF : Hid (RDrop w B x p room v L ns (.returned (.int .i64 0)) wr) := ⟨by rw [HE.out]; rfl, v', by rw [HE.out]; exact R, C⟩
          clear R C
          go_wp2_with fail
          go_ret
          exact HF.out
end

end Go.Proofs.Ytchedflfinkppaa
