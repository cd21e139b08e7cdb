/-
  The contract of ref01's Same: two slices of bytes are alike.
-/
import Derived.Test.YtlambcmikfihgaaReads
import Derived.Laws.BytesArg
namespace Go.Proofs.Ytlambcmikfihgaa
open Go.RowKit

def strOf (l : List Int) : ByteArray := ⟨(l.map fun (n : Int) => UInt8.ofNat n.toNat).toArray⟩

theorem run_str {S : Nat → Prop} {A : Option Addr} {l : List Int} {w : World} (c : Nat) (h : Row S w A (u8s l)) :
    (convert 25 9 (.slice A l.length c)).run Try.prog w = .ok (.string (strOf l)) w := by
  rw [run_convert_bytes_string w 25 9 5 A l.length c Try.underlying25 Try.underlying5 Try.underlying9]
  rcases A with _ | a
  · have hl : l = [] := by
      rcases Nat.eq_zero_or_pos l.length with h0 | h0
      · exact List.eq_nil_of_length_eq_zero h0
      · obtain ⟨ad, e, _⟩ := h 0 (by rw [u8s_len]; exact h0)
        cases e
    subst hl
    simp [Conv.bytesToString, strOf]
    rfl
  · have hl := run_loadCells_list (P := Try.prog) w a (l.map (Value.int .u8)) (fun j v hj => by
      have hj' : j < (u8s l).length := (List.getElem?_eq_some_iff.1 hj).1
      obtain ⟨ad, e, _, _, hc⟩ := h j hj'
      injection e with e
      subst e
      rw [hc]; exact hj)
    simp only [List.length_map] at hl
    rw [run_bytesToString w a l.length c l hl, foldl_push_bytes]
    simp [strOf, ByteArray.empty, ByteArray.emptyWithCapacity]
    rfl

theorem str_beq : ∀ (l m : List Int), Bytes8 l → Bytes8 m → ((strOf l).toList == (strOf m).toList) = (l == m) := by
  have h : ∀ l, (strOf l).toList = l.map fun (n : Int) => UInt8.ofNat n.toNat := fun l => by
    rw [ByteArray.toList_eq]
    simp [strOf]
  intro l m hl hm
  rw [h, h, Bool.eq_iff_iff, beq_iff_eq, beq_iff_eq]
  constructor
  · intro e
    induction l generalizing m with
    | nil => cases m with
      | nil => rfl
      | cons y m => simp at e
    | cons x l ih => cases m with
      | nil => simp at e
      | cons y m =>
        simp only [List.map_cons, List.cons.injEq] at e
        have hx := hl x (List.mem_cons_self ..)
        have hy := hm y (List.mem_cons_self ..)
        have e1 : x = y := by
          have := congrArg UInt8.toNat e.1
          simp only [UInt8.toNat_ofNat'] at this
          omega
        rw [e1, ih m (fun z hz => hl z (List.mem_cons_of_mem _ hz)) (fun z hz => hm z (List.mem_cons_of_mem _ hz)) e.2]
  · rintro rfl; rfl

set_option maxRecDepth 100000 in
set_option maxHeartbeats 400000 in
theorem same_any (S T : Nat → Prop) (A B : Option Addr) (c d : Nat) (l m : List Int) (w : World) (h1 : Row S w A (u8s l)) (h2 : Row T w B (u8s m)) (h8 : Bytes8 l) (k8 : Bytes8 m) :
    Calls Try.prog 13 #[.slice A l.length c, .slice B m.length d] w fun e w' => e = .returned (.bool (l == m)) ∧ w = w' := by
  have r1 := run_str c h1
  have r2 := run_str d h2
  have HE := Lib.hid (str_beq l m h8 k8)
  go_enter Try.func13, Try.ntmps13
  go_wp2
  go_ret
  exact ⟨by rw [← HE.out]; rfl, rfl⟩

end Go.Proofs.Ytlambcmikfihgaa
