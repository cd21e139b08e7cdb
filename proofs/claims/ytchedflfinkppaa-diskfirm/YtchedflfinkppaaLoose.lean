/-
  The contract of Loose.
-/
import Derived.Test.YtchedflfinkppaaDsk2
namespace Go.Proofs.Ytchedflfinkppaa
open Go.RowKit Go.Maps

section
variable (B b mb n : Nat) (D : DataW Unit) (p : Pw) (room : Nat) (E : List Ent) (s : ByteArray)

set_option maxHeartbeats 400000 in
theorem looseD_none (w : World) (h : Dsk w B b mb n D p room E) (hn : has D (.string s.data.toList) = false) (hs : s.size ≤ maxLen) :
    Calls Try.prog 23 #[.pointer (some ⟨b, 0, none⟩), .string s] w fun e w' => e = .returned (.int .i64 0) ∧ w = w' := by
  obtain ⟨_, _, _, _, c4⟩ := h.blk.cells
  have hrun := look_miss h.map hs hn
  clear h hn
  go_enter Try.func23, Try.ntmps23
  go_wp2_with fail
  go_ret
  exact ⟨rfl, rfl⟩

set_option maxRecDepth 100000 in
set_option maxHeartbeats 1000000 in
theorem looseD_some (e0 : Ent) (w : World) (h : Dsk w B b mb n D p room E) (he : e0 ∈ E) (hn : e0.name = s.data.toList) (hs : s.size ≤ maxLen) :
    Calls Try.prog 23 #[.pointer (some ⟨b, 0, none⟩), .string s] w fun e w' => e = .returned (.int .i64 ((e0.bs.length - e0.firm : Nat) : Int)) ∧ ∃ n, w' = w.drewN n := by
  obtain ⟨_, _, _, _, c4⟩ := h.blk.cells
  have hl := h.leads e0 he
  rw [hn] at hl
  have hrun := look_hit h.map hs hl
  have HL := Lib.hid (loose_any B e0.blk e0.firm e0.val e0.bs w (h.file e0 he))
  clear h he hn hl
  go_enter Try.func23, Try.ntmps23
  go_wp2_with fail
  refine (HL.out).mono ?_
  rintro e w' ⟨rfl, k, rfl⟩
  go_wp2_with fail
  go_ret
  exact ⟨rfl, _, rfl⟩

end

end Go.Proofs.Ytchedflfinkppaa
