/-
  A disk with a file more, or one in another's place.
-/
import Derived.Test.YtchedflfinkppaaDsk3
namespace Go.Proofs.Ytchedflfinkppaa
open Go.RowKit Go.Maps

section
variable {w w' : World} {B b mb n : Nat} {D : DataW Unit} {p : Pw} {room : Nat} {E : List Ent}

theorem Dsk.put (h : Dsk w B b mb n D p room E) (e0 : Ent) (hm : w'.ownsMap Try.prog 9 rdP mb (n + 1) (D.put (.string e0.name) (.lit (.int .i64 (e0.blk : Int))))) (ht : w.mapTurned w' mb) (hF : Fil w B e0.blk e0.val e0.bs e0.firm) (ha : ∀ e ∈ dropE E e0.name, e0.blk ≠ e.blk ∧ ∀ g, e0.val.ownBlock = some g → e.val.ownBlock ≠ some g) (hs : ((e0 :: dropE E e0.name).map fun e => e.bs.length).sum ≤ room) :
    Dsk w' B b mb (n + 1) (D.put (.string e0.name) (.lit (.int .i64 (e0.blk : Int)))) p room (e0 :: dropE E e0.name) := by
  have hg := ht.grown
  have hIs := h.map.isMap
  obtain ⟨_, _, hmb, _⟩ := h.map
  have hkeep : ∀ {e : Ent}, Fil w B e.blk e.val e.bs e.firm → Fil w' B e.blk e.val e.bs e.firm := fun {e} hF => hF.kept hg (fun e' => by injection e' with e'; rw [← e', hF.blk] at hmb; cases hmb) (.inr (hF.offMap hmb))
  refine ⟨(hg.block b (lt_of_block h.blk) (by simpa using h.ne_map.symm)).trans h.blk, h.ok, hm, List.pairwise_cons.2 ⟨fun e he => (mem_dropE.1 he).2.symm, h.once.filter _⟩, List.pairwise_cons.2 ⟨ha, h.apart.filter _⟩, ?_, ?_, ?_, ?_, hs, h.most⟩
  · intro y hy
    by_cases hyx : y = e0.name
    · exact ⟨e0, List.mem_cons_self, hyx.symm⟩
    · rw [has_put_other (by simpa using hyx)] at hy
      obtain ⟨e, he, rfl⟩ := h.all y hy
      exact ⟨e, List.mem_cons_of_mem _ (mem_dropE.2 ⟨he, hyx⟩), rfl⟩
  · intro e he
    rcases List.mem_cons.1 he with rfl | he
    · exact has_put_same (k := .string e.name) hIs (by trivial) _
    · obtain ⟨h1, h2⟩ := mem_dropE.1 he
      rw [has_put_other (by simpa using h2)]
      exact h.here e h1
  · intro e he
    rcases List.mem_cons.1 he with rfl | he
    · exact atKey_put_same (k := .string e.name) hIs (by trivial) _ _
    · obtain ⟨h1, h2⟩ := mem_dropE.1 he
      rw [atKey_put_other (by simpa using h2)]
      exact h.leads e h1
  · intro e he
    rcases List.mem_cons.1 he with rfl | he
    · exact hkeep hF
    · exact hkeep (h.file e (mem_dropE.1 he).1)

end

end Go.Proofs.Ytchedflfinkppaa
