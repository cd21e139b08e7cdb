/-
  A disk without one of its files.
-/
import Derived.Test.YtchedflfinkppaaTrim
namespace Go.Proofs.Ytchedflfinkppaa
open Go.RowKit Go.Maps

def dropE (E : List Ent) (x : List UInt8) : List Ent := E.filter fun e => decide (e.name ≠ x)
theorem mem_dropE {E : List Ent} {x : List UInt8} {e : Ent} : e ∈ dropE E x ↔ e ∈ E ∧ e.name ≠ x := by simp [dropE]
theorem dropE_sum (E : List Ent) (x : List UInt8) : ((dropE E x).map fun e => e.bs.length).sum ≤ (E.map fun e => e.bs.length).sum := by
  induction E with
  | nil => exact Nat.le_refl _
  | cons e E ih =>
    simp only [dropE, List.filter_cons] at ih ⊢
    split
    · simp only [List.map_cons, List.sum_cons]
      omega
    · simp only [List.map_cons, List.sum_cons]
      omega

section
variable {w w' : World} {B b mb n : Nat} {D : DataW Unit} {p : Pw} {room : Nat} {E : List Ent}

theorem Dsk.drop (h : Dsk w B b mb n D p room E) (x : List UInt8) (hm : w'.ownsMap Try.prog 9 rdP mb n (D.del (.string x))) (ht : w.mapTurned w' mb) : Dsk w' B b mb n (D.del (.string x)) p room (dropE E x) ∧ DskC w w' b mb E (dropE E x) := by
  have hg := ht.grown
  obtain ⟨_, _, hmb, _⟩ := h.map
  refine ⟨⟨(hg.block b (lt_of_block h.blk) (by simpa using h.ne_map.symm)).trans h.blk, h.ok, hm, h.once.filter _, h.apart.filter _, ?_, ?_, ?_, ?_, Nat.le_trans (dropE_sum E x) h.fits, h.most⟩, ⟨hg.os, hg.tape, hg.output, hg.size, fun g hl hn => hg.block g hl (fun e => hn (.inr (.inl (by injection e)))), ?_⟩⟩
  · intro y hy
    by_cases hyx : y = x
    · subst hyx
      rw [has_del_same] at hy
      cases hy
    · rw [has_del_other (by simpa using hyx)] at hy
      obtain ⟨e, he, rfl⟩ := h.all y hy
      exact ⟨e, mem_dropE.2 ⟨he, hyx⟩, rfl⟩
  · intro e he
    obtain ⟨h1, h2⟩ := mem_dropE.1 he
    rw [has_del_other (by simpa using h2)]
    exact h.here e h1
  · intro e he
    obtain ⟨h1, h2⟩ := mem_dropE.1 he
    rw [atKey_del_other (by simpa using h2)]
    exact h.leads e h1
  · intro e he
    obtain ⟨h1, h2⟩ := mem_dropE.1 he
    have hF := h.file e h1
    exact hF.kept hg (fun e' => by injection e' with e'; rw [← e', hF.blk] at hmb; cases hmb) (.inr (hF.offMap hmb))
  · intro g hg'
    rcases hg' with hg' | hg' | ⟨e, he, hg'⟩
    · exact .inl (.inl hg')
    · exact .inl (.inr (.inl hg'))
    · exact .inl (.inr (.inr ⟨e, (mem_dropE.1 he).1, hg'⟩))

end

end Go.Proofs.Ytchedflfinkppaa
