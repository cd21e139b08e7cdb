/-
  A disk without one of its files.
-/
import Derived.Test.YtchedflfinkppaaTrim
import Derived.Sort.KeysCollected
namespace Go.Proofs.Ytchedflfinkppaa
open Go.RowKit Go.Maps

def dropE (E : List Ent) (x : List UInt8) : List Ent := E.filter fun e => decide (e.name ≠ x)
theorem mem_dropE {E : List Ent} {x : List UInt8} {e : Ent} : e ∈ dropE E x ↔ e ∈ E ∧ e.name ≠ x := by simp [dropE]
theorem dropE_sum (E : List Ent) (x : List UInt8) : ((dropE E x).map fun e => e.bs.length).sum ≤ (E.map fun e => e.bs.length).sum := by
  induction E with
  | nil => exact Nat.le_refl _
  | cons e E ih =>
    simp only [dropE, List.filter_cons] at ih ⊢
    split
    · simp only [List.map_cons, List.sum_cons]
      omega
    · simp only [List.map_cons, List.sum_cons]
      omega

section
variable {w w' : World} {B b mb n : Nat} {D : DataW Unit} {p : Pw} {room : Nat} {E : List Ent}

theorem Dsk.drop (h : Dsk w B b mb n D p room E) (x : List UInt8) (hm : w'.ownsMap Try.prog 9 rdP mb n (D.del (.string x))) (ht : w.mapTurned w' mb) : Dsk w' B b mb n (D.del (.string x)) p room (dropE E x) ∧ DskC w w' b mb E (dropE E x) := by
  have hg := ht.grown
  obtain ⟨_, _, hmb, _⟩ := h.map
  refine ⟨⟨(hg.block b (lt_of_block h.blk) (by simpa using h.ne_map.symm)).trans h.blk, h.ok, hm, h.once.filter _, h.apart.filter _, ?_, ?_, ?_, ?_, Nat.le_trans (dropE_sum E x) h.fits, h.most⟩, ⟨hg.os, hg.tape, hg.output, hg.size, fun g hl hn => hg.block g hl (fun e => hn (.inr (.inl (by injection e)))), ?_⟩⟩
  · intro y hy
    by_cases hyx : y = x
    · subst hyx
      rw [has_del_same] at hy
      cases hy
    · rw [has_del_other (by simpa using hyx)] at hy
      obtain ⟨e, he, rfl⟩ := h.all y hy
      exact ⟨e, mem_dropE.2 ⟨he, hyx⟩, rfl⟩
  · intro e he
    obtain ⟨h1, h2⟩ := mem_dropE.1 he
    rw [has_del_other (by simpa using h2)]
    exact h.here e h1
  · intro e he
    obtain ⟨h1, h2⟩ := mem_dropE.1 he
    rw [atKey_del_other (by simpa using h2)]
    exact h.leads e h1
  · intro e he
    obtain ⟨h1, h2⟩ := mem_dropE.1 he
    have hF := h.file e h1
    exact hF.kept hg (fun e' => by injection e' with e'; rw [← e', hF.blk] at hmb; cases hmb) (.inr (hF.offMap hmb))
  · intro g hg'
    rcases hg' with hg' | hg' | ⟨e, he, hg'⟩
    · exact .inl (.inl hg')
    · exact .inl (.inr (.inl hg'))
    · exact .inl (.inr (.inr ⟨e, (mem_dropE.1 he).1, hg'⟩))

end

end Go.Proofs.Ytchedflfinkppaa

/-
  A disk with a file more, or one in another's place.
-/
namespace Go.Proofs.Ytchedflfinkppaa
open Go.RowKit Go.Maps

section
variable {w w' : World} {B b mb n : Nat} {D : DataW Unit} {p : Pw} {room : Nat} {E : List Ent}

theorem Dsk.put (h : Dsk w B b mb n D p room E) (e0 : Ent) (hm : w'.ownsMap Try.prog 9 rdP mb (n + 1) (D.put (.string e0.name) (.lit (.int .i64 (e0.blk : Int))))) (ht : w.mapTurned w' mb) (hF : Fil w B e0.blk e0.val e0.bs e0.firm) (ha : ∀ e ∈ dropE E e0.name, e0.blk ≠ e.blk ∧ ∀ g, e0.val.ownBlock = some g → e.val.ownBlock ≠ some g) (hs : ((e0 :: dropE E e0.name).map fun e => e.bs.length).sum ≤ room) :
    Dsk w' B b mb (n + 1) (D.put (.string e0.name) (.lit (.int .i64 (e0.blk : Int)))) p room (e0 :: dropE E e0.name) := by
  have hg := ht.grown
  have hIs := h.map.isMap
  obtain ⟨_, _, hmb, _⟩ := h.map
  have hkeep : ∀ {e : Ent}, Fil w B e.blk e.val e.bs e.firm → Fil w' B e.blk e.val e.bs e.firm := fun {e} hF => hF.kept hg (fun e' => by injection e' with e'; rw [← e', hF.blk] at hmb; cases hmb) (.inr (hF.offMap hmb))
  refine ⟨(hg.block b (lt_of_block h.blk) (by simpa using h.ne_map.symm)).trans h.blk, h.ok, hm, List.pairwise_cons.2 ⟨fun e he => (mem_dropE.1 he).2.symm, h.once.filter _⟩, List.pairwise_cons.2 ⟨ha, h.apart.filter _⟩, ?_, ?_, ?_, ?_, hs, h.most⟩
  · intro y hy
    by_cases hyx : y = e0.name
    · exact ⟨e0, List.mem_cons_self, hyx.symm⟩
    · rw [has_put_other (by simpa using hyx)] at hy
      obtain ⟨e, he, rfl⟩ := h.all y hy
      exact ⟨e, List.mem_cons_of_mem _ (mem_dropE.2 ⟨he, hyx⟩), rfl⟩
  · intro e he
    rcases List.mem_cons.1 he with rfl | he
    · exact has_put_same (k := .string e.name) hIs (by trivial) _
    · obtain ⟨h1, h2⟩ := mem_dropE.1 he
      rw [has_put_other (by simpa using h2)]
      exact h.here e h1
  · intro e he
    rcases List.mem_cons.1 he with rfl | he
    · exact atKey_put_same (k := .string e.name) hIs (by trivial) _ _
    · obtain ⟨h1, h2⟩ := mem_dropE.1 he
      rw [atKey_put_other (by simpa using h2)]
      exact h.leads e h1
  · intro e he
    rcases List.mem_cons.1 he with rfl | he
    · exact hkeep hF
    · exact hkeep (h.file e (mem_dropE.1 he).1)

end

end Go.Proofs.Ytchedflfinkppaa

/-
  A disk's names are its map's keys; how many there are; what a disk holds, told without memory.
-/
namespace Go.Proofs.Ytchedflfinkppaa
open Go.RowKit Go.Maps

/-- A file without memory: its name, its bytes, how many are firm. -/
def Ent.a (e : Ent) : List UInt8 × List Int × Nat := (e.name, e.bs, e.firm)
def abs (E : List Ent) : List (List UInt8 × List Int × Nat) := E.map Ent.a
def sumA (A : List (List UInt8 × List Int × Nat)) : Nat := (A.map fun a => a.2.1.length).sum
theorem sumA_abs (E : List Ent) : sumA (abs E) = (E.map fun e => e.bs.length).sum := by simp [sumA, abs, Ent.a, Function.comp_def]
def setA (A : List (List UInt8 × List Int × Nat)) (x : List UInt8) (bs : List Int) (firm : Nat) : List (List UInt8 × List Int × Nat) := A.map fun a => if a.1 = x then (a.1, bs, firm) else a
theorem abs_setE (E : List Ent) (x : List UInt8) (v : Value) (bs : List Int) (firm : Nat) : abs (setE E x v bs firm) = setA (abs E) x bs firm := by
  simp only [abs, setE, setA, List.map_map]
  refine List.map_congr_left fun e _ => ?_
  simp only [Function.comp, Ent.a]
  split <;> simp_all
def dropA (A : List (List UInt8 × List Int × Nat)) (x : List UInt8) : List (List UInt8 × List Int × Nat) := A.filter fun a => decide (a.1 ≠ x)
theorem abs_dropE (E : List Ent) (x : List UInt8) : abs (dropE E x) = dropA (abs E) x := by
  simp only [abs, dropE, dropA, List.filter_map]
  rfl

theorem setE_same {E : List Ent} {x : List UInt8} {v : Value} {bs : List Int} {firm : Nat} (h : ∀ e ∈ E, e.name ≠ x) : setE E x v bs firm = E := by
  refine (List.map_congr_left fun e he => ?_).trans (List.map_id E)
  rw [if_neg (h e he)]
  rfl
/-- how many bytes there are once one file has others -/
theorem setE_sum {x : List UInt8} {v : Value} {bs : List Int} {firm : Nat} : ∀ {E : List Ent}, E.Pairwise (fun x y => x.name ≠ y.name) → ∀ {e0 : Ent}, e0 ∈ E → e0.name = x → ((setE E x v bs firm).map fun e => e.bs.length).sum + e0.bs.length = (E.map fun e => e.bs.length).sum + bs.length
  | [], _, _, h, _ => by cases h
  | e :: E, hp, e0, he, hx => by
    obtain ⟨h1, h2⟩ := List.pairwise_cons.1 hp
    rcases List.mem_cons.1 he with rfl | he'
    · have hs := setE_same (v := v) (bs := bs) (firm := firm) (E := E) (x := x) fun e' he' hn => h1 e' he' (hx.trans hn.symm)
      rw [show setE (e0 :: E) x v bs firm = { e0 with val := v, bs := bs, firm := firm } :: setE E x v bs firm by simp [setE, hx], hs]
      simp only [List.map_cons, List.sum_cons]
      omega
    · have hn : e.name ≠ x := fun hn => h1 e0 he' (hn.trans hx.symm)
      have ih := setE_sum (v := v) (bs := bs) (firm := firm) h2 he' hx
      rw [show setE (e :: E) x v bs firm = e :: setE E x v bs firm by simp [setE, hn]]
      simp only [List.map_cons, List.sum_cons]
      omega

section
variable {w : World} {B b mb n : Nat} {D : DataW Unit} {p : Pw} {room : Nat} {E : List Ent}

theorem Dsk.hasIff (h : Dsk w B b mb n D p room E) (x : List UInt8) : has D (.string x) = true ↔ x ∈ E.map Ent.name := by
  constructor
  · intro hx
    obtain ⟨e, he, rfl⟩ := h.all x hx
    exact List.mem_map.2 ⟨e, he, rfl⟩
  · intro hx
    obtain ⟨e, he, rfl⟩ := List.mem_map.1 hx
    exact h.here e he
theorem Dsk.nodup (h : Dsk w B b mb n D p room E) : (E.map Ent.name).Nodup := List.pairwise_map.2 h.once
theorem Dsk.keys (h : Dsk w B b mb n D p room E) : (E.map Ent.name).Perm (strKeys D) := by
  refine Collected.perm (left := fun _ => false) ⟨h.nodup, fun x => ?_⟩ h.map law9 Try.underlying9 fun _ => rfl
  rw [h.hasIff x]
  simp
theorem size_keys {H : Type} (D : DataW H) : Maps.size D = (strKeys D).length := by cases D <;> simp [Maps.size, strKeys]
theorem Dsk.count (h : Dsk w B b mb n D p room E) : Maps.size D = E.length := by
  rw [size_keys, ← h.keys.length_eq, List.length_map]
theorem Dsk.raw (h : Dsk w B b mb n D p room E) : ∃ es cl, w.heap[mb]? = some (.map es cl) ∧ es.size = E.length := by
  have hc := h.count
  obtain ⟨es, cl, h1, h2, h3, h4⟩ := h.map
  refine ⟨es, cl, h1, ?_⟩
  have : Maps.size D = es.size := by rw [h4]; simp [Maps.size, Go.length_sorted]
  omega
theorem Dsk.tight (h : Dsk w B b mb n D p room E) {m : Nat} (hm : E.length ≤ m) : Dsk w B b mb m D p room E := by
  have hc := h.count
  have hmap : w.ownsMap Try.prog 9 rdP mb m D := by
    obtain ⟨es, cl, h1, h2, h3, h4⟩ := h.map
    refine ⟨es, cl, h1, h2, ?_, h4⟩
    have : Maps.size D = es.size := by rw [h4]; simp [Maps.size, Go.length_sorted]
    omega
  exact { h with map := hmap }
theorem Dsk.hasNot (h : Dsk w B b mb n D p room E) {x : List UInt8} (hx : ∀ e ∈ E, e.name ≠ x) : has D (.string x) = false := by
  cases hh : has D (.string x) with
  | false => rfl
  | true =>
    obtain ⟨e, he, hn⟩ := h.all x hh
    exact absurd hn (hx e he)

end

end Go.Proofs.Ytchedflfinkppaa
