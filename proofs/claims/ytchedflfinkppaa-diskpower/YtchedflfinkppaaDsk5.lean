/-
  A disk's names are its map's keys; how many there are; what a disk holds, told without memory.
-/
import Derived.Sort.KeysCollected
import Derived.Test.YtchedflfinkppaaDsk4
namespace Go.Proofs.Ytchedflfinkppaa
open Go.RowKit Go.Maps

/-- A file without memory: its name, its bytes, how many are firm. -/
def Ent.a (e : Ent) : List UInt8 × List Int × Nat := (e.name, e.bs, e.firm)
def abs (E : List Ent) : List (List UInt8 × List Int × Nat) := E.map Ent.a
def sumA (A : List (List UInt8 × List Int × Nat)) : Nat := (A.map fun a => a.2.1.length).sum
theorem sumA_abs (E : List Ent) : sumA (abs E) = (E.map fun e => e.bs.length).sum := by simp [sumA, abs, Ent.a, Function.comp_def]
def setA (A : List (List UInt8 × List Int × Nat)) (x : List UInt8) (bs : List Int) (firm : Nat) : List (List UInt8 × List Int × Nat) := A.map fun a => if a.1 = x then (a.1, bs, firm) else a
theorem abs_setE (E : List Ent) (x : List UInt8) (v : Value) (bs : List Int) (firm : Nat) : abs (setE E x v bs firm) = setA (abs E) x bs firm := by
  simp only [abs, setE, setA, List.map_map]
  refine List.map_congr_left fun e _ => ?_
  simp only [Function.comp, Ent.a]
  split <;> simp_all
def dropA (A : List (List UInt8 × List Int × Nat)) (x : List UInt8) : List (List UInt8 × List Int × Nat) := A.filter fun a => decide (a.1 ≠ x)
theorem abs_dropE (E : List Ent) (x : List UInt8) : abs (dropE E x) = dropA (abs E) x := by
  simp only [abs, dropE, dropA, List.filter_map]
  rfl

theorem setE_same {E : List Ent} {x : List UInt8} {v : Value} {bs : List Int} {firm : Nat} (h : ∀ e ∈ E, e.name ≠ x) : setE E x v bs firm = E := by
  refine (List.map_congr_left fun e he => ?_).trans (List.map_id E)
  rw [if_neg (h e he)]
  rfl
/-- how many bytes there are once one file has others -/
theorem setE_sum {x : List UInt8} {v : Value} {bs : List Int} {firm : Nat} : ∀ {E : List Ent}, E.Pairwise (fun x y => x.name ≠ y.name) → ∀ {e0 : Ent}, e0 ∈ E → e0.name = x → ((setE E x v bs firm).map fun e => e.bs.length).sum + e0.bs.length = (E.map fun e => e.bs.length).sum + bs.length
  | [], _, _, h, _ => by cases h
  | e :: E, hp, e0, he, hx => by
    obtain ⟨h1, h2⟩ := List.pairwise_cons.1 hp
    rcases List.mem_cons.1 he with rfl | he'
    · have hs := setE_same (v := v) (bs := bs) (firm := firm) (E := E) (x := x) fun e' he' hn => h1 e' he' (hx.trans hn.symm)
      rw [show setE (e0 :: E) x v bs firm = { e0 with val := v, bs := bs, firm := firm } :: setE E x v bs firm by simp [setE, hx], hs]
      simp only [List.map_cons, List.sum_cons]
      omega
    · have hn : e.name ≠ x := fun hn => h1 e0 he' (hn.trans hx.symm)
      have ih := setE_sum (v := v) (bs := bs) (firm := firm) h2 he' hx
      rw [show setE (e :: E) x v bs firm = e :: setE E x v bs firm by simp [setE, hn]]
      simp only [List.map_cons, List.sum_cons]
      omega

section
variable {w : World} {B b mb n : Nat} {D : DataW Unit} {p : Pw} {room : Nat} {E : List Ent}

theorem Dsk.hasIff (h : Dsk w B b mb n D p room E) (x : List UInt8) : has D (.string x) = true ↔ x ∈ E.map Ent.name := by
  constructor
  · intro hx
    obtain ⟨e, he, rfl⟩ := h.all x hx
    exact List.mem_map.2 ⟨e, he, rfl⟩
  · intro hx
    obtain ⟨e, he, rfl⟩ := List.mem_map.1 hx
    exact h.here e he
theorem Dsk.nodup (h : Dsk w B b mb n D p room E) : (E.map Ent.name).Nodup := List.pairwise_map.2 h.once
theorem Dsk.keys (h : Dsk w B b mb n D p room E) : (E.map Ent.name).Perm (strKeys D) := by
  refine Collected.perm (left := fun _ => false) ⟨h.nodup, fun x => ?_⟩ h.map law9 Try.underlying9 fun _ => rfl
  rw [h.hasIff x]
  simp
theorem size_keys {H : Type} (D : DataW H) : Maps.size D = (strKeys D).length := by cases D <;> simp [Maps.size, strKeys]
theorem Dsk.count (h : Dsk w B b mb n D p room E) : Maps.size D = E.length := by
  rw [size_keys, ← h.keys.length_eq, List.length_map]
theorem Dsk.raw (h : Dsk w B b mb n D p room E) : ∃ es cl, w.heap[mb]? = some (.map es cl) ∧ es.size = E.length := by
  have hc := h.count
  obtain ⟨es, cl, h1, h2, h3, h4⟩ := h.map
  refine ⟨es, cl, h1, ?_⟩
  have : Maps.size D = es.size := by rw [h4]; simp [Maps.size, Go.length_sorted]
  omega
theorem Dsk.tight (h : Dsk w B b mb n D p room E) {m : Nat} (hm : E.length ≤ m) : Dsk w B b mb m D p room E := by
  have hc := h.count
  have hmap : w.ownsMap Try.prog 9 rdP mb m D := by
    obtain ⟨es, cl, h1, h2, h3, h4⟩ := h.map
    refine ⟨es, cl, h1, h2, ?_, h4⟩
    have : Maps.size D = es.size := by rw [h4]; simp [Maps.size, Go.length_sorted]
    omega
  exact { h with map := hmap }
theorem Dsk.hasNot (h : Dsk w B b mb n D p room E) {x : List UInt8} (hx : ∀ e ∈ E, e.name ≠ x) : has D (.string x) = false := by
  cases hh : has D (.string x) with
  | false => rfl
  | true =>
    obtain ⟨e, he, hn⟩ := h.all x hh
    exact absurd hn (hx e he)

end

end Go.Proofs.Ytchedflfinkppaa
