/-
  What leaves a disk as it is; what changes its power; what changes one file. The contract of Trim.
-/
import Derived.Test.YtchedflfinkppaaDsk
namespace Go.Proofs.Ytchedflfinkppaa
open Go.RowKit Go.Maps

theorem Only.grown {b : Nat} {w w' : World} (h : Only b w w') : w.grownBy w' (some b) := ⟨h.os, h.tape, h.output, h.size, fun k hk e => h.block k hk fun e' => e (by rw [e'])⟩
theorem grown_of_below {w w' : World} (h : Below w.heap.size w w') : w.grownBy w' none := ⟨h.os, h.tape, h.output, h.size, fun k hk _ => h.block k hk⟩

theorem Fil.kept {w w' : World} {B f : Nat} {v : Value} {bs : List Int} {firm : Nat} {row : Option Nat} (h : Fil w B f v bs firm) (hg : w.grownBy w' row) (h1 : some f ≠ row) (h2 : v.ownBlock = none ∨ v.ownBlock ≠ row) : Fil w' B f v bs firm :=
  ⟨(hg.block f (lt_of_block h.blk) h1).trans h.blk, h.row.kept hg h2, h.le⟩
theorem Fil.offT {w : World} {B f b : Nat} {v : Value} {bs : List Int} {firm : Nat} {cs : Array Value} {t : TypeId} {fr : Nat × Nat} (h : Fil w B f v bs firm) (hb : w.heap[b]? = some (.cells cs t fr)) (ht : t ≠ 5) : v.ownBlock ≠ some b := fun e => by
  rcases h.row.2 with ⟨rfl, _⟩ | ⟨g', cap, cur, rfl, _, hh, _⟩
  · simp [Value.ownBlock] at e
  · obtain rfl : g' = b := by simpa [Value.ownBlock] using e
    rw [hb] at hh
    injection hh with hh
    injection hh with _ h2 _
    exact ht h2
theorem Fil.offMap {w : World} {B f b : Nat} {v : Value} {bs : List Int} {firm : Nat} {es : Array MapEntry} {cl : Nat} (h : Fil w B f v bs firm) (hb : w.heap[b]? = some (.map es cl)) : v.ownBlock ≠ some b := fun e => by
  rcases h.row.2 with ⟨rfl, _⟩ | ⟨g', cap, cur, rfl, _, hh, _⟩
  · simp [Value.ownBlock] at e
  · obtain rfl : g' = b := by simpa [Value.ownBlock] using e
    rw [hb] at hh
    cases hh
theorem Fil.ne_blk {w : World} {B f b : Nat} {v : Value} {bs : List Int} {firm : Nat} {p : Pw} {room mb : Nat} (h : Fil w B f v bs firm) (hb : Blk w b p room mb) : f ≠ b := fun e => by
  subst e
  unfold Blk at hb
  rw [h.blk] at hb
  injection hb with hb
  injection hb with _ h2 _
  cases h2

section
variable {w w' : World} {B b mb n : Nat} {D : DataW Unit} {p q : Pw} {room : Nat} {E : List Ent}

theorem Dsk.ne_map (h : Dsk w B b mb n D p room E) : mb ≠ b := fun e => by
  subst e
  obtain ⟨_, _, hm, _⟩ := h.map
  have := h.blk
  unfold Blk at this
  rw [hm] at this
  cases this

/-- What leaves all that was there as it is. -/
theorem Dsk.below (h : Dsk w B b mb n D p room E) (hb : Below w.heap.size w w') : Dsk w' B b mb n D p room E :=
  { h with
    blk := (hb.block b (lt_of_block h.blk)).trans h.blk
    map := h.map.kept (grown_of_below hb) (by simp)
    file := fun e he => (h.file e he).kept (grown_of_below hb) (by simp) (by cases e.val.ownBlock <;> simp) }

/-- What changes its power alone. -/
theorem Dsk.power (h : Dsk w B b mb n D p room E) (hk : Blk w' b q room mb) (hq : q.ok) (ho : Only b w w') : Dsk w' B b mb n D q room E :=
  { h with
    blk := hk
    ok := hq
    map := h.map.kept ho.grown (by simpa using h.ne_map)
    file := fun e he => (h.file e he).kept ho.grown (by simpa using (h.file e he).ne_blk h.blk) (.inr ((h.file e he).offT h.blk (by decide))) }

/-- The same entries, one of them with other bytes. -/
def setE (E : List Ent) (x : List UInt8) (v : Value) (bs : List Int) (firm : Nat) : List Ent := E.map fun e => if e.name = x then { e with val := v, bs := bs, firm := firm } else e

theorem setE_name (e : Ent) (x : List UInt8) (v : Value) (bs : List Int) (firm : Nat) : (if e.name = x then { e with val := v, bs := bs, firm := firm } else e).name = e.name := by split <;> rfl
theorem setE_blk (e : Ent) (x : List UInt8) (v : Value) (bs : List Int) (firm : Nat) : (if e.name = x then { e with val := v, bs := bs, firm := firm } else e).blk = e.blk := by split <;> rfl
theorem once_eq : ∀ {E : List Ent}, E.Pairwise (fun x y => x.name ≠ y.name) → ∀ {a c : Ent}, a ∈ E → c ∈ E → a.name = c.name → a = c
  | [], _, _, _, h, _, _ => by cases h
  | e :: E, hp, a, c, ha, hc, hn => by
    obtain ⟨h1, h2⟩ := List.pairwise_cons.1 hp
    rcases List.mem_cons.1 ha with rfl | ha' <;> rcases List.mem_cons.1 hc with rfl | hc'
    · rfl
    · exact absurd hn (h1 c hc')
    · exact absurd hn.symm (h1 a ha')
    · exact once_eq h2 ha' hc' hn

theorem Dsk.two (h : Dsk w B b mb n D p room E) {a c : Ent} (ha : a ∈ E) (hc : c ∈ E) (hn : a.name ≠ c.name) : a.blk ≠ c.blk ∧ ∀ g, a.val.ownBlock = some g → c.val.ownBlock ≠ some g := by
  have hp := h.apart
  clear h
  induction E with
  | nil => cases ha
  | cons e E ih =>
    obtain ⟨h1, h2⟩ := List.pairwise_cons.1 hp
    rcases List.mem_cons.1 ha with rfl | ha' <;> rcases List.mem_cons.1 hc with rfl | hc'
    · exact absurd rfl hn
    · exact h1 c hc'
    · exact ⟨(h1 a ha').1.symm, fun g hg hg' => (h1 a ha').2 g hg' hg⟩
    · exact ih ha' hc' h2

/-- What changes one file alone. -/
theorem Dsk.one (h : Dsk w B b mb n D p room E) {e0 : Ent} (he : e0 ∈ E) {v : Value} {bs : List Int} {firm : Nat} (hF : Fil w' B e0.blk v bs firm) (hC : AddC e0.blk w w' e0.val v) (hs : ((setE E e0.name v bs firm).map fun e => e.bs.length).sum ≤ room) : Dsk w' B b mb n D p room (setE E e0.name v bs firm) := by
  have hF0 := h.file e0 he
  have hkeep : ∀ g, g < w.heap.size → g ≠ e0.blk → e0.val.ownBlock ≠ some g → w'.heap[g]? = w.heap[g]? := fun g h1 h2 h3 => hC.block g h1 h2 h3.symm
  have hoth : ∀ e ∈ E, e.name ≠ e0.name → Fil w' B e.blk e.val e.bs e.firm := fun e hm hn => by
    have hFe := h.file e hm
    obtain ⟨t1, t2⟩ := h.two hm he hn
    refine ⟨(hkeep _ (lt_of_block hFe.blk) t1 (hF0.offT hFe.blk (by decide))).trans hFe.blk, ?_, hFe.le⟩
    refine ⟨hFe.row.1, ?_⟩
    rcases hFe.row.2 with h0 | ⟨g, cap, cur, hv, hb, hh, r⟩
    · exact .inl h0
    · have hg : e.val.ownBlock = some g := by rw [hv]; rfl
      exact .inr ⟨g, cap, cur, hv, hb, (hkeep g (lt_of_block hh) (fun e' => hFe.offT (b := g) (e' ▸ hF0.blk) (by decide) hg) (t2 g hg)).trans hh, r⟩
  have hnew : ∀ e ∈ E, e.name ≠ e0.name → ∀ g, e.val.ownBlock = some g → v.ownBlock ≠ some g := fun e hm hn g hg hv => by
    rcases hC.new with h1 | ⟨g', h1, h2⟩
    · rw [h1] at hv
      exact (h.two hm he hn).2 g hg hv
    · have := (own_lt (h.file e hm).row hg).2
      rw [hv] at h1
      injection h1 with h1
      omega
  refine ⟨?_, h.ok, ?_, ?_, ?_, ?_, ?_, ?_, ?_, hs, h.most⟩
  · exact (hkeep b (lt_of_block h.blk) (hF0.ne_blk h.blk).symm (hF0.offT h.blk (by decide))).trans h.blk
  · obtain ⟨es, cl, hm, r⟩ := h.map
    exact ⟨es, cl, (hkeep mb (lt_of_block hm) (fun e' => by rw [e', hF0.blk] at hm; cases hm) (hF0.offMap hm)).trans hm, r⟩
  · rw [setE, List.pairwise_map]
    refine h.once.imp fun {x y} hxy => ?_
    rw [setE_name, setE_name]
    exact hxy
  · rw [setE, List.pairwise_map]
    refine (List.Pairwise.and_mem.1 (h.once.and h.apart)).imp fun {x y} hxy => ?_
    obtain ⟨hx, hy, hn, ha, hr⟩ := hxy
    rw [setE_blk, setE_blk]
    refine ⟨ha, fun g => ?_⟩
    by_cases h1 : x.name = e0.name
    · have h2 : y.name ≠ e0.name := fun e => hn (h1.trans e.symm)
      rw [if_pos h1, if_neg h2]
      exact fun hg hg' => hnew y hy h2 g hg' hg
    · rw [if_neg h1]
      by_cases h2 : y.name = e0.name
      · rw [if_pos h2]
        exact fun hg => hnew x hx h1 g hg
      · rw [if_neg h2]
        exact hr g
  · intro x hx
    obtain ⟨e, he', rfl⟩ := h.all x hx
    exact ⟨_, List.mem_map.2 ⟨e, he', rfl⟩, setE_name _ _ _ _ _⟩
  · intro e hm
    obtain ⟨e', he', rfl⟩ := List.mem_map.1 hm
    rw [setE_name]
    exact h.here e' he'
  · intro e hm
    obtain ⟨e', he', rfl⟩ := List.mem_map.1 hm
    rw [setE_name, setE_blk]
    exact h.leads e' he'
  · intro e hm
    obtain ⟨e', he', rfl⟩ := List.mem_map.1 hm
    by_cases hn : e'.name = e0.name
    · obtain rfl := once_eq h.once he' he hn
      rw [if_pos rfl]
      exact hF
    · rw [if_neg hn]
      exact hoth e' he' hn

end

end Go.Proofs.Ytchedflfinkppaa
