/-
  What a crash leaves, told without memory; the row that Names answers, told by the entries.
-/
import Derived.Test.YtchedflfinkppaaSwap
import Derived.Test.YtchedflfinkppaaNames
namespace Go.Proofs.Ytchedflfinkppaa
open Go.RowKit Go.Maps Go.Sort Go.Shelf

abbrev AFile := List UInt8 × List Int × Nat
/-- how many bytes the i-th file has behind a crash -/
def keepN (i : Nat) (keep : List Int) (a : AFile) : Nat := a.2.2 + keptN i keep (a.2.1.length - a.2.2)
def cr0 (i : Nat) (keep : List Int) (a : AFile) : AFile := (a.1, a.2.1.take (keepN i keep a), (a.2.1.take (keepN i keep a)).length)
def cr1 (A : List AFile) (x : List UInt8) (i : Nat) (keep : List Int) : List AFile := A.map fun a => if a.1 = x then cr0 i keep a else a
/-- behind the first k files' turn -/
def crT (A : List AFile) (ns : List (List UInt8)) (keep : List Int) (k : Nat) : List AFile := (List.range k).foldl (fun A i => cr1 A (ns.getD i []) i keep) A
theorem crT_succ (A : List AFile) (ns : List (List UInt8)) (keep : List Int) (k : Nat) : crT A ns keep (k + 1) = cr1 (crT A ns keep k) (ns.getD k []) k keep := by
  rw [crT, List.range_succ, List.foldl_append]
  rfl
theorem cr1_names (A : List AFile) (x : List UInt8) (i : Nat) (keep : List Int) : (cr1 A x i keep).map Prod.fst = A.map Prod.fst := by
  rw [cr1, List.map_map]
  refine List.map_congr_left fun a _ => ?_
  simp only [Function.comp]
  split <;> rfl
theorem crT_names (A : List AFile) (ns : List (List UInt8)) (keep : List Int) : ∀ k, (crT A ns keep k).map Prod.fst = A.map Prod.fst
  | 0 => rfl
  | k + 1 => by rw [crT_succ, cr1_names, crT_names A ns keep k]

/-- the names in order -/
def srt (E : List Ent) : List (List UInt8) := (E.map Ent.name).mergeSort leB
theorem srt_len (E : List Ent) : (srt E).length = E.length := by simp [srt]
theorem mem_srt (E : List Ent) (x : List UInt8) : x ∈ srt E ↔ x ∈ E.map Ent.name := List.mem_mergeSort
theorem abs_names (E : List Ent) : (abs E).map Prod.fst = E.map Ent.name := by
  rw [abs, List.map_map]
  rfl
theorem setA_twice (A : List AFile) (x : List UInt8) (bs bs' : List Int) (f f' : Nat) : setA (setA A x bs f) x bs' f' = setA A x bs' f' := by
  simp only [setA, List.map_map]
  refine List.map_congr_left fun a _ => ?_
  simp only [Function.comp]
  by_cases h : a.1 = x
  · simp [h]
  · simp [h]
theorem cr1_eq {E : List Ent} {e0 : Ent} (h : E.Pairwise (fun x y => x.name ≠ y.name)) (he : e0 ∈ E) (i : Nat) (keep : List Int) :
    setA (abs E) e0.name (e0.bs.take (keepN i keep e0.a)) (e0.bs.take (keepN i keep e0.a)).length = cr1 (abs E) e0.name i keep := by
  simp only [setA, cr1, abs, List.map_map]
  refine List.map_congr_left fun e hm => ?_
  simp only [Function.comp]
  by_cases hn : e.name = e0.name
  · obtain rfl := once_eq h hm he hn
    simp [Ent.a, cr0]
  · simp [Ent.a, hn]

def keyB (x : List UInt8) : ByteArray := ⟨x.toArray⟩
theorem keyB_data (x : List UInt8) : (keyB x).data.toList = x := by simp [keyB]

section
variable {w : World} {B b mb n : Nat} {D : DataW Unit} {p : Pw} {room : Nat} {E : List Ent}

theorem Dsk.of_lt (h : Dsk w B b mb n D p room E) {g : Nat} (hg : Of b mb E g) : g < w.heap.size := by
  rcases hg with rfl | rfl | ⟨e, he, hg⟩
  · exact lt_of_block h.blk
  · obtain ⟨_, _, hm, _⟩ := h.map
    exact lt_of_block hm
  · rcases hg with rfl | hg
    · exact lt_of_block (h.file e he).blk
    · exact (own_lt (h.file e he).row hg).2
end

section
variable (B b mb n : Nat) (D : DataW Unit) (p : Pw) (room : Nat) (E : List Ent)

theorem names_srt (w : World) (h : Dsk w B b mb n D p room E) (hE : E.length ≤ 1000000) :
    Calls Try.prog 15 #[.pointer (some ⟨b, 0, none⟩)] w fun e w' => ∃ A c, e = .returned (.slice A E.length c) ∧ E.length ≤ c ∧ Row (fun g => w.heap.size ≤ g) w' A (strs ((srt E).map keyB)) ∧ Below w.heap.size w w' := by
  refine (names_any b room mb n p D w h.blk h.map (by rw [h.count]; exact hE)).mono ?_
  rintro e w' ⟨v, ss, rfl, hp, hr, hb⟩
  have hss : ss.Perm (E.map Ent.name) := hp.trans h.keys.symm
  have hso : ss.mergeSort (fun x y => decide (x ≤ y)) = srt E := mergeSort_of_perm hss
  have hlen : ss.length = E.length := by rw [hss.length_eq, List.length_map]
  rw [hso, hlen] at hr
  obtain ⟨A, c, rfl, hc, _, hrow⟩ := Row.of_own hr
  refine ⟨A, c, rfl, hc, ?_, hb⟩
  have e1 : strs ((srt E).map keyB) = (srt E).map encStr := by
    rw [strs, List.map_map]
    rfl
  rw [e1]
  exact hrow.mono fun g _ s => s.1

set_option maxHeartbeats 400000 in
theorem names_nil (w : World) : Calls Try.prog 15 #[.pointer none] w fun e w' => e = .returned (.slice none 0 0) ∧ w = w' := by
  go_enter Try.func15, Try.ntmps15
  go_wp2_with fail
  go_ret
  exact ⟨rfl, rfl⟩
end

end Go.Proofs.Ytchedflfinkppaa
