/-
  Rows of slices of the call's own.
-/
import Derived.Test.YtlambcmikfihgaaCutVec
import Derived.Test.YtlambcmikfihgaaText
import Derived.Test.YtlambcmikfihgaaVecs
namespace Go.Proofs.Ytlambcmikfihgaa
open Go.RowKit

theorem own_kept {w w' : World} {B e s n : Nat} {v : Value} {xs : List Value} {row : Option Nat} (h : w.ownsRow B e s v n xs) (hg : w.grownBy w' row) (hne : ∀ g, v.ownBlock = some g → row ≠ some g) : w'.ownsRow B e s v n xs := by
  obtain ⟨h1, h2⟩ := h
  refine ⟨h1, ?_⟩
  rcases h2 with h2 | ⟨g, cap, cur, rfl, hb, hh, r⟩
  · exact .inl h2
  · exact .inr ⟨g, cap, cur, rfl, hb, (hg.block g (lt_of_block hh) (fun e => hne g rfl e.symm)).trans hh, r⟩
theorem own_below {w w' : World} {B e s n : Nat} {v : Value} {xs : List Value} (h : w.ownsRow B e s v n xs) (hb : Below w.heap.size w w') : w'.ownsRow B e s v n xs :=
  own_kept (row := none) h ⟨hb.os, hb.tape, hb.output, hb.size, fun i hi _ => hb.block i hi⟩ (by simp)
theorem own_lt {w : World} {B e s n g : Nat} {v : Value} {xs : List Value} (h : w.ownsRow B e s v n xs) (hv : v.ownBlock = some g) : B ≤ g ∧ g < w.heap.size := by
  rcases h.2 with ⟨rfl, _⟩ | ⟨g', cap, cur, rfl, hb, hh, r⟩
  · simp [Value.ownBlock] at hv
  · obtain rfl : g' = g := by simpa [Value.ownBlock] using hv
    exact ⟨hb, lt_of_block hh⟩

/-- The cells of rows. -/
def CellsR (f : List Int → List Value) (S : Nat → Prop) (w : World) (cs : List Value) (ts : List (List Int)) : Prop :=
  cs.length = ts.length ∧ ∀ k (h : k < ts.length), ∃ A c, cs[k]? = some (.slice A (ts[k]).length c) ∧ Row S w A (f ts[k])
theorem CellsR.nil {f : List Int → List Value} {S : Nat → Prop} {w : World} : CellsR f S w [] [] := ⟨rfl, fun k h => by simp at h⟩
theorem CellsR.kept {f : List Int → List Value} {S S' : Nat → Prop} {w w' : World} {cs : List Value} {ts : List (List Int)} (h : CellsR f S w cs ts) (hs : w.heap.size ≤ w'.heap.size) (hk : ∀ g, g < w.heap.size → S g → w'.heap[g]? = w.heap[g]? ∧ S' g) : CellsR f S' w' cs ts :=
  ⟨h.1, fun k hk' => by
    obtain ⟨A, c, e, r⟩ := h.2 k hk'
    have r' : Row (fun g => S g ∧ S' g) w A (f ts[k]) := r.mono fun g hg s => ⟨s, (hk g hg s).2⟩
    exact ⟨A, c, e, (r'.kept hs fun g hg s => (hk g hg s.1).1).mono fun g _ s => s.2⟩⟩
theorem CellsR.append {f : List Int → List Value} {S : Nat → Prop} {w : World} {cs ds : List Value} {ts us : List (List Int)} (h : CellsR f S w cs ts) (k : CellsR f S w ds us) : CellsR f S w (cs ++ ds) (ts ++ us) := by
  refine ⟨by rw [List.length_append, List.length_append, h.1, k.1], fun j hj => ?_⟩
  rw [List.length_append] at hj
  have hl := h.1
  by_cases e : j < ts.length
  · obtain ⟨A, c, e1, r⟩ := h.2 j e
    rw [List.getElem?_append_left (by omega)]
    simp only [List.getElem_append_left e]
    exact ⟨A, c, e1, r⟩
  · obtain ⟨A, c, e1, r⟩ := k.2 (j - ts.length) (by omega)
    rw [List.getElem?_append_right (by omega), hl]
    simp only [List.getElem_append_right (Nat.not_lt.1 e)]
    exact ⟨A, c, e1, r⟩
theorem CellsR.one {f : List Int → List Value} {S : Nat → Prop} {w : World} {A : Option Addr} {c : Nat} {t : List Int} (h : Row S w A (f t)) : CellsR f S w [.slice A t.length c] [t] :=
  ⟨rfl, fun k hk => by obtain rfl : k = 0 := by simpa using hk
                       exact ⟨A, c, rfl, h⟩⟩

/-- A row of slices of the call's own, of type e. -/
def OwnR (f : List Int → List Value) (e : Nat) (w : World) (B : Nat) (v : Value) (ts : List (List Int)) : Prop :=
  ∃ cs, w.ownsRow B e 1 v ts.length cs ∧ CellsR f (fun g => B ≤ g ∧ some g ≠ v.ownBlock) w cs ts
theorem OwnR.start (f : List Int → List Value) (e : Nat) (w : World) (B : Nat) : OwnR f e w B (.slice none 0 0) [] := ⟨[], ⟨by simp, .inl ⟨rfl, rfl⟩⟩, CellsR.nil⟩
theorem OwnR.below {f : List Int → List Value} {e : Nat} {w w' : World} {B : Nat} {v : Value} {ts : List (List Int)} (h : OwnR f e w B v ts) (hb : Below w.heap.size w w') : OwnR f e w' B v ts := by
  obtain ⟨cs, h1, h2⟩ := h
  exact ⟨cs, own_below h1 hb, h2.kept hb.size fun g hg s => ⟨hb.block g hg, s⟩⟩
theorem OwnR.texts {e : Nat} {w : World} {B : Nat} {v : Value} {ts : List (List Int)} (h : OwnR u8s e w B v ts) : ∃ A c, v = .slice A ts.length c ∧ ts.length ≤ c ∧ Texts (fun g => B ≤ g) w A ts := by
  obtain ⟨cs, h1, h2⟩ := h
  obtain ⟨A, c, e, hc, hl, r⟩ := Row.of_own h1
  exact ⟨A, c, e, hc, cs, h2.1, r.mono fun g _ s => s.1, fun k hk => by
    obtain ⟨A', c', e', r'⟩ := h2.2 k hk
    exact ⟨A', c', e', r'.mono fun g _ s => s.1⟩⟩
theorem OwnR.rows {e : Nat} {w : World} {B : Nat} {v : Value} {ts : List (List Int)} (h : OwnR i32s e w B v ts) : ∃ A c, v = .slice A ts.length c ∧ ts.length ≤ c ∧ Rows (fun g => B ≤ g) w A ts := by
  obtain ⟨cs, h1, h2⟩ := h
  obtain ⟨A, c, e, hc, hl, r⟩ := Row.of_own h1
  exact ⟨A, c, e, hc, cs, h2.1, r.mono fun g _ s => s.1, fun k hk => by
    obtain ⟨A', c', e', r'⟩ := h2.2 k hk
    exact ⟨A', c', e', r'.mono fun g _ s => s.1⟩⟩
/-- behind an append -/
theorem OwnR.step {f : List Int → List Value} {e : Nat} {w w' : World} {B : Nat} {v v' : Value} {ts us : List (List Int)} {cs ds : List Value} {o : Obj}
    (h2 : CellsR f (fun g => B ≤ g ∧ some g ≠ v.ownBlock) w cs ts) (k2 : CellsR f (fun g => B ≤ g ∧ some g ≠ v.ownBlock) w ds us)
    (hown : w'.ownsRow B e 1 v' (ts.length + us.length) (cs ++ ds)) (hgrow : (w.alloc o).grownBy w' v.ownBlock) (hat : v'.ownBlock = v.ownBlock ∨ v'.ownBlock = some (w.heap.size + 1)) : OwnR f e w' B v' (ts ++ us) := by
  refine ⟨cs ++ ds, by rw [List.length_append]; exact hown, ?_⟩
  have hs : (w.alloc o).heap.size = w.heap.size + 1 := by simp
  refine (h2.append k2).kept (by have := hgrow.size; omega) fun g hg s => ⟨?_, s.1, ?_⟩
  · rw [hgrow.block g (by omega) s.2, Below.heap_alloc _ _ _ hg]
  · rcases hat with e | e
    · rw [e]; exact s.2
    · rw [e]; intro e'; injection e' with e'; omega

/-- Slices of slices that came in. -/
def RowsC (f : List Int → List Value) (w : World) (A : Option Addr) (ts : List (List Int)) : Prop :=
  ∀ k (h : k < ts.length), ∃ ad A' c, A = some ad ∧ ad.block < w.heap.size ∧ w.cell? (ad.add k) = some (.slice A' (ts[k]).length c) ∧ (ts[k]).length ≤ c ∧ (ts[k]).length ≤ 9223372036854775807 ∧ Row (fun _ => True) w A' (f ts[k])
theorem RowsC.below {f : List Int → List Value} {w w' : World} {A : Option Addr} {ts : List (List Int)} (h : RowsC f w A ts) (hb : Below w.heap.size w w') : RowsC f w' A ts := fun k hk => by
  obtain ⟨ad, A', c, e, lt, hc, h1, h2, r⟩ := h k hk
  exact ⟨ad, A', c, e, by have := hb.size; omega, (hb.cell (p := ad.add k) (by rw [block_add]; exact lt)).trans hc, h1, h2, r.below hb⟩

def cutR (n : Nat) (ts : List (List Int)) (k : Nat) : List (List Int) := (ts.take (min k 4)).map (·.take n)
theorem cutR_succ {n : Nat} {ts : List (List Int)} {k : Nat} (h : k < ts.length) (h6 : k < 4) : cutR n ts (k + 1) = cutR n ts k ++ [ts[k].take n] := by
  unfold cutR
  rw [show min (k + 1) 4 = k + 1 by omega, show min k 4 = k by omega, List.take_succ_eq_append_getElem h, List.map_append]; rfl
theorem cutR_over {n : Nat} {ts : List (List Int)} {k : Nat} (h6 : ¬ k < 4) : cutR n ts (k + 1) = cutR n ts k := by
  unfold cutR
  rw [show min (k + 1) 4 = min k 4 by omega]
theorem cutR_len (n : Nat) (ts : List (List Int)) (k : Nat) : (cutR n ts k).length ≤ 4 := by unfold cutR; rw [List.length_map, List.length_take]; omega
theorem cutR_most (n : Nat) (ts : List (List Int)) (k : Nat) : ∀ t ∈ cutR n ts k, t.length ≤ n := fun t ht => by
  obtain ⟨x, _, rfl⟩ := List.mem_map.1 ht
  rw [List.length_take]; omega
theorem Try.info25 : (Try.prog.info? 25).map (fun i => (i.zero, i.size, i.bytes)) = some (some (.slice none 0 0), 1, 24) := by kernel_rfl
theorem Try.info40 : (Try.prog.info? 40).map (fun i => (i.zero, i.size, i.bytes)) = some (some (.slice none 0 0), 1, 24) := by kernel_rfl
theorem Try.info35 : (Try.prog.info? 35).map (fun i => (i.zero, i.size, i.bytes)) = some (some (.int .u64 0), 1, 8) := by kernel_rfl

end Go.Proofs.Ytlambcmikfihgaa
