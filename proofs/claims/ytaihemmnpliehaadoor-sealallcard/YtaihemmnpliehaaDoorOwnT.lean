/-
  Rows of slices of bytes of the call's own.
-/
import Derived.Test.YtaihemmnpliehaaDoorBursts
import Derived.Deep.RegionHeld3
namespace Go.Proofs.YtaihemmnpliehaaDoor
open Go.RowKit

theorem own_kept {w w' : World} {B e s n : Nat} {v : Value} {xs : List Value} {row : Option Nat} (h : w.ownsRow B e s v n xs) (hg : w.grownBy w' row) (hne : ∀ g, v.ownBlock = some g → row ≠ some g) : w'.ownsRow B e s v n xs := by
  obtain ⟨h1, h2⟩ := h
  refine ⟨h1, ?_⟩
  rcases h2 with h2 | ⟨g, cap, cur, rfl, hb, hh, r⟩
  · exact .inl h2
  · exact .inr ⟨g, cap, cur, rfl, hb, (hg.block g (lt_of_block hh) (fun e => hne g rfl e.symm)).trans hh, r⟩
theorem own_below {w w' : World} {B e s n : Nat} {v : Value} {xs : List Value} (h : w.ownsRow B e s v n xs) (hb : Below w.heap.size w w') : w'.ownsRow B e s v n xs :=
  own_kept (row := none) h ⟨hb.os, hb.tape, hb.output, hb.size, fun i hi _ => hb.block i hi⟩ (by simp)
theorem own_lt {w : World} {B e s n g : Nat} {v : Value} {xs : List Value} (h : w.ownsRow B e s v n xs) (hv : v.ownBlock = some g) : B ≤ g ∧ g < w.heap.size := by
  rcases h.2 with ⟨rfl, _⟩ | ⟨g', cap, cur, rfl, hb, hh, r⟩
  · simp [Value.ownBlock] at hv
  · obtain rfl : g' = g := by simpa [Value.ownBlock] using hv
    exact ⟨hb, lt_of_block hh⟩

/-- The cells of texts. -/
def CellsT (S : Nat → Prop) (w : World) (cs : List Value) (ts : List (List Int)) : Prop :=
  cs.length = ts.length ∧ ∀ k (h : k < ts.length), ∃ A c, cs[k]? = some (.slice A (ts[k]).length c) ∧ Row S w A (u8s ts[k])
theorem CellsT.nil {S : Nat → Prop} {w : World} : CellsT S w [] [] := ⟨rfl, fun k h => by simp at h⟩
theorem CellsT.kept {S S' : Nat → Prop} {w w' : World} {cs : List Value} {ts : List (List Int)} (h : CellsT S w cs ts) (hs : w.heap.size ≤ w'.heap.size) (hk : ∀ g, g < w.heap.size → S g → w'.heap[g]? = w.heap[g]? ∧ S' g) : CellsT S' w' cs ts :=
  ⟨h.1, fun k hk' => by
    obtain ⟨A, c, e, r⟩ := h.2 k hk'
    have r' : Row (fun g => S g ∧ S' g) w A (u8s ts[k]) := r.mono fun g hg s => ⟨s, (hk g hg s).2⟩
    exact ⟨A, c, e, (r'.kept hs fun g hg s => (hk g hg s.1).1).mono fun g _ s => s.2⟩⟩
theorem CellsT.append {S : Nat → Prop} {w : World} {cs ds : List Value} {ts us : List (List Int)} (h : CellsT S w cs ts) (k : CellsT S w ds us) : CellsT S w (cs ++ ds) (ts ++ us) := by
  refine ⟨by rw [List.length_append, List.length_append, h.1, k.1], fun j hj => ?_⟩
  rw [List.length_append] at hj
  have hl := h.1
  by_cases e : j < ts.length
  · obtain ⟨A, c, e1, r⟩ := h.2 j e
    rw [List.getElem?_append_left (by omega)]
    simp only [List.getElem_append_left e]
    exact ⟨A, c, e1, r⟩
  · obtain ⟨A, c, e1, r⟩ := k.2 (j - ts.length) (by omega)
    rw [List.getElem?_append_right (by omega), hl]
    simp only [List.getElem_append_right (Nat.not_lt.1 e)]
    exact ⟨A, c, e1, r⟩
theorem CellsT.one {S : Nat → Prop} {w : World} {A : Option Addr} {c : Nat} {t : List Int} (h : Row S w A (u8s t)) : CellsT S w [.slice A t.length c] [t] :=
  ⟨rfl, fun k hk => by obtain rfl : k = 0 := by simpa using hk
                       exact ⟨A, c, rfl, h⟩⟩

/-- A row of slices of bytes of the call's own; of the blocks of these X holds. -/
def OwnT (X : Nat → Prop) (w : World) (B : Nat) (v : Value) (ts : List (List Int)) : Prop :=
  ∃ cs, w.ownsRow B 24 1 v ts.length cs ∧ CellsT (fun g => (B ≤ g ∧ some g ≠ v.ownBlock) ∧ X g) w cs ts
theorem OwnT.start (X : Nat → Prop) (w : World) (B : Nat) : OwnT X w B (.slice none 0 0) [] := ⟨[], ⟨by simp, .inl ⟨rfl, rfl⟩⟩, CellsT.nil⟩
theorem OwnT.below {X : Nat → Prop} {w w' : World} {B : Nat} {v : Value} {ts : List (List Int)} (h : OwnT X w B v ts) (hb : Below w.heap.size w w') : OwnT X w' B v ts := by
  obtain ⟨cs, h1, h2⟩ := h
  exact ⟨cs, own_below h1 hb, h2.kept hb.size fun g hg s => ⟨hb.block g hg, s⟩⟩
theorem OwnT.lt {X : Nat → Prop} {w : World} {B g : Nat} {v : Value} {ts : List (List Int)} (h : OwnT X w B v ts) (hv : v.ownBlock = some g) : B ≤ g ∧ g < w.heap.size := by
  obtain ⟨cs, h1, _⟩ := h
  exact own_lt h1 hv
theorem OwnT.texts {X : Nat → Prop} {w : World} {B : Nat} {v : Value} {ts : List (List Int)} (h : OwnT X w B v ts) : ∃ A c, v = .slice A ts.length c ∧ ts.length ≤ c ∧ Texts (fun g => B ≤ g) w A ts := by
  obtain ⟨cs, h1, h2⟩ := h
  obtain ⟨A, c, e, hc, hl, r⟩ := Row.of_own h1
  exact ⟨A, c, e, hc, cs, h2.1, r.mono fun g _ s => s.1, fun k hk => by
    obtain ⟨A', c', e', r'⟩ := h2.2 k hk
    exact ⟨A', c', e', r'.mono fun g _ s => s.1.1⟩⟩
/-- behind an append -/
theorem OwnT.step {X : Nat → Prop} {w w' : World} {B : Nat} {v v' : Value} {ts us : List (List Int)} {cs ds : List Value} {o : Obj}
    (h2 : CellsT (fun g => (B ≤ g ∧ some g ≠ v.ownBlock) ∧ X g) w cs ts) (k2 : CellsT (fun g => (B ≤ g ∧ some g ≠ v.ownBlock) ∧ X g) w ds us)
    (hown : w'.ownsRow B 24 1 v' (ts.length + us.length) (cs ++ ds)) (hgrow : (w.alloc o).grownBy w' v.ownBlock) (hat : v'.ownBlock = v.ownBlock ∨ v'.ownBlock = some (w.heap.size + 1)) : OwnT X w' B v' (ts ++ us) := by
  refine ⟨cs ++ ds, by rw [List.length_append]; exact hown, ?_⟩
  have hs : (w.alloc o).heap.size = w.heap.size + 1 := by simp
  refine (h2.append k2).kept (by have := hgrow.size; omega) fun g hg s => ⟨?_, ⟨s.1.1, ?_⟩, s.2⟩
  · rw [hgrow.block g (by omega) s.1.2, Below.heap_alloc _ _ _ hg]
  · rcases hat with e | e
    · rw [e]; exact s.1.2
    · rw [e]; intro e'; injection e' with e'; omega

theorem Tryd.info24 : (Tryd.prog.info? 24).map (fun i => (i.zero, i.size, i.bytes)) = some (some (.slice none 0 0), 1, 24) := by kernel_rfl

end Go.Proofs.YtaihemmnpliehaaDoor
