/-
  Steps of ScrollMany: a Writer that has written, and writes once more.
-/
import Derived.Test.YtlambcmikfihgaaMany0
namespace Go.Proofs.Ytlambcmikfihgaa
open Go.RowKit

theorem off_of {w : World} {B b X : Nat} {v : Value} {l : List Int} (h : Wr w B b v l) (hX : X ≤ b) (hB : X ≤ B) {g : Nat} (hg : g < X) : OffW b v g :=
  ⟨by omega, fun e => by have := (own_lt h.own e.symm).1; omega⟩
theorem Wrote.beside {B b : Nat} {v : Value} {w0 w w' : World} {l : List Int} (h : Wrote B b v w0 l w) (hb : Below w.heap.size w w') : Wrote B b v w0 l w' := by
  obtain ⟨v1, h1, f1, t1⟩ := h
  exact ⟨v1, h1.below hb, ⟨hb.os.trans f1.os, hb.tape.trans f1.tape, hb.output.trans f1.output, Nat.le_trans f1.size hb.size, fun k hk h2 h3 => (hb.block k (by have := f1.size; omega)).trans (f1.block k hk h2 h3)⟩, t1⟩
theorem Wrote.block {B b X : Nat} {v : Value} {w0 w : World} {l : List Int} (h : Wrote B b v w0 l w) (hv : ∀ g, v.ownBlock = some g → X ≤ g) (hX : X ≤ b) {g : Nat} (hg : g < X) (hs : g < w0.heap.size) : w.heap[g]? = w0.heap[g]? := by
  obtain ⟨v1, h1, f1, t1⟩ := h
  exact f1.block g hs (by omega) (fun e => by have := hv g e.symm; omega)
theorem Wrote.size {B b : Nat} {v : Value} {w0 w : World} {l : List Int} (h : Wrote B b v w0 l w) : w0.heap.size ≤ w.heap.size := by
  obtain ⟨v1, h1, f1, t1⟩ := h
  exact f1.size

/-- once more, what lies at a slice of its own -/
theorem nums_more {B b c : Nat} {v0 : Value} {w0 w : World} {l : List Int} {xs : List Nat} {A : Option Addr} {X : Nat} (h : Wrote B b v0 w0 l w) (hX : X ≤ b) (hB : X ≤ B) (hr : Row (fun g => g < X) w A (u64s xs)) (hx : ∀ x ∈ xs, x < U64) (hl : l.length + 10 * xs.length ≤ 70368744177664) :
    Calls Try.prog 7 #[.pointer (some ⟨b, 0, none⟩), .slice A xs.length c] w fun e w' => e = .returned (.pointer (some ⟨b, 0, none⟩)) ∧ Wrote B b v0 w0 (l ++ xs.flatMap vi) w' := by
  obtain ⟨v1, h1, f1, t1⟩ := h
  exact (nums_any B b c v1 l xs A w h1 (hr.mono fun g _ s => off_of h1 hX hB s) hx hl).mono fun e w' ⟨he, hw⟩ => ⟨he, hw.more f1 t1⟩
theorem text_more {B b c : Nat} {v0 : Value} {w0 w : World} {l : List Int} {ts : List (List Int)} {A : Option Addr} {X : Nat} (h : Wrote B b v0 w0 l w) (hX : X ≤ b) (hB : X ≤ B) (hr : Texts (fun g => g < X) w A ts) (hx : ∀ t ∈ ts, t.length < U64) (hl : l.length + bulkT ts ≤ 70368744177664) (hn : ts.length ≤ 70368744177664) :
    Calls Try.prog 9 #[.pointer (some ⟨b, 0, none⟩), .slice A ts.length c] w fun e w' => e = .returned (.pointer (some ⟨b, 0, none⟩)) ∧ Wrote B b v0 w0 (l ++ ts.flatMap textB) w' := by
  obtain ⟨v1, h1, f1, t1⟩ := h
  exact (text_any B b c v1 l ts A w h1 (texts_kept hr (Nat.le_refl _) fun g _ s => ⟨rfl, off_of h1 hX hB s⟩) hx hl hn).mono fun e w' ⟨he, hw⟩ => ⟨he, hw.more f1 t1⟩
theorem vecs_more {B b c : Nat} {v0 : Value} {w0 w : World} {l : List Int} {vs : List (List Int)} {A : Option Addr} {X : Nat} (h : Wrote B b v0 w0 l w) (hX : X ≤ b) (hB : X ≤ B) (hr : Rows (fun g => g < X) w A vs) (hx : ∀ ys ∈ vs, (∀ y ∈ ys, I32 y) ∧ ys.length < U64) (hl : l.length + bulkV vs ≤ 70368744177664) (hn : vs.length ≤ 70368744177664) :
    Calls Try.prog 11 #[.pointer (some ⟨b, 0, none⟩), .slice A vs.length c] w fun e w' => e = .returned (.pointer (some ⟨b, 0, none⟩)) ∧ Wrote B b v0 w0 (l ++ vs.flatMap vecB) w' := by
  obtain ⟨v1, h1, f1, t1⟩ := h
  exact (vecs_any B b c v1 l vs A w h1 (rows_kept hr (Nat.le_refl _) fun g _ s => ⟨rfl, off_of h1 hX hB s⟩) hx hl hn).mono fun e w' ⟨he, hw⟩ => ⟨he, hw.more f1 t1⟩
/-- once more, what lies in a new block -/
theorem nums_step {B b : Nat} {v0 : Value} {w0 w : World} {l : List Int} {n : Nat} (h : Wrote B b v0 w0 l w) (hx : n < U64) (hl : l.length + 10 ≤ 70368744177664) :
    Calls Try.prog 7 #[.pointer (some ⟨b, 0, none⟩), .slice (some ⟨w.heap.size, 0, none⟩) 1 1] (w.alloc (.cells #[.int .u64 (n : Int)] 35)) fun e w' => e = .returned (.pointer (some ⟨b, 0, none⟩)) ∧ Wrote B b v0 w0 (l ++ vi n) w' := by
  obtain ⟨v1, h1, f1, t1⟩ := h
  refine (nums_any B b 1 v1 l [n] _ _ (h1.alloc _) (Row.one_new h1) (by simpa using hx) (by simpa using hl)).mono fun e w' ⟨he, hw⟩ => ⟨he, ?_⟩
  have := Wrote.next f1 t1 hw
  simpa using this
theorem text_step {B b c X : Nat} {v0 : Value} {w0 w : World} {l t : List Int} {A : Option Addr} (h : Wrote B b v0 w0 l w) (hX : X ≤ b) (hB : X ≤ B) (hr : Row (fun g => g < X) w A (u8s t)) (hx : t.length < U64) (hl : l.length + (t.length + 10) ≤ 70368744177664) :
    Calls Try.prog 9 #[.pointer (some ⟨b, 0, none⟩), .slice (some ⟨w.heap.size, 0, none⟩) 1 1] (w.alloc (.cells #[.slice A t.length c] 25)) fun e w' => e = .returned (.pointer (some ⟨b, 0, none⟩)) ∧ Wrote B b v0 w0 (l ++ textB t) w' := by
  obtain ⟨v1, h1, f1, t1⟩ := h
  refine (text_any B b 1 v1 l [t] _ _ (h1.alloc _) (texts_one h1 (hr.mono fun g _ s => off_of h1 hX hB s)) (by simpa using hx) (by simpa [bulkT] using hl) (by simp)).mono fun e w' ⟨he, hw⟩ => ⟨he, ?_⟩
  have := Wrote.next f1 t1 hw
  simpa using this
theorem vecs_step {B b c X : Nat} {v0 : Value} {w0 w : World} {l t : List Int} {A : Option Addr} (h : Wrote B b v0 w0 l w) (hX : X ≤ b) (hB : X ≤ B) (hr : Row (fun g => g < X) w A (i32s t)) (hx : (∀ y ∈ t, I32 y) ∧ t.length < U64) (hl : l.length + (10 * t.length + 10) ≤ 70368744177664) :
    Calls Try.prog 11 #[.pointer (some ⟨b, 0, none⟩), .slice (some ⟨w.heap.size, 0, none⟩) 1 1] (w.alloc (.cells #[.slice A t.length c] 40)) fun e w' => e = .returned (.pointer (some ⟨b, 0, none⟩)) ∧ Wrote B b v0 w0 (l ++ vecB t) w' := by
  obtain ⟨v1, h1, f1, t1⟩ := h
  refine (vecs_any B b 1 v1 l [t] _ _ (h1.alloc _) (rows_one h1 (hr.mono fun g _ s => off_of h1 hX hB s)) (by simpa using hx) (by simpa [bulkV] using hl) (by simp)).mono fun e w' ⟨he, hw⟩ => ⟨he, ?_⟩
  have := Wrote.next f1 t1 hw
  simpa using this
theorem bulkT_le {n : Nat} : ∀ {ts : List (List Int)}, (∀ t ∈ ts, t.length ≤ n) → bulkT ts ≤ (n + 10) * ts.length
  | [], _ => by simp [bulkT]
  | t :: ts, h => by
    have h1 := h t (List.mem_cons_self ..)
    have h2 := bulkT_le fun x hx => h x (List.mem_cons_of_mem t hx)
    unfold bulkT at h2 ⊢
    rw [List.map_cons, List.sum_cons, List.length_cons, Nat.mul_add]
    omega
theorem bulkV_le {n : Nat} : ∀ {ts : List (List Int)}, (∀ t ∈ ts, t.length ≤ n) → bulkV ts ≤ (10 * n + 10) * ts.length
  | [], _ => by simp [bulkV]
  | t :: ts, h => by
    have h1 := h t (List.mem_cons_self ..)
    have h2 := bulkV_le fun x hx => h x (List.mem_cons_of_mem t hx)
    unfold bulkV at h2 ⊢
    rw [List.map_cons, List.sum_cons, List.length_cons, Nat.mul_add]
    omega
theorem many_8 {xs : List Nat} {ts vs : List (List Int)} (ht : ∀ t ∈ ts, Bytes8 t) : Bytes8 (xs.flatMap vi) ∧ Bytes8 (ts.flatMap textB) ∧ Bytes8 (vs.flatMap vecB) := by
  refine ⟨fun x hx => ?_, fun x hx => ?_, fun x hx => ?_⟩
  · obtain ⟨n, _, h⟩ := List.mem_flatMap.1 hx
    exact vi_bytes n x h
  · obtain ⟨t, h1, h⟩ := List.mem_flatMap.1 hx
    rcases List.mem_append.1 h with h | h
    · exact vi_bytes _ x h
    · exact ht t h1 x h
  · obtain ⟨t, h1, h⟩ := List.mem_flatMap.1 hx
    rcases List.mem_append.1 h with h | h
    · exact vi_bytes _ x h
    · obtain ⟨y, _, hy⟩ := List.mem_flatMap.1 h
      exact vi_bytes _ x hy

end Go.Proofs.Ytlambcmikfihgaa
