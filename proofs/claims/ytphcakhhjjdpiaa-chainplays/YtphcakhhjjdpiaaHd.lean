/-
  A chain or a nil one, by one set of contracts; a script's row, cut in worlds.
-/
import Derived.Test.YtphcakhhjjdpiaaRPut
import Derived.Test.YtphcakhhjjdpiaaRefs
import Derived.Test.YtphcakhhjjdpiaaRSweep
import Derived.Test.YtphcakhhjjdpiaaBack
namespace Go.Proofs.Ytphcakhhjjdpiaa
open Go.RowKit

/-- A chain, or (nb) a nil one: then there lies an empty one that nobody has. -/
structure Hd (nb : Bool) (K : Nat → Prop) (w : World) (B b : Nat) (v : Value) (vs : List Ver) : Prop where
  chn : Chn K w B b v vs
  nil : nb = true → vs = []
def ptrOf (nb : Bool) (b : Nat) : Value := .pointer (if nb = true then none else some ⟨b, 0, none⟩)
def putN (nb : Bool) (vs : List Ver) (h : Ver) : Int := if nb = true then 6 else putE vs h
def putW (nb : Bool) (vs : List Ver) (h : Ver) : List Ver := if nb = true then vs else putV vs h

theorem hd_put (nb : Bool) (S K : Nat → Prop) (B b : Nat) (v : Value) (vs : List Ver) (h : Ver) (X : Option Addr) (c : Nat) (w : World) (H : Hd nb K w B b v vs) (hn : vs.length ≤ 900) (hr : Row S w X (i32s h.2)) (hl : h.2.length ≤ 1000) (hK : ∀ g, w.heap.size ≤ g → K g) :
    Calls Try.prog 14 #[ptrOf nb b, .agg #[.int .u64 h.1, .slice X h.2.length c]] w fun e w' => e = .returned (.int .i64 (putN nb vs h)) ∧ ∃ v', Hd nb K w' B b v' (putW nb vs h) ∧ Chg w w' b v v' := by
  cases nb with
  | true =>
    refine (put_nil h X c w).mono ?_
    rintro e w' ⟨rfl, hb⟩
    exact ⟨rfl, v, ⟨H.chn.below hb, H.nil⟩, Chg.of_below hb b v⟩
  | false =>
    refine (put_any S K B b v vs h X c w H.chn hn hr hl hK).mono ?_
    rintro e w' ⟨e1, v', L', C'⟩
    exact ⟨e1, v', ⟨L', fun e => by cases e⟩, C'⟩

theorem hd_at (nb : Bool) (K : Nat → Prop) (B b : Nat) (v : Value) (vs : List Ver) (s : Int) (w : World) (H : Hd nb K w B b v vs) (hg : GoodC vs) (hn : vs.length ≤ 1000) :
    Calls Try.prog 17 #[ptrOf nb b, .int .u64 s] w fun e w' => GaveAt w (asOf vs s) e w' := by
  cases nb with
  | true =>
    have := H.nil rfl
    subst this
    exact at_nil s w
  | false => exact at_any K B b v vs s w H.chn hg.rise hn hg.len

theorem hd_list (nb : Bool) (K : Nat → Prop) (B b : Nat) (v : Value) (vs : List Ver) (w : World) (H : Hd nb K w B b v vs) (hg : GoodC vs) (hn : vs.length ≤ 1000) :
    Calls Try.prog 21 #[ptrOf nb b] w fun e w' => GaveVers w vs e w' := by
  cases nb with
  | true =>
    have := H.nil rfl
    subst this
    exact list_nil w
  | false => exact list_any K B b v vs w H.chn hn hg.len

theorem hd_last (nb : Bool) (K : Nat → Prop) (B b : Nat) (v : Value) (vs : List Ver) (w : World) (H : Hd nb K w B b v vs) (hn : vs.length ≤ 1000) :
    Calls Try.prog 22 #[ptrOf nb b] w fun e w' => e = .returned (.int .u64 (lastS vs)) ∧ Below w.heap.size w w' := by
  cases nb with
  | true =>
    have := H.nil rfl
    subst this
    refine (last_nil w).mono ?_
    rintro e w' ⟨rfl, rfl⟩
    exact ⟨rfl, Below.refl _ _⟩
  | false =>
    refine (last_any K B b v vs w H.chn hn).mono ?_
    rintro e w' ⟨rfl, n, rfl⟩
    exact ⟨rfl, below_drewN (Below.refl _ _) n⟩

theorem hd_len (nb : Bool) (K : Nat → Prop) (B b : Nat) (v : Value) (vs : List Ver) (w : World) (H : Hd nb K w B b v vs) :
    Calls Try.prog 23 #[ptrOf nb b] w fun e w' => e = .returned (.int .i64 (vs.length : Int)) ∧ w = w' := by
  cases nb with
  | true =>
    have := H.nil rfl
    subst this
    exact len_nil w
  | false => exact len_any K B b v vs w H.chn

theorem hd_sweep (nb : Bool) (K : Nat → Prop) (B b : Nat) (v : Value) (vs : List Ver) (m : Int) (w : World) (H : Hd nb K w B b v vs) (hg : GoodC vs) (hn : vs.length ≤ 1000) :
    Calls Try.prog 12 #[ptrOf nb b, .int .u64 m] w fun e w' => ∃ A c v', e = .returned (.slice A (stamps (vs.take (swN vs m))).length c) ∧ Row (fun g => w.heap.size ≤ g) w' A (u64s (stamps (vs.take (swN vs m)))) ∧ Hd nb K w' B b v' (vs.drop (swN vs m)) ∧ Chg w w' b v v' := by
  cases nb with
  | true =>
    have h0 := H.nil rfl
    subst h0
    refine (sweep_nil m w).mono ?_
    rintro e w' ⟨rfl, hb⟩
    refine ⟨none, 0, v, by simp [stamps], ?_, ⟨by simpa using H.chn.below hb, by simp⟩, Chg.of_below hb b v⟩
    simpa [stamps, u64s] using Row.nil
  | false =>
    refine (sweep_any K B b v vs m w H.chn hg.rise hn).mono ?_
    rintro e w' ⟨A, c, v', e1, e2, e3, e4⟩
    exact ⟨A, c, v', e1, e2, ⟨e3, fun e => by cases e⟩, e4⟩

theorem Hd.kept {nb : Bool} {K K' : Nat → Prop} {w w' : World} {B b : Nat} {v : Value} {vs : List Ver} (h : Hd nb K w B b v vs) (hs' : w.heap.size ≤ w'.heap.size) (hb : w'.heap[b]? = w.heap[b]?) (hk : ∀ g, g < w.heap.size → some g = v.ownBlock → w'.heap[g]? = w.heap[g]?) (hK : ∀ g, g < w.heap.size → K g → w'.heap[g]? = w.heap[g]? ∧ K' g) : Hd nb K' w' B b v vs := ⟨h.chn.kept hs' hb hk hK, h.nil⟩
theorem Hd.mono {nb : Bool} {K K' : Nat → Prop} {w : World} {B b : Nat} {v : Value} {vs : List Ver} (h : Hd nb K w B b v vs) (hK : ∀ g, g < w.heap.size → K g → K' g) : Hd nb K' w B b v vs := ⟨h.chn.mono hK, h.nil⟩
theorem Hd.below {nb : Bool} {K : Nat → Prop} {w w' : World} {B b : Nat} {v : Value} {vs : List Ver} (h : Hd nb K w B b v vs) (hb : Below w.heap.size w w') : Hd nb K w' B b v vs := ⟨h.chn.below hb, h.nil⟩

/-- blocks that a chain doesn't write -/
def Off (b : Nat) (v : Value) (g : Nat) : Prop := g ≠ b ∧ some g ≠ v.ownBlock
theorem Off.chg {w w' : World} {b g : Nat} {v v' : Value} (h : Off b v g) (hC : Chg w w' b v v') (hg : g < w.heap.size) : Off b v' g := ⟨h.1, fun e => by
  rcases hC.new with e' | ⟨g', e', hg'⟩
  · exact h.2 (e.trans e')
  · rw [e'] at e; injection e with e; omega⟩
theorem VersAt.chg {S K : Nat → Prop} {w w' : World} {b : Nat} {v v' : Value} {A : Option Addr} {vs : List Ver} (h : VersAt S K w A vs) (hC : Chg w w' b v v') (hS : ∀ g, g < w.heap.size → S g → Off b v g) (hK : ∀ g, g < w.heap.size → K g → Off b v g) : VersAt (fun g => g < w.heap.size ∧ S g ∧ Off b v' g) (fun g => g < w.heap.size ∧ K g ∧ Off b v' g) w' A vs := by
  have h1 : VersAt (fun g => g < w.heap.size ∧ S g ∧ Off b v' g) (fun g => g < w.heap.size ∧ K g ∧ Off b v' g) w A vs := h.mono (fun g hg s => ⟨hg, s, (hS g hg s).chg hC hg⟩) (fun g hg s => ⟨hg, s, (hK g hg s).chg hC hg⟩)
  refine h1.kept hC.size fun g hg s => ?_
  rcases s with s | s
  · have := hS g hg s.2.1; exact hC.block g hg this.1 this.2
  · have := hK g hg s.2.1; exact hC.block g hg this.1 this.2

end Go.Proofs.Ytphcakhhjjdpiaa
