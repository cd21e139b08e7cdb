/-
  What both graphs answer, whatever is asked; of no graphs, too.
-/
import Derived.Test.YtdfmgfclcbeeiaaManyM
import Derived.Test.YtdfmgfclcbeeiaaSidesM
namespace Go.Proofs.Ytdfmgfclcbeeiaa
open Go.RowKit Go.Maps Go.Sort
set_option linter.unusedSimpArgs false
set_option linter.unusedVariables false

/-- new memory that reads as l -/
def SameL (W : World) (l : List Int) (e : Ending) (w' : World) : Prop := ∃ (A : Option Addr) (c : Nat), e = .returned (.slice A l.length c) ∧ Row w' A (us l) ∧ Below W.heap.size W w'
theorem RowK.same {W w' : World} {p : Int → Prop} {e : Ending} {l : List Int} (h : RowK W p e w') (hl : Rise p l) : SameL W l e w' := by
  obtain ⟨A, c, m, zs, rfl, hm, _, _, hr, hri, _, hb⟩ := h
  have : zs = l := rise_one hri hl
  subst this
  subst hm
  exact ⟨A, c, rfl, hr, hb⟩
theorem GivesL.same {W w' : World} {e : Ending} {l : List Int} (h : GivesL W l e w') : SameL W l e w' := by
  obtain ⟨A, c, rfl, ho, hb⟩ := h
  obtain ⟨A', c', he, _, hr⟩ := Row.of_own ho
  injection he with e1 _ e3
  subst e1 e3
  exact ⟨A, c, rfl, hr, hb⟩
theorem SameL.nil (W : World) : SameL W [] (.returned (.slice none 0 0)) W := ⟨none, 0, rfl, Row.nil, Below.refl _ _⟩

/-- what is answered to the two keys a, c in any world behind wr -/
structure Ask (pg px : Value) (a c : Int) (L1 L2 L3 : List Int) (hv : Bool) (wr : World) : Prop where
  near : ∀ W, Below wr.heap.size wr W → Calls Try.prog 14 #[pg, .int .u64 a] W (SameL W L1)
  dnear : ∀ W, Below wr.heap.size wr W → Calls Try.prog 15 #[px, .int .u64 a, .bool false] W (SameL W L1)
  soft : ∀ W, Below wr.heap.size wr W → Calls Try.prog 16 #[pg, .int .u64 c] W (SameL W L2)
  dsoft : ∀ W, Below wr.heap.size wr W → Calls Try.prog 15 #[px, .int .u64 c, .bool true] W (SameL W L2)
  reach : ∀ W, Below wr.heap.size wr W → Calls Try.prog 17 #[pg, .int .u64 c] W (SameL W L3)
  dreach : ∀ W, Below wr.heap.size wr W → Calls Try.prog 18 #[px, .int .u64 c, .bool false] W (SameL W L3)
  has : ∀ W, Below wr.heap.size wr W → Calls Try.prog 19 #[pg, .int .u64 c] W fun e w' => e = .returned (.bool hv) ∧ w' = W
  dhas : ∀ W, Below wr.heap.size wr W → Calls Try.prog 20 #[px, .int .u64 c] W fun e w' => e = .returned (.bool hv) ∧ w' = W
  len : L1.length ≤ 1000 ∧ L2.length ≤ 1000 ∧ L3.length ≤ 1000

theorem Ask.none (a c : Int) (wr : World) : Ask (.pointer none) (.pointer none) a c [] [] [] false wr where
  near W _ := (near_nil W a).mono fun e w' ⟨h1, h2⟩ => by subst h1 h2; exact SameL.nil _
  dnear W _ := (rnear_nil W a false).mono fun e w' ⟨h1, h2⟩ => by subst h1 h2; exact SameL.nil _
  soft W _ := (soft_nil W c).mono fun e w' ⟨h1, h2⟩ => by subst h1 h2; exact SameL.nil _
  dsoft W _ := (rnear_nil W c true).mono fun e w' ⟨h1, h2⟩ => by subst h1 h2; exact SameL.nil _
  reach W _ := (reach_nil W c).mono fun e w' ⟨h1, h2⟩ => by subst h1 h2; exact SameL.nil _
  dreach W _ := (rreach_nil W c false).mono fun e w' ⟨h1, h2⟩ => by subst h1 h2; exact SameL.nil _
  has W _ := has_nil W c
  dhas W _ := rhas_nil W c
  len := by simp

theorem GS.has {w : World} {B b mb L : Nat} {N : List Int} {f : Int → Int → Int} (h : GS w B b mb N f L) {y : Int} (hy : U64 y) : Calls Try.prog 19 #[.pointer (some ⟨b, 0, none⟩), .int .u64 y] w fun e w' => e = .returned (.bool (hasN N y)) ∧ w' = w := by
  obtain ⟨n, D, nb, h1, h2, h3⟩ := h
  have e : (nb y).isSome = hasN N y := by
    cases h4 : hasN N y with
    | true => exact (h3 y).2 (hasN_iff.1 h4)
    | false =>
      cases h5 : (nb y).isSome with
      | false => rfl
      | true => exact absurd ((h3 y).1 h5) (hasN_not.1 h4)
  rw [← e]
  exact has_any h1 hy

theorem near_rise {N : List Int} {E : List Edg} (h : GoodE N E) (k : Int) : Rise (fun z => fE E k z ≠ 0) (nearL E k false) :=
  ⟨(nearL_rise false k N E h).1, fun y => ((nearL_rise false k N E h).2 y).trans (by
    show (∃ e ∈ E, okE false e = true ∧ lnk e k y = true) ↔ fE E k y ≠ 0
    rw [fE_ne]
    simp [okE])⟩
theorem soft_rise {N : List Int} {E : List Edg} (h : GoodE N E) (k : Int) : Rise (fun z => fE E k z = 1) (nearL E k true) :=
  ⟨(nearL_rise true k N E h).1, fun y => ((nearL_rise true k N E h).2 y).trans (by
    show (∃ e ∈ E, okE true e = true ∧ lnk e k y = true) ↔ fE E k y = 1
    rw [fE_one h]
    constructor
    · rintro ⟨e, h1, h2, h3⟩; exact ⟨e, h1, h3, by simpa [okE] using h2⟩
    · rintro ⟨e, h1, h2, h3⟩; exact ⟨e, h1, by simp [okE, h3], h2⟩)⟩
/-- what is reached -/
def reachL (N : List Int) (E : List Edg) (y : Int) : List Int := if hasN N y then roundsL E false [y] N.length else []
theorem reach_rise {N : List Int} {E : List Edg} (h : GoodE N E) (hN : N.Pairwise (fun x y => x < y)) (k : Int) : Rise (fun z => k ∈ N ∧ Way (fun p q => fE E p q ≠ 0) k z) (reachL N E k) := by
  unfold reachL
  cases hk : hasN N k with
  | false => exact ⟨by simp, fun y => by simp [hasN_not.1 hk]⟩
  | true =>
    have hr := roundsL_rise h (hN.imp fun h => by omega) false (hasN_iff.1 hk)
    refine ⟨hr.1, fun y => ?_⟩
    have h1 : ∀ p q, RE E false p q ↔ fE E p q ≠ 0 := fun p q => by
      rw [fE_ne]
      unfold RE
      simp
    rw [if_pos rfl, hr.2 y]
    constructor
    · exact fun hw => ⟨hasN_iff.1 hk, hw.mono fun p q hh => (h1 p q).1 hh⟩
    · exact fun hw => hw.2.mono fun p q hh => (h1 p q).2 hh

theorem TwoS.ask {w0 wr : World} {B b mb x L : Nat} {N : List Int} {E : List Edg} (h : TwoS w0 B b mb x L N E wr) (hL : L ≤ 1000) {a c : Int} (ha : U64 a) (hc : U64 c) :
    Ask (.pointer (some ⟨b, 0, none⟩)) (.pointer (some ⟨x, 0, none⟩)) a c (nearL E a false) (nearL E c true) (reachL N E c) (hasN N c) wr where
  near W hW := (h.near hL hW ha).mono fun _ _ hh => hh.same (near_rise h.good a)
  dnear W hW := by
    obtain ⟨vN, vE, hr⟩ := (h.go hW).r
    exact (rnear_any hr (by have := h.el; omega) false).mono fun _ _ hh => hh.same
  soft W hW := (h.soft hL hW hc).mono fun _ _ hh => hh.same (soft_rise h.good c)
  dsoft W hW := by
    obtain ⟨vN, vE, hr⟩ := (h.go hW).r
    exact (rnear_any hr (by have := h.el; omega) true).mono fun _ _ hh => hh.same
  reach W hW := (h.reach hL hW hc).mono fun _ _ hh => hh.same (reach_rise h.good h.rise c)
  dreach W hW := by
    have hh := h.go hW
    obtain ⟨vN, vE, hr⟩ := hh.r
    exact (rreach_any hr hh.lo2 (by have := h.nl; omega) (by have := h.el; omega) false).mono fun _ _ hh => hh.same
  has W hW := (h.go hW).g.has hc
  dhas W hW := by
    obtain ⟨vN, vE, hr⟩ := (h.go hW).r
    exact rhas_any hr (by have := h.nl; omega) c
  len := ⟨Nat.le_trans (nearL_len _ _ _) (Nat.le_trans h.el hL), Nat.le_trans (nearL_len _ _ _) (Nat.le_trans h.el hL), Nat.le_trans (rise_short (reach_rise h.good h.rise c) fun y hy => reach_in h.good hy.1 hy.2) (Nat.le_trans h.nl hL)⟩

set_option maxRecDepth 100000 in
set_option maxHeartbeats 4000000 in
/-- do on no graphs -/
theorem do_nil (w : World) {d A C : Int} (hd0 : 0 ≤ d) (hd1 : d < 256) :
    Calls Try.prog 12 #[.pointer none, .pointer none, .agg #[.int .u8 d, .int .u64 A, .int .u64 C]] w fun e w' => e = .returned (.bool true) ∧ Below w.heap.size w w' := by
  obtain ⟨m, hm⟩ : ∃ m, m = d % 6 := ⟨_, rfl⟩
  have d1 : d.tmod 6 = m := by rw [hm, Int.tmod_eq_emod_of_nonneg hd0]
  have d2 : d % 6 = m := hm.symm
  have hd : m = 2 ∨ m = 3 ∨ m = 4 ∨ m = 5 ∨ m = 0 ∨ m = 1 := by omega
  have HB : Hid (∀ q, Below w.heap.size w ((w.alloc (.cells #[.int .u8 d, .int .u64 A, .int .u64 C] 34)).drewN q)) := fun q => ⟨rfl, rfl, rfl, by simp [World.drewN], fun i hi => Below.heap_alloc w _ i hi⟩
  clear hm
  rcases hd with rfl | rfl | rfl | rfl | rfl | rfl
  all_goals
    go_enter Try.func12, Try.ntmps12
    go_wp2_with fail
    go_quiet (first
      | (go_at_call 25; with_reducible exact Calls.quiet_of_same (bind_nil _ _ _))
      | (go_at_call 29; with_reducible exact Calls.quiet_of_same (rbind_nil _ _ _))
      | (go_at_call 27; with_reducible exact Calls.quiet_of_same (link_nil _ _ _))
      | (go_at_call 30; with_reducible exact Calls.quiet_of_same (rlink_nil _ _ _))
      | (go_at_call 24; with_reducible exact Calls.quiet_of_same (cut_nil _ _ _))
      | (go_at_call 31; with_reducible exact Calls.quiet_of_same (rcut_nil _ _ _))
      | (go_at_call 26; with_reducible exact Calls.quiet_of_same (add_nil _ _))
      | (go_at_call 11; with_reducible exact Calls.quiet_of_same (radd_nil _ _)))
    go_wp2_with fail
    go_ret
    exact ⟨rfl, HB.out _⟩

/-- what do leaves on either -/
def DoR (SP : Nat → World → Prop) (pg px : Value) (k q : Nat) (z0 z1 z2 : Int) (e : Ending) (wd : World) : Prop :=
  e = .returned (.bool true) ∧ SP (10 + min (k + 1) 60) wd ∧ (∀ W, Below wd.heap.size wd W → W.cell? ⟨q, 0, none⟩ = some (.int .u8 z0) ∧ W.cell? ⟨q, 1, none⟩ = some (.int .u64 z1) ∧ W.cell? ⟨q, 2, none⟩ = some (.int .u64 z2)) ∧
    ∃ L1 L2 L3 hv, Ask pg px z1 z2 L1 L2 L3 hv wd
theorem box_cells {W : World} {q : Nat} {z0 z1 z2 : Int} (h : W.heap[q]? = some (.cells #[.int .u8 z0, .int .u64 z1, .int .u64 z2] 34 (0, 0))) : W.cell? ⟨q, 0, none⟩ = some (.int .u8 z0) ∧ W.cell? ⟨q, 1, none⟩ = some (.int .u64 z1) ∧ W.cell? ⟨q, 2, none⟩ = some (.int .u64 z2) := by
  simp [World.cell?, h]
theorem box_new (W0 : World) (z0 z1 z2 : Int) : ((W0.alloc (.cells #[.int .u8 z0, .int .u64 z1, .int .u64 z2] 34)).drew).heap[W0.heap.size]? = some (.cells #[.int .u8 z0, .int .u64 z1, .int .u64 z2] 34 (0, 0)) := heap_alloc_new W0 _
theorem box_below (W0 : World) (z0 z1 z2 : Int) : Below W0.heap.size W0 ((W0.alloc (.cells #[.int .u8 z0, .int .u64 z1, .int .u64 z2] 34)).drew) := ((Below.refl _ _).alloc (Nat.le_refl _) _).drew
/-- where the law stands with graphs -/
def SP2 (w0 : World) (B b mb x : Nat) (L : Nat) (wr : World) : Prop := ∃ N E, TwoS w0 B b mb x L N E wr
theorem doR_two {w0 W0 : World} {B b mb x k : Nat} {o : OpG} (h60 : k < 60) (h : SP2 w0 B b mb x (10 + min k 60) W0) (ho : (0 ≤ o.1 ∧ o.1 < 256) ∧ U64 o.2.1 ∧ U64 o.2.2) :
    Calls Try.prog 12 #[.pointer (some ⟨b, 0, none⟩), .pointer (some ⟨x, 0, none⟩), .agg #[.int .u8 o.1, .int .u64 o.2.1, .int .u64 o.2.2]] ((W0.alloc (.cells #[.int .u8 o.1, .int .u64 o.2.1, .int .u64 o.2.2] 34)).drew) (DoR (SP2 w0 B b mb x) (.pointer (some ⟨b, 0, none⟩)) (.pointer (some ⟨x, 0, none⟩)) k W0.heap.size o.1 o.2.1 o.2.2) := by
  obtain ⟨N, E, hT⟩ := h
  refine (hT.doo (by omega) ho (box_below W0 _ _ _)).mono ?_
  rintro e wd ⟨rfl, ⟨N', E', hT'⟩, hk⟩
  have e1 : 10 + min k 60 + 1 = 10 + min (k + 1) 60 := by omega
  rw [e1] at hT'
  have hb := hk.cells _ _ _ _ (box_new W0 o.1 o.2.1 o.2.2) (by decide) (by decide)
  exact ⟨rfl, ⟨N', E', hT'⟩, fun W hW => box_cells ((hW.block _ (lt_of_block hb)).trans hb), _, _, _, _, hT'.ask (by omega) ho.2.1 ho.2.2⟩
/-- .. and without any -/
def SP0 (w0 : World) (_ : Nat) (wr : World) : Prop := Below w0.heap.size w0 wr
theorem doR_nil {w0 W0 : World} {k : Nat} {o : OpG} (h : SP0 w0 (10 + min k 60) W0) (ho : (0 ≤ o.1 ∧ o.1 < 256) ∧ U64 o.2.1 ∧ U64 o.2.2) :
    Calls Try.prog 12 #[.pointer none, .pointer none, .agg #[.int .u8 o.1, .int .u64 o.2.1, .int .u64 o.2.2]] ((W0.alloc (.cells #[.int .u8 o.1, .int .u64 o.2.1, .int .u64 o.2.2] 34)).drew) (DoR (SP0 w0) (.pointer none) (.pointer none) k W0.heap.size o.1 o.2.1 o.2.2) := by
  refine (do_nil _ ho.1.1 ho.1.2).mono ?_
  rintro e wd ⟨rfl, hk⟩
  have hb := (hk.block _ (lt_of_block (box_new W0 o.1 o.2.1 o.2.2))).trans (box_new W0 o.1 o.2.1 o.2.2)
  have h1 := h.trans ((box_below W0 o.1 o.2.1 o.2.2).mono h.size)
  exact ⟨rfl, h1.trans (hk.mono h1.size), fun W hW => box_cells ((hW.block _ (lt_of_block hb)).trans hb), _, _, _, _, Ask.none _ _ _⟩

/-- where the law stands while the document's nodes are laid -/
structure AddS (w0 : World) (B b mb x B0 : Nat) (v : Value) (ks : List Int) (j : Nat) (wr : World) : Prop where
  g : GS wr B b mb ks (fE []) 20
  r : ∃ N, RS wr B x N [] ∧ N.Pairwise (fun x y => x < y) ∧ (∀ z, z ∈ N ↔ z ∈ ks.take j) ∧ N.length ≤ j
  row : wr.ownsRow B0 31 1 v ks.length (us ks)
  low : w0.heap.size ≤ B
  lo2 : B ≤ wr.heap.size
  below : Below w0.heap.size w0 wr
theorem AddS.step {w0 wr : World} {B b mb x B0 j : Nat} {v : Value} {ks : List Int} (h : AddS w0 B b mb x B0 v ks j wr) (hj : j < ks.length) (hl : ks.length ≤ 10) :
    Calls Try.prog 11 #[.pointer (some ⟨x, 0, none⟩), .int .u64 (ks.getD j 0)] wr fun e w' => (∃ r : Int, e = .returned (.int .i64 r)) ∧ AddS w0 B b mb x B0 v ks (j + 1) w' := by
  obtain ⟨N, ⟨vN, vE, hr⟩, h1, h2, h3⟩ := h.r
  refine (radd_any hr h.lo2 (by omega)).mono ?_
  rintro e w' ⟨rfl, hk, v', hr'⟩
  refine ⟨⟨_, rfl⟩, h.g.rkept hk, ⟨addN N (ks.getD j 0), ⟨_, _, hr'⟩, addN_rise h1 _, fun z => ?_, by have := addN_len N (ks.getD j 0); omega⟩, hk.tk.own (by decide) (by decide) h.row, h.low, by have := hk.below.size; have := h.lo2; omega, h.below.trans (hk.below.mono h.low)⟩
  rw [take_snoc ks j hj, List.mem_append, ← h2 z]
  unfold addN
  cases hh : hasN N (ks.getD j 0) with
  | true =>
    rw [if_pos rfl]
    constructor
    · exact .inl
    · rintro (h | h)
      · exact h
      · simp at h; subst h; exact hasN_iff.1 hh
  | false =>
    rw [if_neg (by decide), putL_mem]
    simp [or_comm]
theorem AddS.two {w0 wr : World} {B b mb x B0 : Nat} {v : Value} {ks : List Int} (h : AddS w0 B b mb x B0 v ks ks.length wr) (hl : ks.length ≤ 10) (hu : ∀ z ∈ ks, U64 z) : ∃ N, TwoS w0 B b mb x 10 N [] wr := by
  obtain ⟨N, hr, h1, h2, h3⟩ := h.r
  rw [List.take_length] at h2
  exact ⟨N, h.g.congr fun z => (h2 z).symm, hr, ⟨by simp, by simp, by simp⟩, h1, fun z hz => hu z ((h2 z).1 hz), by omega, by simp, h.low, h.lo2, h.below⟩

end Go.Proofs.Ytdfmgfclcbeeiaa
