/-
  The law NetMany: where it stands.
-/
import Derived.Test.YtalifbajihkenaaNLet2
import Derived.Test.YtalifbajihkenaaOrdM
namespace Go.Proofs.Ytalifbajihkenaa
open Go.RowKit Go.Maps
set_option linter.unusedSimpArgs false
set_option linter.unusedVariables false

theorem Lts.of_own {X Z : Nat → Prop} {w : World} {base e n : Nat} {u : Value} {cs : List Value} {ls : List L3} (ho : w.ownsRow base e 3 u n cs) (hn : ls.length = n) (h : LetC 0 X w cs ls) (hz : ∀ g, Z g → X g) : ∃ A c, u = .slice A n c ∧ n ≤ c ∧ Lts Z w A ls := by
  subst hn
  rcases ho.2 with ⟨e1, e2⟩ | ⟨g, cap, cur, e1, hg, hh, hnc, _⟩
  · exact ⟨none, 0, by rw [e1, e2], by omega, fun j hj => by omega⟩
  · refine ⟨_, cap, e1, hnc, fun j hj => ?_⟩
    obtain ⟨c0, c1, Y, cy, c2, k1, k2, k3⟩ := h j hj
    refine ⟨_, rfl, lt_of_block hh, ho.cells (by rw [e1]; rfl) _ _ c0, ?_, Y, cy, ?_, k1, k2, fun a ea => ⟨fun z => (k3 a ea (Nat.zero_le _)).1 (hz _ z), (k3 a ea (Nat.zero_le _)).2⟩⟩
    · have := ho.cells (g := g) (by rw [e1]; rfl) _ _ c1
      rw [lit_add] at this ⊢
      simpa [Nat.add_assoc] using this
    · have := ho.cells (g := g) (by rw [e1]; rfl) _ _ c2
      rw [lit_add] at this ⊢
      simpa [Nat.add_assoc] using this

/-- two nets, the first of them empty, and a row of letters -/
structure M1 (w0 : World) (Ba ba mba Bb bb mbb : Nat) (L F : List L3) (u v : Value) (wr : World) : Prop where
  a : Nt wr Ba ba mba 0 4 (.slice none 0 0) [] noSp
  b : Nt wr Bb bb mbb 0 4 v F noSp
  row : ∃ cs, wr.ownsRow Bb 37 3 v F.length cs ∧ NoB (fun g => u.ownBlock = some g ∨ g < Bb ∨ wr.heap.size ≤ g) cs
  off : ∀ g, u.ownBlock = some g → ¬ NB bb mbb v g
  all : ∃ ca, wr.ownsRow Bb 37 3 u L.length ca ∧ LetC 0 (fun g => u.ownBlock = some g ∨ NB bb mbb v g ∨ g < Bb) wr ca L
  below : Below w0.heap.size w0 wr
  base : w0.heap.size ≤ Ba ∧ ba < Bb ∧ mba < Bb ∧ Bb ≤ wr.heap.size
section
variable {w0 wr w w' W : World} {Ba ba mba Bb bb mbb : Nat} {L F : List L3} {u v : Value}
theorem M1.go (h : M1 w0 Ba ba mba Bb bb mbb L F u v wr) (hW : Below wr.heap.size wr W) : M1 w0 Ba ba mba Bb bb mbb L F u v W := by
  have hs := hW.size
  obtain ⟨cs, k1, k2⟩ := h.row
  obtain ⟨ca, m1, m2⟩ := h.all
  refine ⟨h.a.below hW, h.b.below hW, ⟨cs, own_below k1 hW, k2.mono fun g hg => ?_⟩, h.off, ⟨ca, own_below m1 hW, m2.kept (by decide) hs (fun g hg _ => hW.block g hg) fun g _ z => z⟩, h.below.trans (hW.mono h.below.size), h.base.1, h.base.2.1, h.base.2.2.1, Nat.le_trans h.base.2.2.2 hs⟩
  rcases hg with e | e | e
  · exact .inl e
  · exact .inr (.inl e)
  · exact .inr (.inr (by omega))
theorem M1.not (h : M1 w0 Ba ba mba Bb bb mbb L F u v wr) : ∀ q, (q = ba ∨ q = mba) → q < Bb := fun q e => by
  have := h.base
  rcases e with e | e <;> omega
theorem M1.netB (h : M1 w0 Ba ba mba Bb bb mbb L F u v wr) : ∀ q, NB bb mbb v q → Bb ≤ q ∧ q < wr.heap.size := fun q e => by
  refine ⟨?_, ?_⟩
  · rcases e with e | e | e
    · rw [e]; exact h.b.low.1
    · rw [e]; exact h.b.low.2.1
    · exact h.b.low.2.2 q e
  · rcases Nat.lt_or_ge q wr.heap.size with h1 | h1
    · exact h1
    · exact absurd e (h.b.fresh q h1)
/-- a's net, when blocks from Bb on change -/
theorem M1.keepA (h : M1 w0 Ba ba mba Bb bb mbb L F u v wr) (hs : wr.heap.size ≤ W.heap.size) (hk : ∀ g, g < Bb → W.heap[g]? = wr.heap[g]?) : Nt W Ba ba mba 0 4 (.slice none 0 0) [] noSp :=
  h.a.away (X := fun g => Bb ≤ g) (fun A c e j hj => by simp at hj) (fun q hq e => by
    rcases e with e | e | e
    · have := h.base; omega
    · have := h.base; omega
    · cases e) hs fun g _ hg => hk g (by omega)
/-- a letter more in the row -/
theorem M1.put (h : M1 w0 Ba ba mba Bb bb mbb L F u v wr) (hW : Below wr.heap.size wr W) : ∃ ca, W.ownsRow Bb 37 3 u L.length ca ∧ ∀ (f t : Int) (p : List Int) (Y : Option Addr) (cy : Nat) (u' : Value) (w' : World), p.length ≤ cy → Row W Y (bs p) → (∀ a, Y = some a → wr.heap.size ≤ a.block ∧ a.block < W.heap.size) →
    w'.ownsRow Bb 37 3 u' (L.length + 1) (ca ++ [.int .i64 f, .int .i64 t, .slice Y p.length cy]) → W.grownBy w' u.ownBlock → (u'.ownBlock = u.ownBlock ∨ u'.ownBlock = some W.heap.size) → M1 w0 Ba ba mba Bb bb mbb (L ++ [(f, t, p)]) F u' v w' := by
  have g := h.go hW
  obtain ⟨ca, m1, m2⟩ := g.all
  refine ⟨ca, m1, fun f t p Y cy u' w' hp hr hY ho hg hu => ?_⟩
  obtain ⟨cs, k1, k2⟩ := g.row
  have hs := hg.size
  have hsW := hW.size
  have hu0 : ∀ q, u.ownBlock = some q → Bb ≤ q ∧ q < W.heap.size := fun q e => own_lt m1 e
  have hu' : ∀ q, u'.ownBlock = some q → u.ownBlock = some q ∨ q = W.heap.size := fun q e => by
    rcases hu with e1 | e1
    · exact .inl (e1.symm.trans e)
    · rw [e1] at e; injection e with e; exact .inr e.symm
  refine ⟨g.keepA hs fun q hq => hg.block q (by have := g.base; omega) fun e => by have := (hu0 q e.symm).1; omega,
    g.b.away (X := fun g => u.ownBlock = some g) (Off.of_own g.b k1 (k2.mono fun q e => .inl e)) g.off hs fun q hq hn => hg.block q hq (Ne.symm hn),
    ⟨cs, own_kept k1 hg fun q e1 e2 => g.off q e2 (.inr (.inr e1)), k2.mono fun q hq => ?_⟩, fun q e => ?_, ⟨_, by simpa using ho, ?_⟩,
    g.below.grown hg (by have := g.below.size; omega) (fun q e => by have := (hu0 q e).1; have := g.base; have := g.a.low.1; omega), g.base.1, g.base.2.1, g.base.2.2.1, Nat.le_trans g.base.2.2.2 hs⟩
  · rcases hq with e | e | e
    · rcases hu' q e with e | e
      · exact .inl e
      · exact .inr (.inr (by omega))
    · exact .inr (.inl e)
    · exact .inr (.inr (by omega))
  · rcases hu' q e with e | e
    · exact g.off q e
    · intro hx; have := (g.netB q hx).2; omega
  · refine (m2.snoc m1.1 hp hr fun a ea _ => ⟨fun hx => ?_, (hY a ea).2⟩).kept (by decide) hs (fun q hq hn => hg.block q hq fun e => hn (.inl e.symm)) fun q hq hz => ?_
    · have hb := (hY a ea).1
      rcases hx with e | e | e
      · obtain ⟨ca0, m0, _⟩ := h.all
        have := (own_lt m0 e).2; omega
      · have := (h.netB _ e).2; omega
      · have := h.base; omega
    · rcases hz with e | e
      · rcases hu' q e with e | e
        · exact .inl e
        · omega
      · exact .inr e

/-- a letter is posted -/
theorem M1.post (h : M1 w0 Ba ba mba Bb bb mbb L F u v wr) {f t : Int} {p : List Int} {Y : Option Addr} {cy gl : Nat} (hl : wr.heap[gl]? = some (.cells #[.int .i64 f, .int .i64 t, .slice Y p.length cy] 37 (0, 0)))
    (hgl : ¬ NB bb mbb v gl) (hp : p.length ≤ cy) (hr : Row wr Y (bs p)) (hY : ∀ a, Y = some a → ¬ NB bb mbb v a.block ∧ a.block < wr.heap.size) (hpl : p.length ≤ 70368744177664) (hF : F.length ≤ 1000) :
    Calls Try.prog 21 #[.pointer (some ⟨bb, 0, none⟩), .slice (some ⟨gl, 0, none⟩) 1 1] wr fun e w' => e = .returned (.int .i64 ([((f, t, p) : L3)].filter (postB 4)).length) ∧ ∃ v', M1 w0 Ba ba mba Bb bb mbb L (F ++ [((f, t, p) : L3)].filter (postB 4)) u v' w' := by
  obtain ⟨cs, k1, k2⟩ := h.row
  obtain ⟨ca, m1, m2⟩ := h.all
  have hin : Lts (NB bb mbb v) wr (some ⟨gl, 0, none⟩) [((f, t, p) : L3)] := lts_of hl fun j hj => by
    have hj2 : j = 0 := by simp at hj; omega
    subst hj2
    exact ⟨rfl, rfl, Y, cy, rfl, hp, hr, hY⟩
  refine (post_more (c := 1) h.b k1 hin (fun a ea => by injection ea with ea; subst ea; exact hgl) (by simp; omega) (by simp; omega)).mono ?_
  rintro e w' ⟨rfl, v', cs', q1, q2, q3, q4, ns, rfl, q5⟩
  have hsz := q3.below.size
  have hlow : ∀ q, q < Bb → w'.heap[q]? = wr.heap[q]? := fun q hq => q3.below.block q hq
  refine ⟨rfl, v', h.keepA hsz hlow, q1, ⟨_, q2, ?_⟩, fun q e hx => ?_, ⟨ca, ?_, ?_⟩, h.below.trans (q3.below.mono (by have := h.base; have := h.a.low.1; omega)), h.base.1, h.base.2.1, h.base.2.2.1, Nat.le_trans h.base.2.2.2 hsz⟩
  · refine (k2.mono fun q hq => ?_).append fun a n c hm hx => ?_
    · rcases hq with e | e | e
      · exact .inl e
      · exact .inr (.inl e)
      · exact .inr (.inr (by omega))
    · have h5 := q5 a n c hm
      have := h.base
      rcases hx with e | e | e
      · have := (own_lt m1 e).2; omega
      · omega
      · omega
  · have hlt := (own_lt m1 e).2
    rcases hx with e1 | e1 | e1
    · exact h.off q e (.inl e1)
    · exact h.off q e (.inr (.inl e1))
    · rcases q4 q e1 with e2 | e2
      · exact h.off q e (.inr (.inr e2))
      · omega
  · refine ⟨m1.1, ?_⟩
    rcases m1.2 with e | ⟨g, cap, cur, e, hb, hh, r⟩
    · exact .inl e
    · exact .inr ⟨g, cap, cur, e, hb, (q3.same g (lt_of_block hh) (h.off g (by rw [e]; rfl))).trans hh, r⟩
  · refine m2.kept (by decide) hsz (fun g hg hn => q3.same g hg fun e => hn (.inr (.inl e))) fun q hq hz => ?_
    rcases hz with e | (e | e | e) | e
    · exact .inl e
    · exact .inr (.inl (.inl e))
    · exact .inr (.inl (.inr (.inl e)))
    · rcases q4 q e with e2 | e2
      · exact .inr (.inl (.inr (.inr e2)))
      · omega
    · exact .inr (.inr e)

/-- all are posted at once -/
theorem M1.last (h : M1 w0 Ba ba mba Bb bb mbb L F u v wr) (hp : ∀ l ∈ L, l.2.2.length ≤ 70368744177664) (hL : L.length ≤ 1000) : ∃ A c, u = .slice A L.length c ∧
    Calls Try.prog 21 #[.pointer (some ⟨ba, 0, none⟩), .slice A L.length c] wr fun e w' => e = .returned (.int .i64 (L.filter (postB 4)).length) ∧ (∃ va, Nt w' Ba ba mba 0 4 va (L.filter (postB 4)) noSp) ∧ Nt w' Bb bb mbb 0 4 v F noSp ∧ Below w0.heap.size w0 w' := by
  obtain ⟨cs, k1, k2⟩ := h.row
  obtain ⟨ca, m1, m2⟩ := h.all
  have hna : ∀ q, NB ba mba (.slice none 0 0) q → q < Bb := fun q e => by
    rcases e with e | e | e
    · exact h.not q (.inl e)
    · exact h.not q (.inr e)
    · cases e
  obtain ⟨A, c, rfl, hc, hin⟩ := Lts.of_own (Z := NB ba mba (.slice none 0 0)) m1 rfl m2 fun g hg => .inr (.inr (hna g hg))
  refine ⟨A, c, rfl, (post_any (c := c) h.a (World.ownsRow_nil wr Ba 37 3) hin (fun a ea hx => ?_) hp (by simp; omega)).mono ?_⟩
  · have h1 := (own_lt m1 (g := a.block) (by rw [ea]; rfl)).1
    have := hna _ hx
    omega
  · rintro e w' ⟨rfl, va, csa, q1, _, q3, _⟩
    refine ⟨by simp, ⟨va, by simpa using q1⟩, h.b.away (X := NB ba mba (.slice none 0 0)) (Off.of_own h.b k1 (k2.mono fun q hq => .inr (.inl (hna q hq)))) (fun q hq e => ?_) q3.below.size fun g hg hn => q3.same g hg hn, h.below.trans (q3.below.mono h.base.1)⟩
    have := hna q hq
    have := (h.netB q e).1
    omega
end

end Go.Proofs.Ytalifbajihkenaa
