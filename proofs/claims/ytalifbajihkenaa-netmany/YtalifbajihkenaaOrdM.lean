/-
  The law NetOrders: where it stands.
-/
import Derived.Test.YtalifbajihkenaaNOpen
namespace Go.Proofs.Ytalifbajihkenaa
open Go.RowKit Go.Maps
set_option linter.unusedSimpArgs false
set_option linter.unusedVariables false

/-- a letter whose body is one byte -/
abbrev PL := Int × Int × Int
def one (q : PL) : L3 := (q.1, q.2.1, [q.2.2])
abbrev noSp : Int → Int → Bool := fun _ _ => false

/-- a net with such letters, and a row of bytes -/
structure S1 (w0 : World) (B b mb : Nat) (P : List PL) (Q : List Int) (u : Value) (wr : World) : Prop where
  net : ∃ v cs, Nt wr B b mb 0 4 v (P.map one) noSp ∧ wr.ownsRow B 37 3 v (P.map one).length cs ∧ NoB (fun g => u.ownBlock = some g) cs ∧ NoB (fun g => wr.heap.size ≤ g) cs
  want : wr.ownsRow B 5 1 u Q.length (bs Q)
  below : Below w0.heap.size w0 wr
  base : w0.heap.size ≤ B ∧ B ≤ wr.heap.size
section
variable {w0 wr w w' : World} {B b mb : Nat} {P : List PL} {Q : List Int} {u : Value}
theorem NoB.mono {X Z : Nat → Prop} {cs : List Value} (h : NoB X cs) (k : ∀ g, Z g → X g) : NoB Z cs := fun a n c hm hz => h a n c hm (k _ hz)
theorem NoB.append {X : Nat → Prop} {cs ns : List Value} (h : NoB X cs) (k : NoB X ns) : NoB X (cs ++ ns) := fun a n c hm => (List.mem_append.1 hm).elim (h a n c) (k a n c)
theorem S1.go (h : S1 w0 B b mb P Q u wr) {W : World} (hW : Below wr.heap.size wr W) : S1 w0 B b mb P Q u W := by
  obtain ⟨v, cs, h1, h2, h3, h4⟩ := h.net
  have hs := hW.size
  exact ⟨⟨v, cs, h1.below hW, own_below h2 hW, h3, h4.mono fun g hg => by omega⟩, own_below h.want hW, h.below.trans (hW.mono h.below.size), h.base.1, Nat.le_trans h.base.2 hs⟩

theorem S1.post (h : S1 w0 B b mb P Q u wr) {W : World} (hW : Below wr.heap.size wr W) {f t i : Int} {gb gl : Nat} (hb : W.heap[gb]? = some (.cells #[.int .u8 i] 5 (0, 0))) (hl : W.heap[gl]? = some (.cells #[.int .i64 f, .int .i64 t, .slice (some ⟨gb, 0, none⟩) 1 1] 37 (0, 0)))
    (hgb : wr.heap.size ≤ gb) (hgl : wr.heap.size ≤ gl) (hP : P.length ≤ 1000) :
    Calls Try.prog 21 #[.pointer (some ⟨b, 0, none⟩), .slice (some ⟨gl, 0, none⟩) 1 1] W fun e w' => e = .returned (.int .i64 (if apartB 4 f t then 1 else 0)) ∧ S1 w0 B b mb (if apartB 4 f t then P ++ [(f, t, i)] else P) Q u w' := by
  have hg := h.go hW
  obtain ⟨v, cs, h1, h2, h3, h4⟩ := h.net
  have hfr := h1.fresh
  have hin : Lts (NB b mb v) W (some ⟨gl, 0, none⟩) [(f, t, [i])] := lts_of hl fun j hj => by
    have hj2 : j = 0 := by simp at hj; omega
    subst hj2
    exact ⟨rfl, rfl, some ⟨gb, 0, none⟩, 1, rfl, Nat.le_refl _, Row.one hb, fun a ea => by injection ea with ea; subst ea; exact ⟨hfr _ hgb, lt_of_block hb⟩⟩
  have hpb : postB 4 (f, t, [i]) = apartB 4 f t := by simp [postB]
  have hs := hW.size
  refine (post_more (c := 1) (h1.below hW) (own_below h2 hW) hin (fun a ea => by injection ea with ea; subst ea; exact hfr _ hgl) (by simp) (by simp; omega)).mono ?_
  rintro e w' ⟨rfl, v', cs', k1, k2, k3, k4, ns, rfl, k5⟩
  have hsz := k3.below.size
  have hsame : S1 w0 B b mb (if apartB 4 f t then P ++ [(f, t, i)] else P) Q u w' := by
    refine ⟨⟨v', cs ++ ns, ?_, ?_, ?_, ?_⟩, own5_did (h1.below hW) (own_below h.want hW) k3, hg.below.trans (k3.below.mono h.base.1), h.base.1, Nat.le_trans hg.base.2 hsz⟩
    · cases hap : apartB 4 f t with
      | true => rw [hap] at hpb; simpa [hpb, one] using k1
      | false => rw [hap] at hpb; simpa [hpb] using k1
    · cases hap : apartB 4 f t with
      | true => rw [hap] at hpb; simpa [hpb, one] using k2
      | false => rw [hap] at hpb; simpa [hpb] using k2
    · refine h3.append fun a n c hm hx => ?_
      have := (k5 a n c hm).1
      have := (own_lt h.want hx).2
      omega
    · refine (h4.mono fun g hg => by omega).append fun a n c hm hx => ?_
      have := (k5 a n c hm).2
      omega
  refine ⟨?_, hsame⟩
  cases hap : apartB 4 f t with
  | true => rw [hap] at hpb; simp [hpb]
  | false => rw [hap] at hpb; simp [hpb]

/-- a byte more in the row -/
theorem S1.put (h : S1 w0 B b mb P Q u w) {u' : Value} {x : Int} (ho : w'.ownsRow B 5 1 u' (Q.length + 1) (bs Q ++ [.int .u8 x])) (hg : w.grownBy w' u.ownBlock) (hu : u'.ownBlock = u.ownBlock ∨ u'.ownBlock = some w.heap.size) : S1 w0 B b mb P (Q ++ [x]) u' w' := by
  obtain ⟨v, cs, h1, h2, h3, h4⟩ := h.net
  have hsz := hg.size
  have hnb : ∀ q, u.ownBlock = some q → ¬ NB b mb v q := fun q e => by
    rcases h.want.2 with ⟨e0, _⟩ | ⟨g, cap, cur, e0, _, hh, _⟩
    · rw [e0] at e; cases e
    · rw [e0] at e
      injection e with e
      subst e
      exact h1.not5 hh
  refine ⟨⟨v, cs, h1.away (X := fun g => u.ownBlock = some g) (Off.of_own h1 h2 h3) hnb hsz fun g hgl hn => hg.block g hgl (Ne.symm hn), own_kept h2 hg fun g e1 e2 => hnb g e2 (.inr (.inr e1)), ?_, h4.mono fun g hgl => by omega⟩, by simpa [bs] using ho, h.below.grown hg (Nat.le_trans h.base.1 h.base.2) (fun g e => Nat.le_trans h.base.1 (own_lt h.want e).1), h.base.1, Nat.le_trans h.base.2 hsz⟩
  rcases hu with e | e
  · rw [e]; exact h3
  · exact h4.mono fun g hgl => by rw [e] at hgl; injection hgl with hgl; omega

/-- a net with such letters, and a row of bytes, once all are posted -/
structure S2 (w0 : World) (B b mb : Nat) (P : List PL) (Q : List Int) (u : Value) (wr : World) : Prop where
  net : ∃ v, Nt wr B b mb 0 4 v (P.map one) noSp
  want : wr.ownsRow B 5 1 u Q.length (bs Q)
  below : Below w0.heap.size w0 wr
  base : w0.heap.size ≤ B ∧ B ≤ wr.heap.size
theorem S1.two (h : S1 w0 B b mb P Q u w) : S2 w0 B b mb P Q u w := let ⟨v, _, h1, _⟩ := h.net; ⟨⟨v, h1⟩, h.want, h.below, h.base⟩
theorem S2.go (h : S2 w0 B b mb P Q u wr) {W : World} (hW : Below wr.heap.size wr W) : S2 w0 B b mb P Q u W := by
  obtain ⟨v, h1⟩ := h.net
  exact ⟨⟨v, h1.below hW⟩, own_below h.want hW, h.below.trans (hW.mono h.below.size), h.base.1, Nat.le_trans h.base.2 hW.size⟩
theorem S2.len (h : S2 w0 B b mb P Q u w) : Calls Try.prog 26 #[.pointer (some ⟨b, 0, none⟩)] w fun e w' => e = .returned (.int .i64 P.length) ∧ w' = w := by
  obtain ⟨v, h1⟩ := h.net
  have := len_any h1
  rw [List.length_map] at this
  exact this
theorem one_small (P : List PL) : ∀ l ∈ P.map one, l.2.2.length ≤ 70368744177664 := fun l hl => by
  obtain ⟨q, _, rfl⟩ := List.mem_map.1 hl
  simp [one]
theorem mapErase {α β : Type} (f : α → β) (l : List α) (k : Nat) : (l.map f).eraseIdx k = (l.eraseIdx k).map f := by
  induction l generalizing k with
  | nil => simp
  | cons q l ih => cases k <;> simp [ih]
theorem map_erase (P : List PL) (k : Nat) : (P.map one).eraseIdx k = (P.eraseIdx k).map one := by
  induction P generalizing k with
  | nil => simp
  | cons q P ih => cases k <;> simp [ih]
theorem S2.drop (h : S2 w0 B b mb P Q u w) {k : Nat} (hk : k < P.length) : Calls Try.prog 14 #[.pointer (some ⟨b, 0, none⟩), .int .i64 k] w fun e w' => e = .returned (.int .i64 0) ∧ S2 w0 B b mb (P.eraseIdx k) Q u w' := by
  obtain ⟨v, h1⟩ := h.net
  refine (drop_in h1 (by rw [List.length_map]; exact hk) (one_small P)).mono ?_
  rintro e w' ⟨rfl, v', _, h2, h3, _⟩
  rw [map_erase] at h2
  exact ⟨rfl, ⟨v', h2⟩, own5_did h1 h.want h3, h.below.trans (h3.below.mono h.base.1), h.base.1, Nat.le_trans h.base.2 h3.below.size⟩
theorem comes_no (ls : List L3) (k : Nat) (hk : k < ls.length) : comesE noSp ls k = 0 := by
  unfold comesE
  rw [dif_pos ⟨by omega, by simpa using hk⟩]
  simp [splitB]
theorem S2.take (h : S2 w0 B b mb P Q u w) {q : PL} {R : List PL} (hP : P = q :: R) : Calls Try.prog 10 #[.pointer (some ⟨b, 0, none⟩), .int .i64 0] w fun e w' => ∃ ad cy, e = .returned (.tuple #[letV q.1 q.2.1 (some ad) 1 cy, .int .i64 0]) ∧ 1 ≤ cy ∧ ad.block < w'.heap.size ∧ w'.cell? ad = some (.int .u8 q.2.2) ∧ S2 w0 B b mb R Q u w' := by
  obtain ⟨v, h1⟩ := h.net
  subst hP
  have := take_in h1 h.base.2 (k := 0) (by simp) (comes_no _ 0 (by simp)) (one_small _)
  refine this.mono ?_
  rintro e w' ⟨Y, cy, v', rfl, k1, k2, k3, k4, k5, k6, _⟩
  obtain ⟨ad, rfl, hlt, hc⟩ := k2 0 (by simp [bs, one])
  refine ⟨ad, cy, rfl, k1, hlt, ?_, ⟨v', by simpa using k5⟩, own5_did h1 h.want k6, h.below.trans (k6.below.mono h.base.1), h.base.1, Nat.le_trans h.base.2 k6.below.size⟩
  rw [show ad.add 0 = ad from by simp [Addr.add]] at hc
  simpa [bs, one] using hc
theorem own_base {e s n B' : Nat} {v : Value} {xs : List Value} (h : w.ownsRow B' e s v n xs) (hb : B ≤ B') : w.ownsRow B e s v n xs := by
  refine ⟨h.1, ?_⟩
  rcases h.2 with e | ⟨g, cap, cur, e, h1, r⟩
  · exact .inl e
  · exact .inr ⟨g, cap, cur, e, Nat.le_trans hb h1, r⟩
theorem S2.cutQ (h : S2 w0 B b mb P Q u w) (hb : Below w.heap.size w w') {r q : Nat} {v : Value} (hq : Q.length = q) (hr : r < q) (ho : w'.ownsRow w.heap.size 5 1 v (r + (q - (r + 1))) ((bs Q).take r ++ (bs Q).drop (r + 1))) : S2 w0 B b mb P (Q.eraseIdx r) v w' := by
  obtain ⟨x, h1⟩ := h.net
  have hl : (Q.eraseIdx r).length = r + (q - (r + 1)) := by rw [List.length_eraseIdx_of_lt (by omega)]; omega
  have he : bs (Q.eraseIdx r) = (bs Q).take r ++ (bs Q).drop (r + 1) := by
    rw [← List.eraseIdx_eq_take_drop_succ]
    unfold bs
    exact (mapErase _ _ _).symm
  exact ⟨⟨x, h1.below hb⟩, by rw [hl, he]; exact own_base ho h.base.2, h.below.trans (hb.mono h.below.size), h.base.1, Nat.le_trans h.base.2 hb.size⟩
end

end Go.Proofs.Ytalifbajihkenaa
