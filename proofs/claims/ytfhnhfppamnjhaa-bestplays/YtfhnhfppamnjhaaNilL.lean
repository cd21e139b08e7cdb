/-
  Lists that aren't: New where it answers nil, Add, Hits, Merge of nil; what lists put together are, in whatever order.
-/
import Derived.Test.YtfhnhfppamnjhaaSort
namespace Go.Proofs.Ytfhnhfppamnjhaa
open Go.RowKit Go.Maps

set_option maxHeartbeats 400000 in
theorem new_bad (most : Int) (w : World) (h : most < 1 ∨ 256 < most) :
    Calls Try.prog 10 #[.int .i64 most] w fun e w' => e = .returned (.tuple #[.pointer none, .int .i64 1]) ∧ w = w' := by
  by_cases h1 : most < 1
  · go_enter Try.func10, Try.ntmps10
    go_wp2_with fail
    go_ret2
    exact ⟨rfl, rfl⟩
  · have h2 : (256 : Int) < most := by omega
    go_enter Try.func10, Try.ntmps10
    go_wp2_with fail
    go_ret2
    exact ⟨rfl, rfl⟩
set_option maxHeartbeats 400000 in
theorem add_nil (A : Option Addr) (n c : Nat) (w : World) : Calls Try.prog 13 #[.pointer none, .slice A n c] w fun e w' => e = .returned (.int .i64 0) ∧ w = w' := by
  go_enter Try.func13, Try.ntmps13
  go_wp2_with fail
  go_ret
  exact ⟨rfl, rfl⟩
set_option maxHeartbeats 400000 in
theorem hits_nil (w : World) : Calls Try.prog 16 #[.pointer none] w fun e w' => e = .returned (.slice none 0 0) ∧ w = w' := by
  go_enter Try.func16, Try.ntmps16
  go_wp2_with fail
  go_ret
  exact ⟨rfl, rfl⟩
set_option maxRecDepth 100000 in
set_option maxHeartbeats 400000 in
theorem merge_zero (S : Nat → Prop) (A : Option Addr) (c : Nat) (ls : List (List Hit)) (w : World) (hat : ListsAt S w A ls) (hl : ls.length ≤ 1000) :
    Calls Try.prog 20 #[.int .i64 0, .slice A ls.length c] w fun e w' => e = .returned (.slice none 0 0) ∧ w = w' := by
  have HN := Lib.hid (new_bad 0 w (.inl (by decide)))
  have HH := Lib.hid (hits_nil w)
  go_enter Try.func20, Try.ntmps20
  go_wp2_with fail
  refine (HN.out).mono ?_
  rintro e w' ⟨rfl, rfl⟩
  go_wp2_with fail
  go_loopw [8, 16] (fun _ i wr => ∃ k : Nat, k ≤ ls.length ∧ i = .int .i64 k ∧ wr = w) (fun _ i _ => ls.length - (intOf i).toNat)
  case atStart => exact ⟨0, Nat.zero_le _, rfl, rfl⟩
  case round =>
    obtain ⟨k, hk, rfl, rfl⟩ := hrel
    by_cases hlt : k < ls.length
    · have i1 : (k : Int) < (ls.length : Int) := by omega
      obtain ⟨ad, X, cx, rfl, _, _, g0, _⟩ := hat k hlt
      have HA := Lib.hid (add_nil X ls[k].length cx wr)
      generalize ls[k].length = xl at *
      go_wp2_with fail
      refine (HA.out).mono ?_
      rintro e w' ⟨rfl, rfl⟩
      go_wp2_with fail
      go_roundw
      case rel => exact ⟨k + 1, by omega, by go_num, by first | rfl | trivial⟩
      case measure => simp [intOf]; omega
    · have i1 : ¬ (k : Int) < (ls.length : Int) := by omega
      go_wp2_with fail
      refine (HH.out).mono ?_
      rintro e w' ⟨rfl, rfl⟩
      go_wp2_with fail
      go_ret
      exact ⟨rfl, rfl⟩

/-- what is in order, each once, is told by what is in it -/
theorem Srt.ext : ∀ {T U : List Hit}, Srt T → Srt U → (∀ x, x ∈ T ↔ x ∈ U) → T = U
  | [], [], _, _, _ => rfl
  | [], b :: U, _, _, h => by have := (h b).2 List.mem_cons_self; cases this
  | a :: T, [], _, _, h => by have := (h a).1 List.mem_cons_self; cases this
  | a :: T, b :: U, hT, hU, h => by
    have oT := hT.order
    have oU := hU.order
    rw [List.pairwise_cons] at oT oU
    have hab : a = b := by
      rcases List.mem_cons.1 ((h a).1 List.mem_cons_self) with e | e
      · exact e
      · rcases List.mem_cons.1 ((h b).2 List.mem_cons_self) with e' | e'
        · exact e'.symm
        · have h1 := near_asym (oU.1 a e)
          rw [oT.1 b e'] at h1
          cases h1
    subst hab
    have : T = U := Srt.ext (hT.sub (List.sublist_cons_self _ _)) (hU.sub (List.sublist_cons_self _ _)) fun x => by
      constructor
      · intro hx
        rcases List.mem_cons.1 ((h x).1 (List.mem_cons_of_mem _ hx)) with e | e
        · have := oT.1 x hx
          rw [e, near_irrefl] at this
          cases this
        · exact e
      · intro hx
        rcases List.mem_cons.1 ((h x).2 (List.mem_cons_of_mem _ hx)) with e | e
        · have := oU.1 x hx
          rw [e, near_irrefl] at this
          cases this
        · exact e
    rw [this]

/-- a hit whose vector is told by its ID and how far it is -/
def can (h : Hit) : Hit := (h.1, h.2.1, [h.1 % 7, h.2.1 % 7])
def Can (h : Hit) : Prop := h.2.2 = [h.1 % 7, h.2.1 % 7]
theorem Can.ext {a b : Hit} (ha : Can a) (hb : Can b) (h1 : a.1 = b.1) (h2 : a.2.1 = b.2.1) : a = b := by
  obtain ⟨a1, a2, a3⟩ := a
  obtain ⟨b1, b2, b3⟩ := b
  unfold Can at ha hb
  simp at *
  subst h1 h2
  rw [ha, hb]
  exact ⟨rfl, rfl, rfl⟩

/-- of each ID the nearest -/
def Mins (xs : List Hit) (x : Hit) : Prop := x ∈ xs ∧ ∀ y ∈ xs, y.1 = x.1 → x.2.1 ≤ y.2.1
theorem one_mem {M : Nat} {T : List Hit} {h : Hit} (hg : Good M T) (hM : T.length < M) (x : Hit) :
    x ∈ putOne M T h ↔ (x ∈ T ∧ (x.1 = h.1 → x.2.1 ≤ h.2.1)) ∨ (x = h ∧ ∀ y ∈ T, y.1 = h.1 → h.2.1 < y.2.1) := by
  by_cases hex : ∃ p, ∃ hp : p < T.length, T[p].1 = h.1
  · obtain ⟨p, hp, he⟩ := hex
    have hf := hg.find hp he
    have honly : ∀ y ∈ T, y.1 = h.1 → y = T[p] := fun y hy e => by
      obtain ⟨q, hq, rfl⟩ := List.getElem_of_mem hy
      by_cases e' : q = p
      · subst e'; rfl
      · exact absurd (e.trans he.symm) (hg.srt.ne hq hp e')
    by_cases hd : T[p].2.1 ≤ h.2.1
    · have hR : putOne M T h = T := by unfold putOne base; rw [hf]; simp [hd]
      rw [hR]
      constructor
      · intro hx
        exact .inl ⟨hx, fun e => by rw [honly x hx e]; exact hd⟩
      · rintro (⟨hx, _⟩ | ⟨_, h2⟩)
        · exact hx
        · have := h2 _ (List.getElem_mem hp) he
          omega
    · have hR : putOne M T h = ins (T.filter fun y => y.1 != h.1) h := by unfold putOne base; rw [hf]; simp only [hd, if_false]
      rw [hR, ins_mem]
      constructor
      · rintro (rfl | hx)
        · exact .inr ⟨rfl, fun y hy e => by rw [honly y hy e]; omega⟩
        · obtain ⟨h1, h2⟩ := List.mem_filter.1 hx
          exact .inl ⟨h1, fun e => by simp [e] at h2⟩
      · rintro (⟨hx, h1⟩ | ⟨rfl, _⟩)
        · refine .inr (List.mem_filter.2 ⟨hx, ?_⟩)
          simp only [bne_iff_ne, ne_eq]
          intro e
          have := h1 e
          rw [honly x hx e] at this
          omega
        · exact .inl rfl
  · have hno : ∀ y ∈ T, y.1 ≠ h.1 := fun y hy e => by
      obtain ⟨p, hp, rfl⟩ := List.getElem_of_mem hy
      exact hex ⟨p, hp, e⟩
    rw [putOne_big hno hM, ins_mem]
    constructor
    · rintro (rfl | hx)
      · exact .inr ⟨rfl, fun y hy e => absurd e (hno y hy)⟩
      · exact .inl ⟨hx, fun e => absurd e (hno x hx)⟩
    · rintro (⟨hx, _⟩ | ⟨rfl, _⟩)
      · exact .inr hx
      · exact .inl rfl
theorem exists_min : ∀ {ys : List Hit} {y : Hit}, y ∈ ys → ∃ m, Mins ys m ∧ m.1 = y.1 ∧ m.2.1 ≤ y.2.1
  | a :: ys, y, hy => by
    by_cases hex : ∃ z ∈ ys, z.1 = y.1
    · obtain ⟨z, hz, hz1⟩ := hex
      obtain ⟨m, ⟨hm1, hm2⟩, hm3, hm4⟩ := exists_min hz
      by_cases ha : a.1 = y.1 ∧ a.2.1 < m.2.1
      · refine ⟨a, ⟨List.mem_cons_self, fun u hu e => ?_⟩, ha.1, ?_⟩
        · rcases List.mem_cons.1 hu with rfl | hu
          · omega
          · have := hm2 u hu (by rw [e, ha.1, hm3, hz1]); omega
        · rcases List.mem_cons.1 hy with rfl | hy
          · omega
          · have := hm2 y hy (by rw [hm3, hz1]); omega
      · refine ⟨m, ⟨List.mem_cons_of_mem _ hm1, fun u hu e => ?_⟩, hm3.trans hz1, ?_⟩
        · rcases List.mem_cons.1 hu with rfl | hu
          · have : ¬ u.2.1 < m.2.1 := fun h => ha ⟨by rw [e, hm3, hz1], h⟩
            omega
          · exact hm2 u hu e
        · rcases List.mem_cons.1 hy with rfl | hy
          · have : ¬ y.2.1 < m.2.1 := fun h => ha ⟨rfl, h⟩
            omega
          · exact hm2 y hy (by rw [hm3, hz1])
    · rcases List.mem_cons.1 hy with rfl | hy
      · refine ⟨y, ⟨List.mem_cons_self, fun u hu e => ?_⟩, rfl, Int.le_refl _⟩
        rcases List.mem_cons.1 hu with rfl | hu
        · omega
        · exact absurd ⟨u, hu, e⟩ hex
      · exact absurd ⟨y, hy, rfl⟩ hex
theorem all_mem {M : Nat} : ∀ (xs ys T : List Hit), Good M T → (∀ x ∈ xs, Wf x) → T.length + xs.length < M → (∀ x ∈ ys, Can x) → (∀ x ∈ xs, Can x) → (∀ x, x ∈ T ↔ Mins ys x) → ∀ x, x ∈ (putAll M T xs).1 ↔ Mins (ys ++ xs) x
  | [], ys, T, _, _, _, _, _, hT, x => by rw [List.append_nil]; exact hT x
  | h :: xs, ys, T, hg, hw, hM, hy, hx, hT, x => by
    rw [List.length_cons] at hM
    have h1 := one_len (most := M) (hs := T) (x := h)
    have hg' := hg.one (by omega) (hw h List.mem_cons_self)
    rw [putAll_cons, show ys ++ h :: xs = (ys ++ [h]) ++ xs by simp]
    refine all_mem xs (ys ++ [h]) _ hg' (fun y hy => hw y (List.mem_cons_of_mem _ hy)) (by omega) (fun y hy' => ?_) (fun y hy' => hx y (List.mem_cons_of_mem _ hy')) (fun z => ?_) x
    · rcases List.mem_append.1 hy' with e | e
      · exact hy y e
      · rw [List.mem_singleton] at e; subst e; exact hx y List.mem_cons_self
    · rw [one_mem hg (by omega)]
      have hh : Can h := hx h List.mem_cons_self
      unfold Mins
      constructor
      · rintro (⟨h2, h3⟩ | ⟨rfl, h3⟩)
        · obtain ⟨h4, h5⟩ := (hT z).1 h2
          refine ⟨List.mem_append_left _ h4, fun y hy' e => ?_⟩
          rcases List.mem_append.1 hy' with e' | e'
          · exact h5 y e' e
          · rw [List.mem_singleton] at e'; subst e'; exact h3 e.symm
        · refine ⟨List.mem_append_right _ (List.mem_singleton.2 rfl), fun y hy' e => ?_⟩
          rcases List.mem_append.1 hy' with e' | e'
          · -- the nearest of y's ID is in T
            have hmin : ∃ m, Mins ys m ∧ m.1 = y.1 ∧ m.2.1 ≤ y.2.1 := exists_min e'
            obtain ⟨m, hm, hm1, hm2⟩ := hmin
            have := h3 m ((hT m).2 hm) (hm1.trans e)
            omega
          · rw [List.mem_singleton] at e'; subst e'; omega
      · rintro ⟨h2, h3⟩
        by_cases hex : ∃ y ∈ T, y.1 = h.1 ∧ y.2.1 ≤ h.2.1
        · obtain ⟨y, hyT, hy1, hy2⟩ := hex
          have hmy := (hT y).1 hyT
          rcases List.mem_append.1 h2 with e' | e'
          · exact .inl ⟨(hT z).2 ⟨e', fun u hu e => h3 u (List.mem_append_left _ hu) e⟩, fun e => h3 h (List.mem_append_right _ (List.mem_singleton.2 rfl)) e.symm⟩
          · rw [List.mem_singleton] at e'
            subst e'
            have h4 := h3 y (List.mem_append_left _ hmy.1) hy1
            have h5 : z = y := Can.ext hh (hy y hmy.1) hy1.symm (by omega)
            exact .inl ⟨by rw [h5]; exact hyT, fun _ => Int.le_refl _⟩
        · rcases List.mem_append.1 h2 with e' | e'
          · exact .inl ⟨(hT z).2 ⟨e', fun u hu e => h3 u (List.mem_append_left _ hu) e⟩, fun e => h3 h (List.mem_append_right _ (List.mem_singleton.2 rfl)) e.symm⟩
          · rw [List.mem_singleton] at e'
            subst e'
            refine .inr ⟨rfl, fun y hy' e => ?_⟩
            rcases Int.lt_or_le z.2.1 y.2.1 with h4 | h4
            · exact h4
            · exact absurd ⟨y, hy', e, h4⟩ hex
/-- in whatever order the hits come -/
theorem all_perm {M : Nat} {xs ys : List Hit} (hp : xs.Perm ys) (hw : ∀ x ∈ xs, Wf x) (hc : ∀ x ∈ xs, Can x) (hM : xs.length < M) : (putAll M [] xs).1 = (putAll M [] ys).1 := by
  have hw' : ∀ x ∈ ys, Wf x := fun x hx => hw x (hp.mem_iff.2 hx)
  have hc' : ∀ x ∈ ys, Can x := fun x hx => hc x (hp.mem_iff.2 hx)
  have h0 : ∀ x : Hit, x ∈ ([] : List Hit) ↔ Mins [] x := fun x => ⟨fun h => absurd h (by simp), fun h => absurd h.1 (by simp)⟩
  have h1 := all_mem (M := M) xs [] [] (Good.start M) hw (by simpa using hM) (fun x h => by cases h) hc h0
  have h2 := all_mem (M := M) ys [] [] (Good.start M) hw' (by rw [← hp.length_eq]; simpa using hM) (fun x h => by cases h) hc' h0
  refine Srt.ext ((Good.start M).all (by omega) hw).srt ((Good.start M).all (by omega) hw').srt fun x => ?_
  rw [h1, h2]
  unfold Mins
  simp only [List.nil_append]
  constructor
  · rintro ⟨a, b⟩
    exact ⟨hp.mem_iff.1 a, fun y hy e => b y (hp.mem_iff.2 hy) e⟩
  · rintro ⟨a, b⟩
    exact ⟨hp.mem_iff.2 a, fun y hy e => b y (hp.mem_iff.1 hy) e⟩

end Go.Proofs.Ytfhnhfppamnjhaa
