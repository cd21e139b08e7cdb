/-
  What VecSquares does: it returns true, and turns nothing that was there.
-/
import Derived.Test.YtnpbfacmjmgfaaaLaws
namespace Go.Proofs.Ytnpbfacmjmgfaaa
open Go.RowKit

theorem own_kept {w w' : World} {B e s n : Nat} {v : Value} {xs : List Value} {row : Option Nat} (h : w.ownsRow B e s v n xs) (hg : w.grownBy w' row) (hne : ∀ g, v.ownBlock = some g → row ≠ some g) : w'.ownsRow B e s v n xs := by
  obtain ⟨h1, h2⟩ := h
  refine ⟨h1, ?_⟩
  rcases h2 with h2 | ⟨g, cap, cur, rfl, hb, hh, r⟩
  · exact .inl h2
  · exact .inr ⟨g, cap, cur, rfl, hb, (hg.block g (lt_of_block hh) (fun e => hne g rfl e.symm)).trans hh, r⟩
theorem own_lt {w : World} {B e s n g : Nat} {v : Value} {xs : List Value} (h : w.ownsRow B e s v n xs) (hv : v.ownBlock = some g) : B ≤ g ∧ g < w.heap.size := by
  rcases h.2 with ⟨rfl, _⟩ | ⟨g', cap, cur, rfl, hb, hh, r⟩
  · simp [Value.ownBlock] at hv
  · obtain rfl : g' = g := by simpa [Value.ownBlock] using hv
    exact ⟨hb, lt_of_block hh⟩

/-- Slices of numbers, each with a row of its own. -/
structure Ows (w : World) (B : Nat) (vs : List (Value × List Int)) : Prop where
  own : ∀ p ∈ vs, w.ownsRow B 21 1 p.1 p.2.length (i32s p.2)
  apart : vs.Pairwise fun a b => ∀ g, a.1.ownBlock = some g → b.1.ownBlock ≠ some g
  low : B ≤ w.heap.size

theorem Ows.get {w : World} {B : Nat} {vs : List (Value × List Int)} (h : Ows w B vs) {i : Nat} {p : Value × List Int} (hi : vs[i]? = some p) : w.ownsRow B 21 1 p.1 p.2.length (i32s p.2) :=
  h.own p (List.mem_of_getElem? hi)
theorem Ows.far {w : World} {B : Nat} {vs : List (Value × List Int)} (h : Ows w B vs) {i j : Nat} {p q : Value × List Int} (hi : vs[i]? = some p) (hj : vs[j]? = some q) (hne : i ≠ j) (g : Nat) (hp : p.1.ownBlock = some g) : q.1.ownBlock ≠ some g := by
  have hp' := h.apart
  rw [List.pairwise_iff_getElem] at hp'
  obtain ⟨li, ei⟩ := List.getElem?_eq_some_iff.1 hi
  obtain ⟨lj, ej⟩ := List.getElem?_eq_some_iff.1 hj
  rcases Nat.lt_or_gt_of_ne hne with hlt | hlt
  · have := hp' i j li lj hlt g (by rw [ei]; exact hp)
    rw [ej] at this; exact this
  · intro hq
    have := hp' j i lj li hlt g (by rw [ej]; exact hq)
    rw [ei] at this; exact this hp
theorem Ows.drewN {w : World} {B : Nat} {vs : List (Value × List Int)} (h : Ows w B vs) (n : Nat) : Ows (w.drewN n) B vs := ⟨h.own, h.apart, h.low⟩

theorem Ows.step {w w' : World} {B : Nat} {vs : List (Value × List Int)} (h : Ows w B vs) {i : Nat} {v v' : Value} {l l' : List Int} {o : Obj} (hi : vs[i]? = some (v, l)) (hg : (w.alloc o).grownBy w' v.ownBlock)
    (hown : w'.ownsRow B 21 1 v' l'.length (i32s l')) (hat : v'.ownBlock = v.ownBlock ∨ v'.ownBlock = some (w.heap.size + 1)) : Ows w' B (vs.set i (v', l')) := by
  obtain ⟨li, ei⟩ := List.getElem?_eq_some_iff.1 hi
  have hsz : (w.alloc o).heap.size = w.heap.size + 1 := by simp
  have hg0 : w.grownBy w' v.ownBlock := (World.grownBy_alloc w o _).trans hg
  refine ⟨fun p hp => ?_, ?_, by have := hg.size; have := h.low; omega⟩
  · obtain ⟨j, hj, rfl⟩ := List.getElem_of_mem hp
    rw [List.length_set] at hj
    by_cases e : i = j
    · subst e
      rw [List.getElem_set_self]
      exact hown
    · rw [List.getElem_set_ne e]
      have hj' : vs[j]? = some vs[j] := List.getElem?_eq_getElem hj
      exact own_kept (h.get hj') hg0 (fun g hgj hv => h.far hj' hi (fun e' => e e'.symm) g hgj hv)
  · rw [List.pairwise_iff_getElem]
    intro a b la lb hab g hga
    rw [List.length_set] at la lb
    have ha' : vs[a]? = some vs[a] := List.getElem?_eq_getElem la
    have hb' : vs[b]? = some vs[b] := List.getElem?_eq_getElem lb
    by_cases ea : i = a
    · subst ea
      rw [List.getElem_set_self] at hga
      rw [List.getElem_set_ne (by omega)]
      rcases hat with e | e
      · exact h.far hi hb' (by omega) g (by rw [← e]; exact hga)
      · intro hq
        have := own_lt (h.get hb') hq
        rw [e] at hga; injection hga with hga; omega
    · rw [List.getElem_set_ne ea] at hga
      by_cases eb : i = b
      · subst eb
        rw [List.getElem_set_self]
        rcases hat with e | e
        · have := h.far ha' hi (by omega) g hga
          show v'.ownBlock ≠ some g
          rw [e]; exact this
        · show v'.ownBlock ≠ some g
          rw [e]; intro hq
          have := own_lt (h.get ha') hga
          injection hq with hq; omega
      · rw [List.getElem_set_ne eb]
        exact h.far ha' hb' (by omega) g hga

/-- append of one number onto the i-th -/
theorem app1 (w : World) (B : Nat) (vs : List (Value × List Int)) (i : Nat) (v : Value) (l : List Int) (x : Int) (hO : Ows w B vs) (hi : vs[i]? = some (v, l)) (hl : l.length ≤ 1000)
    {ops : Array Oper} {rest : List Oper} {o : Oper} {a : Act} {Q : Exit → Act → World → Prop} (hgd : o.guard = none) (s t : Operand)
    (ho : o.op = .call { callee := .builtin .append, args := #[s, t], argTypes := #[22, 22] }) (hs : a.eval s = v) (ht : a.eval t = .slice (some ⟨w.heap.size, 0, none⟩) 1 1)
    (k : ∀ A' c' w', Ows w' B (vs.set i (.slice A' (l.length + 1) c', l ++ [x])) → Below B w w' → wpList Try.prog ops Q rest (a.put o.dst (.slice A' (l.length + 1) c')) w') :
    wpList Try.prog ops Q (o :: rest) a (w.alloc (.cells #[.int .i32 x] 21)) := by
  obtain ⟨i0, hi0, hz0, hz1, hz2⟩ := info_parts Try.info21
  refine wpList_append_row _ hgd s t 22 ho B 21 i0 (.int .i32 0) 4 Try.underlying22 hi0 hz0 hz1 hz2 rfl v l.length (i32s l) hs ((hO.get hi).alloc _) (fun _ => True) (some ⟨w.heap.size, 0, none⟩) 1 1 [.int .i32 x] ht rfl
    (Row.of_block (heap_alloc_new w _) trivial) (by simp [Value.oneCell']) (by unfold maxLen; omega) (by omega) (by have := hO.low; simp; omega) ?_
  intro A' c' w' hown hgrow hat
  have e1 : (l ++ [x]).length = l.length + 1 := by simp
  have e2 : i32s l ++ [.int .i32 x] = i32s (l ++ [x]) := by simp [i32s]
  rw [e2] at hown
  refine k A' c' w' (hO.step hi hgrow (by rw [e1]; exact hown) (by simpa using hat)) ?_
  exact ((Below.refl _ _).alloc hO.low _).grown hgrow (by have := hO.low; simp; omega) (fun g hg => (own_lt (hO.get hi) hg).1)

def c6 (x : Int) : Int := x.tmod 1000000
theorem tmod_bd (x : Int) (n : Int) (hn : 0 < n) : -n < x.tmod n ∧ x.tmod n < n := by
  have h1 := Int.tmod_lt_of_pos x hn
  have h2 := Int.tmod_lt_of_pos (-x) hn
  rw [Int.neg_tmod] at h2
  omega
theorem c6_bd (x : Int) : -1000000 < c6 x ∧ c6 x < 1000000 := tmod_bd x 1000000 (by decide)

theorem sqI_shift (t : Int) : ∀ a b : List Int, sqI (a.map (· + t)) (b.map (· + t)) = sqI a b
  | [], [] => rfl
  | [], _ :: _ => rfl
  | _ :: _, [] => rfl
  | x :: a, y :: b => by
    simp only [List.map_cons, sqI]
    rw [sqI_shift t a b, show x + t - (y + t) = x - y by omega]
theorem sqI_twice : ∀ a b : List Int, sqI (a.map (2 * ·)) (b.map (2 * ·)) = 4 * sqI a b
  | [], [] => rfl
  | [], _ :: _ => rfl
  | _ :: _, [] => rfl
  | x :: a, y :: b => by
    simp only [List.map_cons, sqI]
    rw [sqI_twice a b, show 2 * x - 2 * y = 2 * (x - y) by omega]
    generalize x - y = z
    rw [show 2 * z * (2 * z) = 4 * (z * z) by rw [Int.mul_assoc, Int.mul_left_comm z 2 z, ← Int.mul_assoc]; rfl, Int.mul_add]
theorem right_map (f : Int → Int) (hf : ∀ x, okN (f x) = true) (l : List Int) (h1 : 1 ≤ l.length) (h8 : l.length ≤ 8) : rightB (l.map f) = true := by
  unfold rightB
  simp only [List.length_map, decide_eq_true h1, decide_eq_true h8, Bool.true_and, List.all_eq_true, List.mem_map]
  rintro x ⟨y, _, rfl⟩
  exact hf y

theorem dist_own {w : World} {B : Nat} {v u : Value} {P Q : List Int} (h1 : w.ownsRow B 21 1 v P.length (i32s P)) (h2 : w.ownsRow B 21 1 u Q.length (i32s Q)) (hP : P.length ≤ 1000) (hQ : Q.length ≤ 1000) :
    Calls Try.prog 13 #[v, u] w fun e w' => e = .returned (distR P Q) ∧ w = w' := by
  obtain ⟨A, c, rfl, _, _, r1⟩ := Row.of_own h1
  obtain ⟨A', c', rfl, _, _, r2⟩ := Row.of_own h2
  exact dist_any _ _ A A' c c' P Q w r1 r2 (by omega) (by omega)

theorem squares_math (l m : List Int) (t : Int) (h1 : 1 ≤ l.length) (h8 : l.length ≤ 8) (he : m.length = l.length) (t1 : -1000 < t) (t2 : t < 1000) :
    distR (l.map c6) (m.map c6) = .tuple #[.int .u64 (sqI (l.map c6) (m.map c6)), .int .i64 0] ∧
    distR ((l.map c6).map (· + t)) ((m.map c6).map (· + t)) = .tuple #[.int .u64 (sqI (l.map c6) (m.map c6)), .int .i64 0] ∧
    distR ((l.map c6).map (2 * ·)) ((m.map c6).map (2 * ·)) = .tuple #[.int .u64 (4 * sqI (l.map c6) (m.map c6)), .int .i64 0] ∧
    0 ≤ sqI (l.map c6) (m.map c6) ∧ sqI (l.map c6) (m.map c6) ≤ 2305843009213693952 := by
  have ok1 : ∀ x, okN (c6 x) = true := fun x => by have := c6_bd x; unfold okN; simp; omega
  have ok2 : ∀ x, okN (c6 x + t) = true := fun x => by have := c6_bd x; unfold okN; simp; omega
  have ok3 : ∀ x, okN (2 * c6 x) = true := fun x => by have := c6_bd x; unfold okN; simp; omega
  have g : ∀ f : Int → Int, (∀ x, okN (f x) = true) → goodB (l.map f) (m.map f) = true := fun f hf => by
    unfold goodB
    rw [right_map f hf l h1 h8, right_map f hf m (by omega) (by omega)]
    simp [he]
  have g1 := g c6 ok1
  have g2 := g (fun x => c6 x + t) ok2
  have g3 := g (fun x => 2 * c6 x) ok3
  have bd := sqI_bd (l.map c6) (m.map c6) (rightB_parts (right_map c6 ok1 l h1 h8)).2.2 (rightB_parts (right_map c6 ok1 m (by omega) (by omega))).2.2
  rw [List.length_map] at bd
  refine ⟨?_, ?_, ?_, bd.1, by omega⟩
  · unfold distR; rw [if_pos g1]
  · unfold distR
    rw [sqI_shift]
    simp only [List.map_map]
    rw [if_pos (by exact g2)]
  · unfold distR
    rw [sqI_twice]
    simp only [List.map_map]
    rw [if_pos (by exact g3)]

set_option maxRecDepth 100000 in
set_option maxHeartbeats 2000000 in
theorem law_squares (S T : Nat → Prop) (A B : Option Addr) (c d : Nat) (l0 m0 : List Int) (t : Int) (w : World) (h1 : Row S w A (i32s l0)) (h2 : Row T w B (i32s m0)) (hc : l0.length ≤ c) (hd : m0.length ≤ d)
    (hl0 : l0.length ≤ 9223372036854775807) (hm0 : m0.length ≤ 9223372036854775807) :
    Calls Try.prog 7 #[.slice A l0.length c, .slice B m0.length d, .int .i32 t] w fun e w' => e = .returned (.bool true) ∧ Below w.heap.size w w' := by
  go_enter Try.func7, Try.ntmps7
  go_wp2_with fail
  refine (awake_any _).mono ?_
  rintro e w1 ⟨rfl, hb1⟩
  have r1 := h1.below hb1
  have s1 := h2.below hb1
  go_wp2_with fail
  refine (cutVec_any S A c 8 l0 _ r1 hc hl0 (by decide)).mono ?_
  rintro e w2 ⟨A2, c2, rfl, hc2, r2, hb2⟩
  have hl : (l0.take 8).length ≤ 8 := by rw [List.length_take]; omega
  have s2 := s1.below hb2
  rw [i32s_len] at hc2 ⊢
  generalize l0.take 8 = l at *
  go_wp2_with fail
  refine (cutVec_any T B d 8 m0 _ s2 hd hm0 (by decide)).mono ?_
  rintro e w3 ⟨A3, c3, rfl, hc3, s3, hb3⟩
  have hm : (m0.take 8).length ≤ 8 := by rw [List.length_take]; omega
  have r3 := r2.below hb3
  rw [i32s_len] at hc3 ⊢
  generalize m0.take 8 = m at *
  have hb : Below w.heap.size w w3 := (hb1.trans (hb2.mono hb1.size)).trans (hb3.mono (Nat.le_trans hb1.size hb2.size))
  clear h1 h2 hc hd hl0 hm0 r1 s1 r2 s2 hb1 hb2 hb3
  obtain ⟨n, hn⟩ : ∃ n : Nat, (if m.length < l.length then (m.length : Int) else (l.length : Int)) = n := ⟨if m.length < l.length then m.length else l.length, by split <;> rfl⟩
  have hnl : n ≤ l.length := by split at hn <;> omega
  have hnm : n ≤ m.length := by split at hn <;> omega
  rcases Nat.eq_zero_or_pos n with rfl | hpos
  · go_wp2_with fail
    go_ret
    exact ⟨rfl, hb⟩
  · have hn0 : ((n : Int) == 0) = false := by simp; omega
    obtain ⟨t1, ht1⟩ : ∃ x, t.tmod 1000 = x := ⟨_, rfl⟩
    have htb := tmod_bd t 1000 (by decide)
    rw [ht1] at htb
    obtain ⟨tb1, tb2⟩ := htb
    go_wp2_with fail
    clear hn ht1
    have hz : Ows w3 w3.heap.size [(.slice none 0 0, []), (.slice none 0 0, []), (.slice none 0 0, []), (.slice none 0 0, []), (.slice none 0 0, []), (.slice none 0 0, [])] := by
      refine ⟨fun p hp => ?_, by simp [Value.ownBlock], Nat.le_refl _⟩
      simp only [List.mem_cons, List.not_mem_nil, or_false, or_self] at hp
      subst hp
      exact ⟨by simp [i32s], .inl ⟨rfl, rfl⟩⟩
    go_loopw [8, 9, 10, 11, 12, 13, 14, 15, 16, 39] (fun v1 v2 v3 v4 v5 v6 _ _ _ i wr => ∃ k : Nat, k ≤ n ∧ i = .int .i64 k ∧
      Ows wr w3.heap.size [(v1, (l.take k).map c6), (v2, (m.take k).map c6), (v3, ((l.take k).map c6).map (· + t1)), (v4, ((m.take k).map c6).map (· + t1)), (v5, ((l.take k).map c6).map (2 * ·)), (v6, ((m.take k).map c6).map (2 * ·))] ∧ Below w3.heap.size w3 wr)
      (fun _ _ _ _ _ _ _ _ _ i _ => n - (intOf i).toNat)
    case atStart => exact ⟨0, Nat.zero_le _, rfl, hz, Below.refl _ _⟩
    case round =>
      obtain ⟨k, hk, rfl, hO, hbr⟩ := hrel
      by_cases hlt : k < n
      · have hkl : k < l.length := by omega
        have hkm : k < m.length := by omega
        obtain ⟨ad, rfl, _, _, hcA⟩ := (r3.below hbr) k (by rw [i32s_len]; exact hkl)
        obtain ⟨bd, rfl, _, _, hcB⟩ := (s3.below hbr) k (by rw [i32s_len]; exact hkm)
        rw [i32s_at hkl] at hcA
        rw [i32s_at hkm] at hcB
        have i0 : (k : Int) < (n : Int) := by omega
        have i1 : (k : Int) < (l.length : Int) := by omega
        have i2 : (k : Int) < (m.length : Int) := by omega
        have HPL := Lib.hid (List.take_succ_eq_append_getElem hkl)
        have HPM := Lib.hid (List.take_succ_eq_append_getElem hkm)
        have ll : (l.take k).length = k := by rw [List.length_take]; omega
        have lm : (m.take k).length = k := by rw [List.length_take]; omega
        have HLL := Lib.hid ll
        have HLM := Lib.hid lm
        clear ll lm
        obtain ⟨x, hx⟩ : ∃ x, l[k] = x := ⟨_, rfl⟩
        obtain ⟨y, hy⟩ : ∃ y, m[k] = y := ⟨_, rfl⟩
        rw [hx] at hcA HPL
        rw [hy] at hcB HPM
        clear hx hy
        obtain ⟨p, hp⟩ : ∃ p, x.tmod 1000000 = p := ⟨_, rfl⟩
        obtain ⟨q, hq⟩ : ∃ q, y.tmod 1000000 = q := ⟨_, rfl⟩
        have bp := c6_bd x
        have bq := c6_bd y
        unfold c6 at bp bq
        rw [hp] at bp
        rw [hq] at bq
        obtain ⟨p1, p2⟩ := bp
        obtain ⟨q1, q2⟩ := bq
        have HP := Lib.hid hp
        have HQ := Lib.hid hq
        go_wp2_with fail
        go_quiet (fail)
        clear hp hq
        have hO1 := hO.drewN nq
        have hb1 := below_drewN hbr nq
        clear hO hbr hcA hcB
        generalize wr.drewN nq = wq at *
        go_wp2_with (first
          | (at_builtin; refine app1 _ w3.heap.size _ 0 _ _ p hO1 rfl ?g1 rfl (.tmp 52) (.tmp 54) rfl rfl rfl ?_; rotate_right; intro B1 d1 u1 hO2 hb2)
          | (at_builtin; refine app1 _ w3.heap.size _ 1 _ _ q hO2 rfl ?g2 rfl (.tmp 56) (.tmp 58) rfl rfl rfl ?_; rotate_right; intro B2 d2 u2 hO3 hb3)
          | (at_builtin; refine app1 _ w3.heap.size _ 2 _ _ (p + t1) hO3 rfl ?g3 rfl (.tmp 60) (.tmp 64) rfl rfl rfl ?_; rotate_right; intro B3 d3 u3 hO4 hb4)
          | (at_builtin; refine app1 _ w3.heap.size _ 3 _ _ (q + t1) hO4 rfl ?g4 rfl (.tmp 66) (.tmp 70) rfl rfl rfl ?_; rotate_right; intro B4 d4 u4 hO5 hb5)
          | (at_builtin; refine app1 _ w3.heap.size _ 4 _ _ (2 * p) hO5 rfl ?g5 rfl (.tmp 72) (.tmp 75) rfl rfl rfl ?_; rotate_right; intro B5 d5 u5 hO6 hb6)
          | (at_builtin; refine app1 _ w3.heap.size _ 5 _ _ (2 * q) hO6 rfl ?g6 rfl (.tmp 77) (.tmp 80) rfl rfl rfl ?_; rotate_right; intro B6 d6 u6 hO7 hb7))
        case g1 => simp [HLL.out]; omega
        case g2 => simp [HLM.out]; omega
        case g3 => simp [HLL.out]; omega
        case g4 => simp [HLM.out]; omega
        case g5 => simp [HLL.out]; omega
        case g6 => simp [HLM.out]; omega
        have hbA : Below w3.heap.size w3 u6 := ((((((hb1.trans hb2).trans hb3).trans hb4).trans hb5).trans hb6).trans hb7)
        have e1 : (l.take (k + 1)).map c6 = (l.take k).map c6 ++ [p] := by rw [HPL.out, List.map_append]; simp [c6, HP.out]
        have e2 : (m.take (k + 1)).map c6 = (m.take k).map c6 ++ [q] := by rw [HPM.out, List.map_append]; simp [c6, HQ.out]
        go_roundw
        case rel =>
          refine ⟨k + 1, by omega, by go_num, ?_, hbA⟩
          rw [e1, e2]
          simpa using hO7
        case measure => simp [intOf]; omega
      · have i0 : ¬ (k : Int) < (n : Int) := by omega
        have ll : (l.take k).length = k := by rw [List.length_take]; omega
        have lm : (m.take k).length = k := by rw [List.length_take]; omega
        have hk1 : 1 ≤ k := by omega
        have hk8 : k ≤ 8 := by omega
        obtain ⟨D1, D2, D3, s1, s2⟩ := squares_math (l.take k) (m.take k) t1 (by omega) (by omega) (by omega) tb1 tb2
        have C1 := Lib.hid (dist_own (hO.get (i := 0) rfl) (hO.get (i := 1) rfl) (by simp; omega) (by simp; omega))
        have C2 := Lib.hid (dist_own (hO.get (i := 2) rfl) (hO.get (i := 3) rfl) (by simp; omega) (by simp; omega))
        have C3 := Lib.hid (dist_own (hO.get (i := 4) rfl) (hO.get (i := 5) rfl) (by simp; omega) (by simp; omega))
        simp only [] at C1 C2 C3
        rw [D1] at C1
        rw [D2] at C2
        rw [D3] at C3
        clear D1 D2 D3 ll lm hO r3 s3
        generalize sqI ((l.take k).map c6) ((m.take k).map c6) = z at *
        go_wp2_with fail
        refine (C1.out).mono ?_
        rintro e w4 ⟨rfl, rfl⟩
        go_wp2_with fail
        refine (C2.out).mono ?_
        rintro e w4 ⟨rfl, rfl⟩
        go_wp2_with fail
        refine (C3.out).mono ?_
        rintro e w4 ⟨rfl, rfl⟩
        go_wp2_with fail
        go_ret
        exact ⟨rfl, hb.trans (hbr.mono hb.size)⟩

end Go.Proofs.Ytnpbfacmjmgfaaa
