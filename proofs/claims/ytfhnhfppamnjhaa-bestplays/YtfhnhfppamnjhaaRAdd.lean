/-
  The contract of ref04's Add.
-/
import Derived.Test.YtfhnhfppamnjhaaWorst
namespace Go.Proofs.Ytfhnhfppamnjhaa
open Go.RowKit Go.Maps

/-- Nothing that was there has turned but the block b. -/
structure Only (b : Nat) (w w' : World) : Prop where
  os : w'.os = w.os
  tape : w'.tape = w.tape
  output : w'.output = w.output
  size : w.heap.size ≤ w'.heap.size
  block : ∀ g, g < w.heap.size → g ≠ b → w'.heap[g]? = w.heap[g]?
theorem Only.of_below {b : Nat} {w w' : World} (h : Below w.heap.size w w') : Only b w w' := ⟨h.os, h.tape, h.output, h.size, fun g hg _ => h.block g hg⟩
theorem Only.trans {b : Nat} {w w' w'' : World} (h : Only b w w') (k : Only b w' w'') : Only b w w'' :=
  ⟨k.os.trans h.os, k.tape.trans h.tape, k.output.trans h.output, Nat.le_trans h.size k.size, fun g hg e => (k.block g (Nat.lt_of_lt_of_le hg h.size) e).trans (h.block g hg e)⟩
theorem Only.then_below {b : Nat} {w w' w'' : World} (h : Only b w w') (k : Below w'.heap.size w' w'') : Only b w w'' := h.trans (Only.of_below k)
theorem Only.set {b : Nat} {w w' : World} (h : Only b w w') (i : Nat) (u : Value) : Only b w (w'.setCell ⟨b, i, none⟩ u) :=
  ⟨h.os, h.tape, h.output, by rw [set_size]; exact h.size, fun g hg e => (Below.heap_setCell _ _ _ _ e).trans (h.block g hg e)⟩

theorem own_lower {w : World} {B B' e s n : Nat} {v : Value} {xs : List Value} (h : w.ownsRow B e s v n xs) (hB : B' ≤ B) : w.ownsRow B' e s v n xs := by
  obtain ⟨h1, h2⟩ := h
  refine ⟨h1, ?_⟩
  rcases h2 with h2 | ⟨g, cap, cur, e, hb, r⟩
  · exact .inl h2
  · exact .inr ⟨g, cap, cur, e, Nat.le_trans hB hb, r⟩
theorem RL.mono {w : World} {S S' : Nat → Prop} {B b most : Nat} {A : Option Addr} {c : Nat} {L : List Hit} (h : RL w S B b most A c L) (hS : ∀ g, S g → S' g) (ho : ∀ g, S' g → g ≠ b) : RL w S' B b most A c L := by
  obtain ⟨cs, h1, h2⟩ := h.row
  exact ⟨h.blk, ⟨cs, h1, h2.kept (Nat.le_refl _) fun g _ s => ⟨rfl, hS g s⟩⟩, fun g e => hS g (h.own g e), ho⟩
theorem two_set1 {w : World} {b : Nat} {x y a : Value} {t : TypeId} (h : w.heap[b]? = some (.cells #[x, y] t (0, 0))) : (w.setCell ⟨b, 1, none⟩ a).heap[b]? = some (.cells #[x, a] t (0, 0)) := by simp [World.setCell, Array.getElem?_modify, h]

def SX (w : World) (S : Nat → Prop) (b : Nat) (g : Nat) : Prop := g ≠ b ∧ (S g ∨ w.heap.size ≤ g)

/-- Where Add stands: the List, the hit in a box of its own with a vector of its own. -/
structure St (w w2 : World) (S : Nat → Prop) (B b most : Nat) (A : Option Addr) (c : Nat) (L : List Hit) (h : Hit) (A5 : Option Addr) (c5 : Nat) : Prop where
  rl : RL w2 (SX w S b) B b most A c L
  only : Only b w w2
  box : w2.heap[w.heap.size]? = some (.cells #[.int .u64 h.1, .int .u64 h.2.1, .slice A5 h.2.2.length c5] 36 (0, 0))
  vec : Row (fun g => w.heap.size < g) w2 A5 (i32s h.2.2)
  cap : h.2.2.length ≤ c5
  lt : b < w.heap.size
  low : B ≤ w.heap.size
theorem St.below {w w2 w3 : World} {S : Nat → Prop} {B b most : Nat} {A : Option Addr} {c : Nat} {L : List Hit} {h : Hit} {A5 : Option Addr} {c5 : Nat} (s : St w w2 S B b most A c L h A5 c5) (hb : Below w2.heap.size w2 w3) : St w w3 S B b most A c L h A5 c5 :=
  ⟨s.rl.below hb, s.only.then_below hb, (hb.block _ (lt_of_block s.box)).trans s.box, s.vec.below hb, s.cap, s.lt, s.low⟩
/-- the List has another row -/
theorem St.set {w w2 w9 : World} {S : Nat → Prop} {B b most : Nat} {A A9 : Option Addr} {c c9 : Nat} {L L9 : List Hit} {h : Hit} {A5 : Option Addr} {c5 : Nat} {cs9 : List Value} (s : St w w2 S B b most A c L h A5 c5) (hb : Below w2.heap.size w2 w9)
    (ho : w9.ownsRow w2.heap.size 36 3 (.slice A9 L9.length c9) L9.length cs9) (hc : Cells3 (SX w S b) w9 cs9 L9) :
    St w (w9.setCell ⟨b, 1, none⟩ (.slice A9 L9.length c9)) S B b most A9 c9 L9 h A5 c5 ∧ w9.cell? ⟨b, 1, none⟩ = some (.slice A L.length c) ∧ w9.frozen? ⟨b, 1, none⟩ = false := by
  have s9 := s.below hb
  have hs2 := s.only.size
  have hlt := s.lt
  have hob : ∀ g, (Value.slice A9 L9.length c9).ownBlock = some g → w2.heap.size ≤ g := fun g e => (own_lt ho e).1
  refine ⟨⟨⟨two_set1 s9.rl.blk, ⟨cs9, ?_, ?_⟩, fun g e => ?_, fun g e => e.1⟩, s9.only.set _ _, ?_, ?_, s.cap, s.lt, s.low⟩, s9.rl.cells.2, two_free s9.rl.blk⟩
  · refine ownsRow_setCell_other (own_lower ho (by have := s.low; omega)) (fun e => ?_) _
    have := hob _ e
    simp at this
    omega
  · exact hc.kept (by rw [set_size]; exact Nat.le_refl _) fun g _ sg => ⟨Below.heap_setCell _ _ _ _ sg.1, sg⟩
  · have := hob g e
    exact ⟨by omega, .inr (by omega)⟩
  · rw [Below.heap_setCell _ _ _ _ (show w.heap.size ≠ b by omega)]; exact s9.box
  · exact s9.vec.kept (by rw [set_size]; exact Nat.le_refl _) fun g _ sg => Below.heap_setCell _ _ _ _ (show g ≠ b by omega)

/-- append of so many hits onto an empty row of the call's own -/
theorem step_append_first {ops : Array Oper} {o : Oper} {a : Act} {w : World} {K : Act → World → Prop} {Q : Exit → Act → World → Prop} {E : Prop} (hgd : o.guard = none) (s x : Operand)
    (ho : o.op = .call { callee := .builtin .append, args := #[s, x], argTypes := #[29, 29] }) (base : Nat) (v : Value) (hs : a.eval s = v) (hown : w.ownsRow base 36 3 v 0 [])
    (A : Option Addr) (m c : Nat) (news : List Value) (hx : a.eval x = .slice A m c) (hl : news.length = m * 3) (hnews : ∀ j u, news[j]? = some u → ∃ ad, A = some ad ∧ w.cell? (ad.add j) = some u) (h1 : ∀ u ∈ news, u.oneCell' = true)
    (h63 : m ≤ 3000000) (hbase : base ≤ w.heap.size)
    (h : ∀ A' c' w', w'.ownsRow base 36 3 (.slice A' m c') m news → w.grownBy w' v.ownBlock → ((Value.slice A' m c').ownBlock = v.ownBlock ∨ (Value.slice A' m c').ownBlock = some w.heap.size) → K (a.put o.dst (.slice A' m c')) w') :
    if Region.wanted o (yielded ops a.tmps) = true then Oper.wp Try.prog o a w K Q else E := by
  refine step_append_hits hgd s x ho base v 0 [] hs hown A m c news hx hl hnews h1 (by omega) hbase (fun A' c' w' k1 k2 k3 => ?_)
  rw [Nat.zero_add] at k1 k3 ⊢
  exact h A' c' w' k1 k2 k3

/-- What Add answers. -/
def RGave (w : World) (S : Nat → Prop) (B b most : Nat) (T : List Hit) (h : Hit) (e : Ending) (w' : World) : Prop :=
  e = .returned (.bool (base most T h).isSome) ∧ (∃ A' c' L', RL w' (SX w S b) B b most A' c' L' ∧ L'.Perm (putOne most T h)) ∧ Only b w w'
theorem gave_no {w w2 : World} {S : Nat → Prop} {B b most : Nat} {A : Option Addr} {c : Nat} {L T : List Hit} {h : Hit} {A5 : Option Addr} {c5 : Nat} (s : St w w2 S B b most A c L h A5 c5) (hp : L.Perm T) (hb : base most T h = none) : RGave w S B b most T h (.returned (.bool false)) w2 :=
  ⟨by rw [hb]; rfl, ⟨A, c, L, s.rl, by unfold putOne; rw [hb]; exact hp⟩, s.only⟩
theorem gave_yes {w w2 : World} {S : Nat → Prop} {B b most : Nat} {A : Option Addr} {c : Nat} {L T : List Hit} {h : Hit} {A5 : Option Addr} {c5 : Nat} (s : St w w2 S B b most A c L h A5 c5) (hb : ∃ l, base most T h = some l ∧ L.Perm (ins l h)) : RGave w S B b most T h (.returned (.bool true)) w2 := by
  obtain ⟨l, h1, h2⟩ := hb
  exact ⟨by rw [h1]; rfl, ⟨A, c, L, s.rl, by unfold putOne; rw [h1]; exact h2⟩, s.only⟩

set_option maxRecDepth 100000 in
set_option maxHeartbeats 2000000 in
theorem refAdd_any (S S2 : Nat → Prop) (B b most : Nat) (A : Option Addr) (c : Nat) (L T : List Hit) (h : Hit) (X : Option Addr) (cx : Nat) (w : World) (R : RL w S B b most A c L) (hB : B ≤ w.heap.size) (hP : L.Perm T) (hg : Good most T) (hm1 : 1 ≤ most) (hm : most ≤ 2000000) (hL : L.length ≤ 999999)
    (hX : Row S2 w X (i32s h.2.2)) (hxc : h.2.2.length ≤ cx) (hx : h.2.2.length ≤ 100) :
    Calls Try.prog 12 #[.pointer (some ⟨b, 0, none⟩), .agg #[.int .u64 h.1, .int .u64 h.2.1, .slice X h.2.2.length cx]] w fun e w' => RGave w S B b most T h e w' := by
  have hbl := lt_of_block R.blk
  obtain ⟨wa, hwa⟩ : ∃ x, x = w.alloc (.cells #[.int .u64 h.1, .int .u64 h.2.1, .slice X h.2.2.length cx] 36) := ⟨_, rfl⟩
  have hba : Below w.heap.size w wa := by rw [hwa]; exact (Below.refl _ _).alloc (Nat.le_refl _) _
  have hsa : wa.heap.size = w.heap.size + 1 := by rw [hwa]; simp
  have hbox : wa.heap[w.heap.size]? = some (.cells #[.int .u64 h.1, .int .u64 h.2.1, .slice X h.2.2.length cx] 36 (0, 0)) := by rw [hwa]; exact heap_alloc_new w _
  have x2 := three_cell2 hbox
  have HC : Hid (Calls Try.prog 22 #[.slice X h.2.2.length cx, .int .i64 100] wa fun e w' => ∃ A5 c5, e = .returned (.slice A5 h.2.2.length c5) ∧ w'.cell? ⟨w.heap.size, 2, none⟩ = some (.slice X h.2.2.length cx) ∧ w'.frozen? ⟨w.heap.size, 2, none⟩ = false ∧ w'.cell? ⟨b, 1, none⟩ = some (.slice A L.length c) ∧ St w (w'.setCell ⟨w.heap.size, 2, none⟩ (.slice A5 h.2.2.length c5)) S B b most A c L h A5 c5) := by
    refine (cutVec_any S2 X cx 100 h.2.2 wa (hX.below hba) hxc (by omega) (by decide)).mono ?_
    rintro e w5 ⟨A5, c5, rfl, hc5, r5, hb5⟩
    rw [List.take_of_length_le hx] at hc5 r5 ⊢
    rw [i32s_len] at hc5 ⊢
    have hbox5 := (hb5.block _ (by omega)).trans hbox
    have hb05 : Below w.heap.size w w5 := hba.trans (hb5.mono (by omega))
    have hb06 : Below w.heap.size w (w5.setCell ⟨w.heap.size, 2, none⟩ (.slice A5 h.2.2.length c5)) := hb05.setCell (Nat.le_refl _) _
    refine ⟨A5, c5, rfl, three_cell2 hbox5, three_free hbox5, (R.below hb05).cells.2, ⟨(R.mono (fun g sg => ⟨R.off g sg, .inl sg⟩) (fun g sg => sg.1)).below hb06, Only.of_below hb06, three_set2 hbox5, ?_, hc5, hbl, hB⟩⟩
    have r6 : Row (fun g => w.heap.size < g) w5 A5 (i32s h.2.2) := r5.mono fun g _ sg => by omega
    exact r6.kept (by rw [set_size]; exact Nat.le_refl _) fun g _ sg => Below.heap_setCell _ _ _ _ (show g ≠ w.heap.size by omega)
  have HWA := Lib.hid hwa
  clear hbox hsa hba hX hwa R
  go_enter Try.func12, Try.ntmps12
  go_wp2_with fail
  rw [← HWA.out]
  go_wp2_with fail
  refine (HC.out).mono ?_
  rintro e w5 ⟨A5, c5, rfl, y2, f2, y1, st⟩
  go_wp2_with fail
  obtain ⟨w2, hw2⟩ : ∃ x, x = w5.setCell ⟨w.heap.size, 2, none⟩ (.slice A5 h.2.2.length c5) := ⟨_, rfl⟩
  rw [← hw2] at st ⊢
  have HST := Lib.hid st
  have hwl := lt_of_block st.box
  clear st hw2 y2 f2 y1 HC HWA x2
  go_loopw [5, 6, 19] (fun _ _ i wr => ∃ k : Nat, k ≤ L.length ∧ i = .int .i64 k ∧ (∀ j (hj : j < L.length), j < k → L[j].1 ≠ h.1) ∧ Below w2.heap.size w2 wr) (fun _ _ i _ => L.length - (intOf i).toNat)
  case atStart => exact ⟨0, Nat.zero_le _, rfl, fun j _ hj => by omega, Below.refl _ _⟩
  case round =>
    obtain ⟨k, hk, rfl, hno, hBr⟩ := hrel
    have str := HST.out.below hBr
    have HSR := Lib.hid str
    have HNO := Lib.hid hno
    have hwr : w.heap.size < wr.heap.size := by have := hBr.size; omega
    by_cases hlt : k < L.length
    · have i1 : (k : Int) < (L.length : Int) := by omega
      obtain ⟨ad, rfl, _, hadl, a0, a1, Y, cy, a2, _, _⟩ := (str.rl.hits).2 k hlt
      have x0 := three_cell0 str.box
      have x1 := three_cell1 str.box
      have x2 := three_cell2 str.box
      have d1 := str.rl.cells.2
      by_cases hid : L[k].1 = h.1
      · have j1 : (L[k].1 != h.1) = false := by simpa using hid
        obtain ⟨hno1, hyes1⟩ := add_there hP hg hlt hid
        by_cases hd : L[k].2.1 ≤ h.2.1
        · have HF : Hid (RGave w S B b most T h (.returned (.bool false)) (wr.alloc (.cells #[.int .u64 L[k].1, .int .u64 L[k].2.1, .slice Y L[k].2.2.length cy] 36))) := gave_no (str.below ((Below.refl _ _).alloc (Nat.le_refl _) _)) hP (hno1 hd)
          clear hno hBr str hid hno1 hyes1
          generalize L[k].1 = ki at *
          generalize L[k].2.1 = kd at *
          generalize L[k].2.2.length = kl at *
          generalize h.1 = hi1 at *
          generalize h.2.1 = hd1 at *
          go_wp2_with fail
          go_ret
          exact HF.out
        · obtain ⟨wa2, hwa2⟩ : ∃ x, x = wr.alloc (.cells #[.int .u64 L[k].1, .int .u64 L[k].2.1, .slice Y L[k].2.2.length cy] 36) := ⟨_, rfl⟩
          have sta : St w wa2 S B b most (some ad) c L h A5 c5 := by rw [hwa2]; exact str.below ((Below.refl _ _).alloc (Nat.le_refl _) _)
          have hYES := hyes1 hd
          have z0 := three_cell0 sta.box
          have z1 := three_cell1 sta.box
          have z2 := three_cell2 sta.box
          have e1 := sta.rl.cells.2
          obtain ⟨cs, hown, hce⟩ := sta.rl.row
          obtain ⟨n, hn⟩ : ∃ n, L.length = n + 1 := ⟨L.length - 1, by omega⟩
          have HWO : Hid (∀ W, Below wa2.heap.size wa2 W → Calls Try.prog 23 #[.slice (some ad) L.length c, .int .i64 (k : Int)] W fun e w' => ∃ A7 c7, e = .returned (.slice A7 n c7) ∧ w'.ownsRow wa2.heap.size 36 3 (.slice A7 n c7) n (cs.take (k * 3) ++ cs.drop ((k + 1) * 3)) ∧ Below wa2.heap.size wa2 w' ∧ Below W.heap.size W w') := fun W hW =>
            (without_any _ B (some ad) c k L cs W (own_below hown hW) (hce.kept hW.size fun g hg s => ⟨hW.block g hg, s⟩) hlt (by omega)).mono fun e w' ⟨A7, c7, e1, e2, e3⟩ => by
              rw [show L.length - 1 = n by omega] at e1 e2
              exact ⟨A7, c7, e1, own_lower e2 hW.size, hW.trans (e3.mono hW.size), e3⟩
          have HCL : Hid (∀ W, Below wa2.heap.size wa2 W → (W.cell? ⟨b, 1, none⟩ = some (.slice (some ad) L.length c) ∧ W.cell? ⟨w.heap.size, 0, none⟩ = some (.int .u64 h.1) ∧ W.cell? ⟨w.heap.size, 1, none⟩ = some (.int .u64 h.2.1) ∧ W.cell? ⟨w.heap.size, 2, none⟩ = some (.slice A5 h.2.2.length c5)) ∧ W.frozen? ⟨b, 1, none⟩ = false) := fun W hW => by
            have s := sta.below hW
            exact ⟨⟨s.rl.cells.2, three_cell0 s.box, three_cell1 s.box, three_cell2 s.box⟩, two_free s.rl.blk⟩
          have HFIN : Hid (∀ w9 A9 c9, Below wa2.heap.size wa2 w9 → w9.ownsRow wa2.heap.size 36 3 (.slice A9 (n + 1) c9) (n + 1) (cs.take (k * 3) ++ cs.drop ((k + 1) * 3) ++ [.int .u64 h.1, .int .u64 h.2.1, .slice A5 h.2.2.length c5]) → RGave w S B b most T h (.returned (.bool true)) (w9.setCell ⟨b, 1, none⟩ (.slice A9 (n + 1) c9))) := fun w9 A9 c9 hb9 ho9 => by
            have hl9 : (L.take k ++ L.drop (k + 1) ++ [h]).length = n + 1 := by simp only [List.length_append, List.length_take, List.length_drop, List.length_singleton]; omega
            have s9 := sta.below hb9
            have hc9 : Cells3 (SX w S b) w9 (cs.take (k * 3) ++ cs.drop ((k + 1) * 3) ++ [.int .u64 h.1, .int .u64 h.2.1, .slice A5 h.2.2.length c5]) (L.take k ++ L.drop (k + 1) ++ [h]) := by
              refine Cells3.append (((hce.take k (by omega)).append (hce.drop (k + 1))).kept hb9.size fun g hg s => ⟨hb9.block g hg, s⟩) (Cells3.one h A5 c5 s9.cap (s9.vec.mono fun g _ s => ⟨by have := s9.lt; omega, .inr (by omega)⟩))
            have := sta.set (L9 := L.take k ++ L.drop (k + 1) ++ [h]) (A9 := A9) (c9 := c9) hb9 (by rw [hl9]; exact ho9) hc9
            rw [hl9] at this
            exact gave_yes this.1 hYES
          have hn9 : n ≤ 999999 := by omega
          have HWA2 := Lib.hid hwa2
          have hb0 : Below wa2.heap.size wa2 wa2.drew := (Below.refl _ _).drew
          clear hno hBr str hid hno1 hyes1 hown hce sta hYES hn
          generalize cs.take (k * 3) ++ cs.drop ((k + 1) * 3) = css at *
          go_wp2_with fail
          rw [← HWA2.out]
          clear a0 a1 a2 x0 x1 x2 d1 HWA2 hwa2
          generalize h.1 = hi1 at *
          generalize h.2.1 = hd1 at *
          generalize h.2.2.length = hl1 at *
          have hb1 : Below wa2.heap.size wa2 (wa2.drew.alloc (.cells #[.int .u64 hi1, .int .u64 hd1, .slice A5 hl1 c5] 36)) := hb0.alloc (Nat.le_refl _) _
          obtain ⟨⟨r0, r1, r2, r3⟩, _⟩ := HCL.out _ hb1
          have hb2 : Below wa2.heap.size wa2 (wa2.alloc (.cells #[.int .u64 hi1, .int .u64 hd1, .slice A5 hl1 c5] 36)) := (Below.refl _ _).alloc (Nat.le_refl _) _
          obtain ⟨⟨r0', r1', r2', r3'⟩, _⟩ := HCL.out _ hb2
          have hbl2 : b < wa2.heap.size := lt_of_cell e1
          have hne2 : b ≠ wa2.heap.size := by omega
          have hne3 : ¬ wa2.heap.size = b := by omega
          go_region_law
            (first
              | (go_simp; go_at_call 23; refine (HWO.out _ (by first | exact hb0 | exact hb1)).mono ?_; rintro e w7 ⟨A7, c7, rfl, ho7, hb7, hb71⟩; have hb8 : Below wa2.heap.size wa2 (w7.alloc (.cells #[.int .u64 hi1, .int .u64 hd1, .slice A5 hl1 c5] 36)) := hb7.alloc hb7.size _; obtain ⟨⟨s0, s1, s2, s3⟩, _⟩ := HCL.out _ hb7; obtain ⟨⟨t0, t1, t2, t3⟩, _⟩ := HCL.out _ hb8)
              | (refine step_append_hits (by rfl) (.tmp 40) (.tmp 42) (by rfl) wa2.heap.size _ n css (by rfl) (ho7.alloc _) (some ⟨w7.heap.size, 0, none⟩) 1 1 [.int .u64 hi1, .int .u64 hd1, .slice A5 hl1 c5] (by rfl) (by rfl) (fun j u hj => ⟨_, rfl, World.news_of_block (cs := #[.int .u64 hi1, .int .u64 hd1, .slice A5 hl1 c5]) (t := 36) (fr := (0, 0)) (heap_alloc_new w7 _) j u hj⟩) (by simp [Value.oneCell']) (by omega) hb8.size ?_; intro A9 c9 w9 ho9 hg9 ha9; have hb9 : Below wa2.heap.size wa2 w9 := hb8.grown hg9 hb8.size (fun g e => (own_lt ho7 e).1); obtain ⟨⟨u0, u1, u2, u3⟩, hf9⟩ := HCL.out _ hb9)
              | (refine step_append_hits (by rfl) (.tmp 40) (.tmp 42) (by rfl) wa2.heap.size _ n css (by rfl) ho7 (some ⟨wa2.heap.size, 0, none⟩) 1 1 [.int .u64 hi1, .int .u64 hd1, .slice A5 hl1 c5] (by rfl) (by rfl) (fun j u hj => ⟨_, rfl, World.news_of_block (cs := #[.int .u64 hi1, .int .u64 hd1, .slice A5 hl1 c5]) (t := 36) (fr := (0, 0)) ((hb71.block wa2.heap.size (by simp)).trans (heap_alloc_new wa2.drew _)) j u hj⟩) (by simp [Value.oneCell']) (by omega) hb7.size ?_; intro A9 c9 w9 ho9 hg9 ha9; have hb9 : Below wa2.heap.size wa2 w9 := hb7.grown hg9 hb7.size (fun g e => (own_lt ho7 e).1); obtain ⟨⟨u0, u1, u2, u3⟩, hf9⟩ := HCL.out _ hb9)
              | fail)
          all_goals
            have HG9 := Lib.hid (HFIN.out w9 A9 c9 hb9 ho9)
            clear ho9 hg9 ha9 hb9 ho7 hb7
            go_wp2_with fail
            go_ret
            exact HG9.out
      · have j1 : (L[k].1 != h.1) = true := by simpa using hid
        have HNO2 : Hid (∀ j (hj : j < L.length), j < k + 1 → L[j].1 ≠ h.1) := fun j hj hjk => by
          by_cases e : j = k
          · subst e; exact hid
          · exact hno j hj (by omega)
        have HBN : Hid (Below w2.heap.size w2 (wr.alloc (.cells #[.int .u64 L[k].1, .int .u64 L[k].2.1, .slice Y L[k].2.2.length cy] 36))) := hBr.alloc hBr.size _
        clear hno hBr str hid
        generalize L[k].1 = ki at *
        generalize L[k].2.1 = kd at *
        generalize L[k].2.2.length = kl at *
        generalize h.1 = hi1 at *
        generalize h.2.1 = hd1 at *
        go_wp2_with fail
        go_roundw
        case rel => exact ⟨k + 1, by omega, by go_num, HNO2.out, HBN.out⟩
        case measure => simp [intOf]; omega
    · obtain rfl : k = L.length := by omega
      have i1 : ¬ ((L.length : Int) < (L.length : Int)) := by omega
      have hnoL : ∀ x ∈ L, x.1 ≠ h.1 := fun x hx => by
        obtain ⟨j, hj, rfl⟩ := List.getElem_of_mem hx
        exact hno j hj hj
      have c0 := str.rl.cells.1
      have c1 := str.rl.cells.2
      by_cases hfull : L.length < most
      · have i2 : ¬ (most : Int) ≤ (L.length : Int) := by omega
        have YES : Hid (∃ l, base most T h = some l ∧ (L ++ [h]).Perm (ins l h)) := ⟨T, add_room hP hnoL hfull⟩
        clear hno hBr str hnoL HNO
        go_wp2_with fail
        go_quiet (fail)
        go_wp2_with fail
        obtain ⟨W0, hW0⟩ : ∃ x, x = wr.drewN nq := ⟨_, rfl⟩
        have ST : Hid (St w W0 S B b most A c L h A5 c5) := by rw [hW0]; exact HSR.out.below (below_drewN (Below.refl _ _) nq)
        rw [← hW0]
        clear hW0 c0 c1 hP hg HST HSR
        have sta := ST.out
        have z0 := three_cell0 sta.box
        have z1 := three_cell1 sta.box
        have z2 := three_cell2 sta.box
        have e1 := sta.rl.cells.2
        obtain ⟨cs, hown, hce⟩ := sta.rl.row
        have hlen := hce.1
        have hcap := sta.rl.hits.1
        have HCL : Hid (∀ W, Below W0.heap.size W0 W → (W.cell? ⟨b, 1, none⟩ = some (.slice A L.length c) ∧ W.cell? ⟨w.heap.size, 0, none⟩ = some (.int .u64 h.1) ∧ W.cell? ⟨w.heap.size, 1, none⟩ = some (.int .u64 h.2.1) ∧ W.cell? ⟨w.heap.size, 2, none⟩ = some (.slice A5 h.2.2.length c5)) ∧ W.frozen? ⟨b, 1, none⟩ = false) := fun W hW => by
          have s := sta.below hW
          exact ⟨⟨s.rl.cells.2, three_cell0 s.box, three_cell1 s.box, three_cell2 s.box⟩, two_free s.rl.blk⟩
        have HNEWS : Hid (∀ W, Below W0.heap.size W0 W → ∀ j u, cs[j]? = some u → ∃ ad, A = some ad ∧ W.cell? (ad.add j) = some u) := fun W hW j u hj => by
          have ho := own_below hown hW
          rcases ho.2 with ⟨_, e⟩ | ⟨g, cap, cur, e, _⟩
          · have := (List.getElem?_eq_some_iff.1 hj).1
            rw [hlen, e] at this
            omega
          · injection e with e _ _
            exact ⟨⟨g, 0, none⟩, e, ho.cells (g := g) (by rw [e]; rfl) j u hj⟩
        have HONE := Lib.hid hce.oneCell
        have HFIN : Hid (∀ w9 A9 c9, Below W0.heap.size W0 w9 → w9.ownsRow W0.heap.size 36 3 (.slice A9 (L.length + 1) c9) (L.length + 1) (cs ++ [.int .u64 h.1, .int .u64 h.2.1, .slice A5 h.2.2.length c5]) → RGave w S B b most T h (.returned (.bool true)) (w9.setCell ⟨b, 1, none⟩ (.slice A9 (L.length + 1) c9))) := fun w9 A9 c9 hb9 ho9 => by
          have hl9 : (L ++ [h]).length = L.length + 1 := by simp
          have s9 := sta.below hb9
          have hc9 : Cells3 (SX w S b) w9 (cs ++ [.int .u64 h.1, .int .u64 h.2.1, .slice A5 h.2.2.length c5]) (L ++ [h]) :=
            Cells3.append (hce.kept hb9.size fun g hg s => ⟨hb9.block g hg, s⟩) (Cells3.one h A5 c5 s9.cap (s9.vec.mono fun g _ s => ⟨by have := s9.lt; omega, .inr (by omega)⟩))
          have := sta.set (L9 := L ++ [h]) (A9 := A9) (c9 := c9) hb9 (by rw [hl9]; exact ho9) hc9
          rw [hl9] at this
          exact gave_yes this.1 YES.out
        have hlen' : cs.length = L.length * 3 := hlen
        have HLEN := Lib.hid hlen'
        have hbl2 : b < W0.heap.size := lt_of_cell e1
        have hwl2 : w.heap.size < W0.heap.size := lt_of_cell z0
        have hne2 : b ≠ W0.heap.size := by omega
        have hne3 : ¬ W0.heap.size = b := by omega
        clear sta hown hce hlen hlen' hcap ST
        generalize h.1 = hi1 at *
        generalize h.2.1 = hd1 at *
        generalize h.2.2.length = hl1 at *
        generalize L.length = ln at *
        obtain ⟨s, hs⟩ : ∃ s, s = W0.heap.size := ⟨_, rfl⟩
        have HOa : Hid ((W0.drew.alloc (.cells #[] 36)).ownsRow W0.heap.size 36 3 (.slice (some ⟨W0.heap.size, 0, none⟩) 0 0) 0 []) := World.ownsRow_lit W0.drew #[] 0 (Nat.le_refl _) (by decide) rfl
        have HOb : Hid (((W0.drew.alloc (.cells #[] 36)).alloc (.cells #[.int .u64 hi1, .int .u64 hd1, .slice A5 hl1 c5] 36)).ownsRow W0.heap.size 36 3 (.slice (some ⟨W0.heap.size, 0, none⟩) 0 0) 0 []) := HOa.out.alloc _
        have HOc : Hid (((W0.drew.alloc (.cells #[.int .u64 hi1, .int .u64 hd1, .slice A5 hl1 c5] 36)).alloc (.cells #[] 36)).ownsRow W0.heap.size 36 3 (.slice (some ⟨W0.heap.size + 1, 0, none⟩) 0 0) 0 []) := by
          have := World.ownsRow_lit (base := W0.heap.size) (e := 36) (size := 3) (W0.drew.alloc (.cells #[.int .u64 hi1, .int .u64 hd1, .slice A5 hl1 c5] 36)) #[] 0 (by simp) (by decide) rfl
          have hz : (W0.drew.alloc (.cells #[.int .u64 hi1, .int .u64 hd1, .slice A5 hl1 c5] 36)).heap.size = W0.heap.size + 1 := by simp
          rw [hz] at this
          exact this
        clear hs
        have ba : Below W0.heap.size W0 (W0.drew.alloc (.cells #[] 36)) := ((Below.refl _ _).drew).alloc (Nat.le_refl _) _
        have bb : Below W0.heap.size W0 ((W0.drew.alloc (.cells #[] 36)).alloc (.cells #[.int .u64 hi1, .int .u64 hd1, .slice A5 hl1 c5] 36)) := ba.alloc ba.size _
        have bd : Below W0.heap.size W0 (W0.drew.alloc (.cells #[.int .u64 hi1, .int .u64 hd1, .slice A5 hl1 c5] 36)) := ((Below.refl _ _).drew).alloc (Nat.le_refl _) _
        have bc : Below W0.heap.size W0 ((W0.drew.alloc (.cells #[.int .u64 hi1, .int .u64 hd1, .slice A5 hl1 c5] 36)).alloc (.cells #[] 36)) := bd.alloc bd.size _
        have oa : ((W0.drew.alloc (.cells #[] 36)).alloc (.cells #[.int .u64 hi1, .int .u64 hd1, .slice A5 hl1 c5] 36)).heap[W0.heap.size + 1]? = some (.cells #[.int .u64 hi1, .int .u64 hd1, .slice A5 hl1 c5] 36 (0, 0)) := by
          have := heap_alloc_new (W0.drew.alloc (.cells #[] 36)) (.cells #[.int .u64 hi1, .int .u64 hd1, .slice A5 hl1 c5] 36)
          simpa using this
        have oc : ((W0.drew.alloc (.cells #[.int .u64 hi1, .int .u64 hd1, .slice A5 hl1 c5] 36)).alloc (.cells #[] 36)).heap[W0.heap.size]? = some (.cells #[.int .u64 hi1, .int .u64 hd1, .slice A5 hl1 c5] 36 (0, 0)) := by
          rw [Below.heap_alloc _ _ _ (by simp)]
          exact heap_alloc_new W0.drew _
        have HBA := Lib.hid ba
        have HBB := Lib.hid bb
        have HBC := Lib.hid bc
        have HOO := Lib.hid oa
        have HOX := Lib.hid oc
        obtain ⟨⟨r0, r1, r2, r3⟩, _⟩ := HCL.out _ ba
        obtain ⟨⟨p0, p1, p2, p3⟩, _⟩ := HCL.out _ bb
        obtain ⟨⟨q0, q1, q2, q3⟩, _⟩ := HCL.out _ bc
        obtain ⟨⟨v0, v1, v2, v3⟩, _⟩ := HCL.out _ bd
        clear oa oc
        go_region_law
          (first
            | (refine step_append_first (by rfl) (.tmp 79) (.tmp 83) (by rfl) W0.heap.size _ (by rfl) HOa.out A ln c cs (by rfl) HLEN.out (HNEWS.out _ HBA.out) HONE.out (by omega) HBA.out.size ?_; intro A8 c8 w8 ho8 hg8 ha8; have hb8 : Below W0.heap.size W0 w8 := HBA.out.grown hg8 HBA.out.size (fun g e => by simp [Value.ownBlock] at e; omega); have hb9 : Below W0.heap.size W0 (w8.alloc (.cells #[.int .u64 hi1, .int .u64 hd1, .slice A5 hl1 c5] 36)) := hb8.alloc hb8.size _; have hsrc : (w8.alloc (.cells #[.int .u64 hi1, .int .u64 hd1, .slice A5 hl1 c5] 36)).heap[w8.heap.size]? = some (.cells #[.int .u64 hi1, .int .u64 hd1, .slice A5 hl1 c5] 36 (0, 0)) := heap_alloc_new w8 _; obtain ⟨⟨s0, s1, s2, s3⟩, _⟩ := HCL.out _ hb8; obtain ⟨⟨t0, t1, t2, t3⟩, _⟩ := HCL.out _ hb9)
            | (refine step_append_first (by rfl) (.tmp 79) (.tmp 83) (by rfl) W0.heap.size _ (by rfl) HOb.out A ln c cs (by rfl) HLEN.out (HNEWS.out _ HBB.out) HONE.out (by omega) HBB.out.size ?_; intro A8 c8 w8 ho8 hg8 ha8; have hb8 : Below W0.heap.size W0 w8 := HBB.out.grown hg8 HBB.out.size (fun g e => by simp [Value.ownBlock] at e; omega); have hsrc := (hg8.block (W0.heap.size + 1) (by simp) (by simp [Value.ownBlock])).trans HOO.out; obtain ⟨⟨s0, s1, s2, s3⟩, _⟩ := HCL.out _ hb8)
            | (refine step_append_first (by rfl) (.tmp 79) (.tmp 83) (by rfl) W0.heap.size _ (by rfl) HOc.out A ln c cs (by rfl) HLEN.out (HNEWS.out _ HBC.out) HONE.out (by omega) HBC.out.size ?_; intro A8 c8 w8 ho8 hg8 ha8; have hb8 : Below W0.heap.size W0 w8 := HBC.out.grown hg8 HBC.out.size (fun g e => by simp [Value.ownBlock] at e; omega); have hsrc := (hg8.block W0.heap.size (by simp; omega) (by simp [Value.ownBlock])).trans HOX.out; obtain ⟨⟨s0, s1, s2, s3⟩, _⟩ := HCL.out _ hb8)
            | (refine step_append_hits (by rfl) (.tmp 84) (.tmp 86) (by rfl) W0.heap.size _ ln cs (by rfl) (ho8.alloc _) (some ⟨w8.heap.size, 0, none⟩) 1 1 [.int .u64 hi1, .int .u64 hd1, .slice A5 hl1 c5] (by rfl) (by rfl) (fun j u hj => ⟨_, rfl, World.news_of_block (cs := #[.int .u64 hi1, .int .u64 hd1, .slice A5 hl1 c5]) (t := 36) (fr := (0, 0)) hsrc j u hj⟩) (by simp [Value.oneCell']) (by omega) hb9.size ?_; intro A9 c9 w9 ho9 hg9 ha9; have hb10 : Below W0.heap.size W0 w9 := hb9.grown hg9 hb9.size (fun g e => (own_lt ho8 e).1); obtain ⟨⟨u0, u1, u2, u3⟩, hf9⟩ := HCL.out _ hb10)
            | (refine step_append_hits (by rfl) (.tmp 84) (.tmp 86) (by rfl) W0.heap.size _ ln cs (by rfl) ho8 (some ⟨W0.heap.size + 1, 0, none⟩) 1 1 [.int .u64 hi1, .int .u64 hd1, .slice A5 hl1 c5] (by rfl) (by rfl) (fun j u hj => ⟨_, rfl, World.news_of_block (cs := #[.int .u64 hi1, .int .u64 hd1, .slice A5 hl1 c5]) (t := 36) (fr := (0, 0)) hsrc j u hj⟩) (by simp [Value.oneCell']) (by omega) hb8.size ?_; intro A9 c9 w9 ho9 hg9 ha9; have hb10 : Below W0.heap.size W0 w9 := hb8.grown hg9 hb8.size (fun g e => (own_lt ho8 e).1); obtain ⟨⟨u0, u1, u2, u3⟩, hf9⟩ := HCL.out _ hb10)
            | (refine step_append_hits (by rfl) (.tmp 84) (.tmp 86) (by rfl) W0.heap.size _ ln cs (by rfl) ho8 (some ⟨W0.heap.size, 0, none⟩) 1 1 [.int .u64 hi1, .int .u64 hd1, .slice A5 hl1 c5] (by rfl) (by rfl) (fun j u hj => ⟨_, rfl, World.news_of_block (cs := #[.int .u64 hi1, .int .u64 hd1, .slice A5 hl1 c5]) (t := 36) (fr := (0, 0)) hsrc j u hj⟩) (by simp [Value.oneCell']) (by omega) hb8.size ?_; intro A9 c9 w9 ho9 hg9 ha9; have hb10 : Below W0.heap.size W0 w9 := hb8.grown hg9 hb8.size (fun g e => (own_lt ho8 e).1); obtain ⟨⟨u0, u1, u2, u3⟩, hf9⟩ := HCL.out _ hb10)
            | fail)
        all_goals
          have HG9 := Lib.hid (HFIN.out w9 A9 c9 hb10 ho9)
          clear ho9 hg9 ha9 hb10 ho8 hg8 ha8 hb8
          go_wp2_with fail
          go_ret
          exact HG9.out
      · have i2 : (most : Int) ≤ (L.length : Int) := by omega
        have h0 : 0 < L.length := by omega
        have HWC : Hid (∀ n, Calls Try.prog 24 #[.pointer (some ⟨b, 0, none⟩)] (wr.drewN n) fun e w' => ∃ q, e = .returned (.int .i64 (q : Nat)) ∧ (∃ hq : q < L.length, ∀ j (hj : j < L.length), near L[q] L[j] = false) ∧ Below wr.heap.size wr w') := fun n =>
          (worst_any _ b most A c L (wr.drewN n) str.rl.blk str.rl.hits.2 h0 (by omega)).mono fun e w' ⟨q, e1, e2, e3⟩ => ⟨q, e1, e2, (below_drewN (Below.refl _ _) n).trans e3⟩
        have HNOL := Lib.hid hnoL
        clear hno hBr str hnoL HNO
        go_wp2_with fail
        go_quiet (fail)
        go_wp2_with fail
        refine (HWC.out nq).mono ?_
        rintro e w7 ⟨q, rfl, ⟨hq, hmin⟩, hb7⟩
        have st7 := HSR.out.below hb7
        obtain ⟨hno1, hyes1⟩ := add_full hP hg HNOL.out hfull hq hmin
        obtain ⟨ad, rfl, _, hadl, b0', b1', Y, cy, b2', _, _⟩ := st7.rl.hits.2 q hq
        have hadl' : (ad.add (q * 3)).block < w7.heap.size := by rw [block_add]; exact hadl
        have iq : (q : Int) < (L.length : Int) := by omega
        have x0 := three_cell0 st7.box
        have x1 := three_cell1 st7.box
        have x2 := three_cell2 st7.box
        have d1 := st7.rl.cells.2
        have hbl' := lt_of_block st7.rl.blk
        have hsa := lt_of_block st7.box
        have HN : Hid (Calls Try.prog 21 #[.agg #[.int .u64 h.1, .int .u64 h.2.1, .slice A5 h.2.2.length c5], .agg #[.int .u64 L[q].1, .int .u64 L[q].2.1, .slice Y L[q].2.2.length cy]] w7.drew fun e w' => e = .returned (.bool (near h L[q])) ∧ Below w7.heap.size w7 w') :=
          (refNearer_any _ _ _ _ _ _ _ _ _ _ w7.drew).mono fun _ _ ⟨he, hb⟩ => ⟨he, ((Below.refl _ _).drew).trans hb⟩
        obtain ⟨L1, hL1⟩ : ∃ x, x = L.take q ++ L.drop (q + 1) := ⟨_, rfl⟩
        have hl1 : L.length - 1 = L1.length := by rw [hL1]; simp only [List.length_append, List.length_take, List.length_drop]; omega
        have hl2 : L1.length ≤ 999999 := by omega
        have HFIN0 : Hid (∀ w8, Below w7.heap.size w7 w8 → near h L[q] = false → RGave w S B b most T h (.returned (.bool false)) w8) := fun w8 hb8 hnr => gave_no (st7.below hb8) hP (hno1 hnr)
        have HYES : Hid (near h L[q] = true → ∃ l, base most T h = some l ∧ (L1 ++ [h]).Perm (ins l h)) := by rw [hL1]; exact hyes1
        have HWO : Hid (∀ W, Below w7.heap.size w7 W → Calls Try.prog 23 #[.slice (some ad) L.length c, .int .i64 (q : Int)] W fun e w' => ∃ A9 c9, e = .returned (.slice A9 L1.length c9) ∧ w'.cell? ⟨b, 1, none⟩ = some (.slice (some ad) L.length c) ∧ w'.frozen? ⟨b, 1, none⟩ = false ∧ St w (w'.setCell ⟨b, 1, none⟩ (.slice A9 L1.length c9)) S B b most A9 c9 L1 h A5 c5) := fun W hW => by
          have sW := st7.below hW
          obtain ⟨cs, hown, hce⟩ := sW.rl.row
          refine (without_any _ B (some ad) c q L cs W hown hce hq (by omega)).mono ?_
          rintro e w' ⟨A7, c7, rfl, e2, e3⟩
          rw [hl1] at e2 ⊢
          have hset := sW.set (L9 := L1) (A9 := A7) (c9 := c7) e3 e2 (by
            rw [hL1]
            exact ((hce.take q (by omega)).append (hce.drop (q + 1))).kept e3.size fun g hg s => ⟨e3.block g hg, s⟩)
          exact ⟨A7, c7, rfl, hset.2.1, hset.2.2, hset.1⟩
        clear hno1 hyes1 st7 hL1 hl1 hmin hb7 HNOL HWC c0 c1
        generalize hnr : near h L[q] = nr at *
        generalize L[q].1 = pi at *
        generalize L[q].2.1 = pd at *
        generalize L[q].2.2.length = pl at *
        generalize hgi : h.1 = hi1 at *
        generalize hgd : h.2.1 = hd1 at *
        generalize hgl : h.2.2.length = hl9 at *
        have HGI := Lib.hid hgi
        have HGD := Lib.hid hgd
        have HGL := Lib.hid hgl
        clear hgi hgd hgl hnr
        go_wp2_with fail
        go_region_held3 (fun w' => w'.cell? ⟨b, 1, none⟩ = some (.slice (some ad) L.length c) ∧ w'.cell? (ad.add (q * 3)) = some (.int .u64 pi) ∧ w'.cell? ⟨(ad.add (q * 3)).block, (ad.add (q * 3)).off + 1, none⟩ = some (.int .u64 pd) ∧ w'.cell? ⟨(ad.add (q * 3)).block, (ad.add (q * 3)).off + 2, none⟩ = some (.slice Y pl cy) ∧ w'.cell? ⟨w.heap.size, 0, none⟩ = some (.int .u64 hi1) ∧ w'.cell? ⟨w.heap.size, 1, none⟩ = some (.int .u64 hd1) ∧ w'.cell? ⟨w.heap.size, 2, none⟩ = some (.slice A5 hl9 c5)) (first | exact ⟨d1, b0', b1', b2', x0, x1, x2⟩ | exact hS6)
          (first | (go_at_call 21; refine (HN.out).mono ?_; rintro e w8 ⟨rfl, hb8⟩; have hS6 := (⟨(hb8.cell (p := ⟨b, 1, none⟩) hbl').trans d1, (hb8.cell (p := ad.add (q * 3)) hadl').trans b0', (hb8.cell (p := ⟨(ad.add (q * 3)).block, (ad.add (q * 3)).off + 1, none⟩) hadl').trans b1', (hb8.cell (p := ⟨(ad.add (q * 3)).block, (ad.add (q * 3)).off + 2, none⟩) hadl').trans b2', (hb8.cell (p := ⟨w.heap.size, 0, none⟩) hsa).trans x0, (hb8.cell (p := ⟨w.heap.size, 1, none⟩) hsa).trans x1, (hb8.cell (p := ⟨w.heap.size, 2, none⟩) hsa).trans x2⟩ : _ ∧ _ ∧ _ ∧ _ ∧ _ ∧ _ ∧ _)))
        obtain ⟨s1, _⟩ := hS6
        have HB8 := Lib.hid hb8
        clear hb8 b0' b1' b2' x0 x1 x2 d1 HN
        cases nr with
        | false =>
          go_wp2_with fail
          go_ret
          exact HFIN0.out w8 HB8.out (by first | rfl | trivial)
        | true =>
          have YES := Lib.hid (HYES.out rfl)
          have HWO8 := Lib.hid (HWO.out w8 HB8.out)
          clear HFIN0 HYES HWO hP hg HST HSR
          go_wp2_with fail
          refine (HWO8.out).mono ?_
          rintro e w9 ⟨A9', c9', rfl, t1, tf, st9⟩
          have ST := Lib.hid st9
          clear st9 HWO8 HB8 s1
          go_wp2_with fail
          obtain ⟨W0, hW0⟩ : ∃ x, x = w9.setCell ⟨b, 1, none⟩ (.slice A9' L1.length c9') := ⟨_, rfl⟩
          rw [← hW0] at ST ⊢
          clear hW0 t1 tf hbl' hsa hadl hadl'
          rw [← HGI.out, ← HGD.out, ← HGL.out]
          have sta := ST.out
          have z0 := three_cell0 sta.box
          have z1 := three_cell1 sta.box
          have z2 := three_cell2 sta.box
          have e1 := sta.rl.cells.2
          obtain ⟨cs, hown, hce⟩ := sta.rl.row
          have hlen := hce.1
          have hcap := sta.rl.hits.1
          have HCL : Hid (∀ W, Below W0.heap.size W0 W → (W.cell? ⟨b, 1, none⟩ = some (.slice A9' L1.length c9') ∧ W.cell? ⟨w.heap.size, 0, none⟩ = some (.int .u64 h.1) ∧ W.cell? ⟨w.heap.size, 1, none⟩ = some (.int .u64 h.2.1) ∧ W.cell? ⟨w.heap.size, 2, none⟩ = some (.slice A5 h.2.2.length c5)) ∧ W.frozen? ⟨b, 1, none⟩ = false) := fun W hW => by
            have s := sta.below hW
            exact ⟨⟨s.rl.cells.2, three_cell0 s.box, three_cell1 s.box, three_cell2 s.box⟩, two_free s.rl.blk⟩
          have HNEWS : Hid (∀ W, Below W0.heap.size W0 W → ∀ j u, cs[j]? = some u → ∃ ad, A9' = some ad ∧ W.cell? (ad.add j) = some u) := fun W hW j u hj => by
            have ho := own_below hown hW
            rcases ho.2 with ⟨_, e⟩ | ⟨g, cap, cur, e, _⟩
            · have := (List.getElem?_eq_some_iff.1 hj).1
              rw [hlen, e] at this
              omega
            · injection e with e _ _
              exact ⟨⟨g, 0, none⟩, e, ho.cells (g := g) (by rw [e]; rfl) j u hj⟩
          have HONE := Lib.hid hce.oneCell
          have HFIN : Hid (∀ w9 A9 c9, Below W0.heap.size W0 w9 → w9.ownsRow W0.heap.size 36 3 (.slice A9 (L1.length + 1) c9) (L1.length + 1) (cs ++ [.int .u64 h.1, .int .u64 h.2.1, .slice A5 h.2.2.length c5]) → RGave w S B b most T h (.returned (.bool true)) (w9.setCell ⟨b, 1, none⟩ (.slice A9 (L1.length + 1) c9))) := fun w9 A9 c9 hb9 ho9 => by
            have hl9 : (L1 ++ [h]).length = L1.length + 1 := by simp
            have s9 := sta.below hb9
            have hc9 : Cells3 (SX w S b) w9 (cs ++ [.int .u64 h.1, .int .u64 h.2.1, .slice A5 h.2.2.length c5]) (L1 ++ [h]) :=
              Cells3.append (hce.kept hb9.size fun g hg s => ⟨hb9.block g hg, s⟩) (Cells3.one h A5 c5 s9.cap (s9.vec.mono fun g _ s => ⟨by have := s9.lt; omega, .inr (by omega)⟩))
            have := sta.set (L9 := L1 ++ [h]) (A9 := A9) (c9 := c9) hb9 (by rw [hl9]; exact ho9) hc9
            rw [hl9] at this
            exact gave_yes this.1 YES.out
          have hlen' : cs.length = L1.length * 3 := hlen
          have HLEN := Lib.hid hlen'
          have hbl2 : b < W0.heap.size := lt_of_cell e1
          have hwl2 : w.heap.size < W0.heap.size := lt_of_cell z0
          have hne2 : b ≠ W0.heap.size := by omega
          have hne3 : ¬ W0.heap.size = b := by omega
          clear sta hown hce hlen hlen' hcap ST
          generalize h.1 = hi1 at *
          generalize h.2.1 = hd1 at *
          generalize h.2.2.length = hl1 at *
          generalize L1.length = ln at *
          obtain ⟨s, hs⟩ : ∃ s, s = W0.heap.size := ⟨_, rfl⟩
          have HOa : Hid ((W0.drew.alloc (.cells #[] 36)).ownsRow W0.heap.size 36 3 (.slice (some ⟨W0.heap.size, 0, none⟩) 0 0) 0 []) := World.ownsRow_lit W0.drew #[] 0 (Nat.le_refl _) (by decide) rfl
          have HOb : Hid (((W0.drew.alloc (.cells #[] 36)).alloc (.cells #[.int .u64 hi1, .int .u64 hd1, .slice A5 hl1 c5] 36)).ownsRow W0.heap.size 36 3 (.slice (some ⟨W0.heap.size, 0, none⟩) 0 0) 0 []) := HOa.out.alloc _
          have HOc : Hid (((W0.drew.alloc (.cells #[.int .u64 hi1, .int .u64 hd1, .slice A5 hl1 c5] 36)).alloc (.cells #[] 36)).ownsRow W0.heap.size 36 3 (.slice (some ⟨W0.heap.size + 1, 0, none⟩) 0 0) 0 []) := by
            have := World.ownsRow_lit (base := W0.heap.size) (e := 36) (size := 3) (W0.drew.alloc (.cells #[.int .u64 hi1, .int .u64 hd1, .slice A5 hl1 c5] 36)) #[] 0 (by simp) (by decide) rfl
            have hz : (W0.drew.alloc (.cells #[.int .u64 hi1, .int .u64 hd1, .slice A5 hl1 c5] 36)).heap.size = W0.heap.size + 1 := by simp
            rw [hz] at this
            exact this
          clear hs
          have ba : Below W0.heap.size W0 (W0.drew.alloc (.cells #[] 36)) := ((Below.refl _ _).drew).alloc (Nat.le_refl _) _
          have bb : Below W0.heap.size W0 ((W0.drew.alloc (.cells #[] 36)).alloc (.cells #[.int .u64 hi1, .int .u64 hd1, .slice A5 hl1 c5] 36)) := ba.alloc ba.size _
          have bd : Below W0.heap.size W0 (W0.drew.alloc (.cells #[.int .u64 hi1, .int .u64 hd1, .slice A5 hl1 c5] 36)) := ((Below.refl _ _).drew).alloc (Nat.le_refl _) _
          have bc : Below W0.heap.size W0 ((W0.drew.alloc (.cells #[.int .u64 hi1, .int .u64 hd1, .slice A5 hl1 c5] 36)).alloc (.cells #[] 36)) := bd.alloc bd.size _
          have oa : ((W0.drew.alloc (.cells #[] 36)).alloc (.cells #[.int .u64 hi1, .int .u64 hd1, .slice A5 hl1 c5] 36)).heap[W0.heap.size + 1]? = some (.cells #[.int .u64 hi1, .int .u64 hd1, .slice A5 hl1 c5] 36 (0, 0)) := by
            have := heap_alloc_new (W0.drew.alloc (.cells #[] 36)) (.cells #[.int .u64 hi1, .int .u64 hd1, .slice A5 hl1 c5] 36)
            simpa using this
          have oc : ((W0.drew.alloc (.cells #[.int .u64 hi1, .int .u64 hd1, .slice A5 hl1 c5] 36)).alloc (.cells #[] 36)).heap[W0.heap.size]? = some (.cells #[.int .u64 hi1, .int .u64 hd1, .slice A5 hl1 c5] 36 (0, 0)) := by
            rw [Below.heap_alloc _ _ _ (by simp)]
            exact heap_alloc_new W0.drew _
          have HBA := Lib.hid ba
          have HBB := Lib.hid bb
          have HBC := Lib.hid bc
          have HOO := Lib.hid oa
          have HOX := Lib.hid oc
          obtain ⟨⟨r0, r1, r2, r3⟩, _⟩ := HCL.out _ ba
          obtain ⟨⟨p0, p1, p2, p3⟩, _⟩ := HCL.out _ bb
          obtain ⟨⟨q0, q1, q2, q3⟩, _⟩ := HCL.out _ bc
          obtain ⟨⟨v0, v1, v2, v3⟩, _⟩ := HCL.out _ bd
          clear oa oc
          go_region_law
            (first
              | (refine step_append_first (by rfl) (.tmp 79) (.tmp 83) (by rfl) W0.heap.size _ (by rfl) HOa.out A9' ln c9' cs (by rfl) HLEN.out (HNEWS.out _ HBA.out) HONE.out (by omega) HBA.out.size ?_; intro A8 c8 w8 ho8 hg8 ha8; have hb8 : Below W0.heap.size W0 w8 := HBA.out.grown hg8 HBA.out.size (fun g e => by simp [Value.ownBlock] at e; omega); have hb9 : Below W0.heap.size W0 (w8.alloc (.cells #[.int .u64 hi1, .int .u64 hd1, .slice A5 hl1 c5] 36)) := hb8.alloc hb8.size _; have hsrc : (w8.alloc (.cells #[.int .u64 hi1, .int .u64 hd1, .slice A5 hl1 c5] 36)).heap[w8.heap.size]? = some (.cells #[.int .u64 hi1, .int .u64 hd1, .slice A5 hl1 c5] 36 (0, 0)) := heap_alloc_new w8 _; obtain ⟨⟨s0, s1, s2, s3⟩, _⟩ := HCL.out _ hb8; obtain ⟨⟨t0, t1, t2, t3⟩, _⟩ := HCL.out _ hb9)
              | (refine step_append_first (by rfl) (.tmp 79) (.tmp 83) (by rfl) W0.heap.size _ (by rfl) HOb.out A9' ln c9' cs (by rfl) HLEN.out (HNEWS.out _ HBB.out) HONE.out (by omega) HBB.out.size ?_; intro A8 c8 w8 ho8 hg8 ha8; have hb8 : Below W0.heap.size W0 w8 := HBB.out.grown hg8 HBB.out.size (fun g e => by simp [Value.ownBlock] at e; omega); have hsrc := (hg8.block (W0.heap.size + 1) (by simp) (by simp [Value.ownBlock])).trans HOO.out; obtain ⟨⟨s0, s1, s2, s3⟩, _⟩ := HCL.out _ hb8)
              | (refine step_append_first (by rfl) (.tmp 79) (.tmp 83) (by rfl) W0.heap.size _ (by rfl) HOc.out A9' ln c9' cs (by rfl) HLEN.out (HNEWS.out _ HBC.out) HONE.out (by omega) HBC.out.size ?_; intro A8 c8 w8 ho8 hg8 ha8; have hb8 : Below W0.heap.size W0 w8 := HBC.out.grown hg8 HBC.out.size (fun g e => by simp [Value.ownBlock] at e; omega); have hsrc := (hg8.block W0.heap.size (by simp; omega) (by simp [Value.ownBlock])).trans HOX.out; obtain ⟨⟨s0, s1, s2, s3⟩, _⟩ := HCL.out _ hb8)
              | (refine step_append_hits (by rfl) (.tmp 84) (.tmp 86) (by rfl) W0.heap.size _ ln cs (by rfl) (ho8.alloc _) (some ⟨w8.heap.size, 0, none⟩) 1 1 [.int .u64 hi1, .int .u64 hd1, .slice A5 hl1 c5] (by rfl) (by rfl) (fun j u hj => ⟨_, rfl, World.news_of_block (cs := #[.int .u64 hi1, .int .u64 hd1, .slice A5 hl1 c5]) (t := 36) (fr := (0, 0)) hsrc j u hj⟩) (by simp [Value.oneCell']) (by omega) hb9.size ?_; intro A9 c9 w9 ho9 hg9 ha9; have hb10 : Below W0.heap.size W0 w9 := hb9.grown hg9 hb9.size (fun g e => (own_lt ho8 e).1); obtain ⟨⟨u0, u1, u2, u3⟩, hf9⟩ := HCL.out _ hb10)
              | (refine step_append_hits (by rfl) (.tmp 84) (.tmp 86) (by rfl) W0.heap.size _ ln cs (by rfl) ho8 (some ⟨W0.heap.size + 1, 0, none⟩) 1 1 [.int .u64 hi1, .int .u64 hd1, .slice A5 hl1 c5] (by rfl) (by rfl) (fun j u hj => ⟨_, rfl, World.news_of_block (cs := #[.int .u64 hi1, .int .u64 hd1, .slice A5 hl1 c5]) (t := 36) (fr := (0, 0)) hsrc j u hj⟩) (by simp [Value.oneCell']) (by omega) hb8.size ?_; intro A9 c9 w9 ho9 hg9 ha9; have hb10 : Below W0.heap.size W0 w9 := hb8.grown hg9 hb8.size (fun g e => (own_lt ho8 e).1); obtain ⟨⟨u0, u1, u2, u3⟩, hf9⟩ := HCL.out _ hb10)
              | (refine step_append_hits (by rfl) (.tmp 84) (.tmp 86) (by rfl) W0.heap.size _ ln cs (by rfl) ho8 (some ⟨W0.heap.size, 0, none⟩) 1 1 [.int .u64 hi1, .int .u64 hd1, .slice A5 hl1 c5] (by rfl) (by rfl) (fun j u hj => ⟨_, rfl, World.news_of_block (cs := #[.int .u64 hi1, .int .u64 hd1, .slice A5 hl1 c5]) (t := 36) (fr := (0, 0)) hsrc j u hj⟩) (by simp [Value.oneCell']) (by omega) hb8.size ?_; intro A9 c9 w9 ho9 hg9 ha9; have hb10 : Below W0.heap.size W0 w9 := hb8.grown hg9 hb8.size (fun g e => (own_lt ho8 e).1); obtain ⟨⟨u0, u1, u2, u3⟩, hf9⟩ := HCL.out _ hb10)
              | fail)
          all_goals
            have HG9 := Lib.hid (HFIN.out w9 A9 c9 hb10 ho9)
            clear ho9 hg9 ha9 hb10 ho8 hg8 ha8 hb8
            go_wp2_with fail
            go_ret
            exact HG9.out

end Go.Proofs.Ytfhnhfppamnjhaa
