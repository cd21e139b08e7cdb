/-
  Steps of ScrollWrites.
-/
import Derived.Test.YtlambcmikfihgaaIts
import Derived.Test.YtlambcmikfihgaaOpen2
import Derived.Deep.RegionWith
namespace Go.Proofs.Ytlambcmikfihgaa
open Go.RowKit
set_option linter.unusedSimpArgs false
set_option linter.unusedVariables false

theorem wpList_append_item (w : World) {ops : Array Oper} {rest : List Oper} {o : Oper} {a : Act} {Q : Exit → Act → World → Prop} (hgd : o.guard = none) (s x : Operand)
    (ho : o.op = .call { callee := .builtin .append, args := #[s, x], argTypes := #[22, 22] }) (base : Nat) (v : Value) (n : Nat) (xs : List Value) (hs : a.eval s = v) (hown : w.ownsRow base 32 5 v n xs)
    (ad : Addr) (c : Nat) (news : List Value) (hx : a.eval x = .slice (some ad) 1 c) (hl : news.length = 5) (hnews : ∀ j u, news[j]? = some u → w.cell? (ad.add j) = some u) (h1 : ∀ u ∈ news, u.oneCell' = true)
    (h63 : n ≤ 1000) (hbase : base ≤ w.heap.size)
    (k : ∀ A' c' w', w'.ownsRow base 32 5 (.slice A' (n + 1) c') (n + 1) (xs ++ news) → w.grownBy w' v.ownBlock → ((Value.slice A' (n + 1) c').ownBlock = v.ownBlock ∨ (Value.slice A' (n + 1) c').ownBlock = some w.heap.size) → wpList Try.prog ops Q rest (a.put o.dst (.slice A' (n + 1) c')) w') :
    wpList Try.prog ops Q (o :: rest) a w := by
  obtain ⟨i0, hi, hz0, hz1, hz2⟩ := info_parts Try.info32
  refine wpList_append_lies w hgd s x 22 ho base 32 i0 _ 5 88 Try.underlying22 hi hz0 hz1 hz2 rfl (by omega) v n xs hs hown ad 1 c news hx (by omega) hnews h1 (by omega) (by unfold maxLen; omega) (by omega) hbase w.heap.size rfl (fun g cap w' k1 k2 k3 _ => k _ cap w' k1 k2 ?_)
  rcases k3 with e | e
  · exact .inl e.symm
  · exact .inr (by rw [e]; rfl)

theorem set5_below {n : Nat} {w w' : World} {q : Nat} {a0 a1 a2 a3 a4 : Value} (h : Below n w w') (hq : n ≤ q) : Below n w (((((w'.setCell ⟨q, 0, none⟩ a0).setCell ⟨q, 1, none⟩ a1).setCell ⟨q, 2, none⟩ a2).setCell ⟨q, 3, none⟩ a3).setCell ⟨q, 4, none⟩ a4) :=
  ((((h.setCell (p := ⟨q, 0, none⟩) hq a0).setCell (p := ⟨q, 1, none⟩) hq a1).setCell (p := ⟨q, 2, none⟩) hq a2).setCell (p := ⟨q, 3, none⟩) hq a3).setCell (p := ⟨q, 4, none⟩) hq a4
theorem set5_other {w : World} {q g : Nat} {a0 a1 a2 a3 a4 : Value} (h : g ≠ q) : (((((w.setCell ⟨q, 0, none⟩ a0).setCell ⟨q, 1, none⟩ a1).setCell ⟨q, 2, none⟩ a2).setCell ⟨q, 3, none⟩ a3).setCell ⟨q, 4, none⟩ a4).heap[g]? = w.heap[g]? := by
  rw [Below.heap_setCell _ _ _ _ h, Below.heap_setCell _ _ _ _ h, Below.heap_setCell _ _ _ _ h, Below.heap_setCell _ _ _ _ h, Below.heap_setCell _ _ _ _ h]
theorem set5_cells {w : World} {q : Nat} {x0 x1 x2 x3 x4 a0 a1 a2 a3 a4 : Value} {t : TypeId} (h : w.heap[q]? = some (.cells #[x0, x1, x2, x3, x4] t (0, 0))) : (((((w.setCell ⟨q, 0, none⟩ a0).setCell ⟨q, 1, none⟩ a1).setCell ⟨q, 2, none⟩ a2).setCell ⟨q, 3, none⟩ a3).setCell ⟨q, 4, none⟩ a4).heap[q]? = some (.cells #[a0, a1, a2, a3, a4] t (0, 0)) :=
  five_set4 (five_set3 (five_set2 (five_set1 (five_set0 h))))
theorem set5_size {w : World} {q : Nat} {a0 a1 a2 a3 a4 : Value} : (((((w.setCell ⟨q, 0, none⟩ a0).setCell ⟨q, 1, none⟩ a1).setCell ⟨q, 2, none⟩ a2).setCell ⟨q, 3, none⟩ a3).setCell ⟨q, 4, none⟩ a4).heap.size = w.heap.size := by
  rw [set_size, set_size, set_size, set_size, set_size]

theorem Sta.new {w0 w : World} {b : Nat} {v v4 v5 : Value} {Lw Lt : List Int} {os : List Itm} (h : Sta w0 w b v v4 v5 Lw Lt os) {g : Nat} (hg : w.heap.size ≤ g) : Off b v v4 v5 g := by
  obtain ⟨cs, h1, _⟩ := h.al
  exact ⟨by have := lt_of_block h.wr.blk; omega, fun e => by have := (own_lt h.wr.own e.symm).2; omega, fun e => by have := (own_lt h.wa e.symm).2; omega, fun e => by have := (own_lt h1 e.symm).2; omega⟩
theorem Sta.start (w : World) : Sta w (w.alloc (.cells #[.slice none 0 0] 27)) w.heap.size (.slice none 0 0) (.slice none 0 0) (.slice none 0 0) [] [] [] :=
  ⟨(Below.refl _ _).alloc (Nat.le_refl _) _, Wr.new w, ⟨by simp [u8s], .inl ⟨rfl, rfl⟩⟩, ⟨[], ⟨by simp, .inl ⟨rfl, rfl⟩⟩, Cells5.nil⟩, Nat.le_refl _, fun g e => by simp [Value.ownBlock] at e, fun g e => by simp [Value.ownBlock] at e⟩

/-- the item that is written, in its cell -/
structure Cur (w : World) (b q : Nat) (v v4 v5 : Value) (o : Itm) (A1 : Option Addr) (c1 : Nat) (A2 : Option Addr) (c2 : Nat) (A3 : Option Addr) (c3 : Nat) : Prop where
  cell : w.heap[q]? = some (.cells #[.int .u8 o.d, .slice A1 o.xs.length c1, .slice A2 o.ts.length c2, .slice A3 o.vs.length c3, .int .i64 o.m] 32 (0, 0))
  off : Off b v v4 v5 q
  at' : ItAt (Off b v v4 v5) w o A1 A2 A3
theorem Cur.kp {w w' : World} {b q : Nat} {v v4 v5 v' v4' v5' : Value} {o : Itm} {A1 : Option Addr} {c1 : Nat} {A2 : Option Addr} {c2 : Nat} {A3 : Option Addr} {c3 : Nat} (h : Cur w b q v v4 v5 o A1 c1 A2 c2 A3 c3) (k : Kp w w' (Off b v v4 v5) (Off b v' v4' v5')) : Cur w' b q v' v4' v5' o A1 c1 A2 c2 A3 c3 := by
  obtain ⟨k1, k2⟩ := k.2 q (lt_of_block h.cell) h.off
  exact ⟨k1.trans h.cell, k2, h.at'.kept k.1 k.2⟩

/-- items that came in -/
def fewI (o : Itm) : Itm := ⟨o.d, o.xs.take 5, cutR 40 o.ts o.ts.length, cutR 12 o.vs o.vs.length, o.m⟩
structure ItOk (o : Itm) : Prop where
  d : 0 ≤ o.d ∧ o.d < 256
  x : ∀ x ∈ o.xs, x < U64
  t : ∀ t ∈ o.ts, Bytes8 t
  v : ∀ v ∈ o.vs, ∀ y ∈ v, I32 y
  xl : o.xs.length ≤ 9223372036854775807
  tl : o.ts.length ≤ 9223372036854775807
  vl : o.vs.length ≤ 9223372036854775807
theorem ItFew.of {o : Itm} (h : ItOk o) : ItFew (fewI o) where
  d := h.d
  xl := by show (o.xs.take 5).length ≤ 5; rw [List.length_take]; omega
  x := fun x hx => h.x x (List.mem_of_mem_take hx)
  tl := cutR_len _ _ _
  t := fun t ht => ⟨cutR_most _ _ _ t ht, fun x hx => by
    obtain ⟨y, hy, rfl⟩ := List.mem_map.1 ht
    exact h.t y (List.mem_of_mem_take hy) x (List.mem_of_mem_take hx)⟩
  vl := cutR_len _ _ _
  v := fun t ht => ⟨cutR_most _ _ _ t ht, fun x hx => by
    obtain ⟨y, hy, rfl⟩ := List.mem_map.1 ht
    exact h.v y (List.mem_of_mem_take hy) x (List.mem_of_mem_take hx)⟩
structure ItIn (w : World) (o : Itm) (A1 : Option Addr) (c1 : Nat) (A2 A3 : Option Addr) : Prop where
  xs : Row (fun g => g < w.heap.size) w A1 (u64s o.xs)
  c : o.xs.length ≤ c1
  ts : RowsC u8s w A2 o.ts
  vs : RowsC i32s w A3 o.vs
theorem ItIn.below {w w' : World} {o : Itm} {A1 : Option Addr} {c1 : Nat} {A2 A3 : Option Addr} (h : ItIn w o A1 c1 A2 A3) (hb : Below w.heap.size w w') : ItIn w' o A1 c1 A2 A3 :=
  ⟨(h.xs.below hb).mono fun g _ s => by have := hb.size; omega, h.c, h.ts.below hb, h.vs.below hb⟩
def ItsIn (w : World) (A : Option Addr) (os : List Itm) : Prop :=
  ∀ j (hj : j < os.length), ∃ ad, A = some ad ∧ ad.block < w.heap.size ∧ ∃ A1 c1 A2 c2 A3 c3, ItIn w (os[j]'hj) A1 c1 A2 A3 ∧
    w.cell? (ad.add (j * 5)) = some (.int .u8 (os[j]'hj).d) ∧
    w.cell? ⟨(ad.add (j * 5)).block, (ad.add (j * 5)).off + 1, none⟩ = some (.slice A1 (os[j]'hj).xs.length c1) ∧
    w.cell? ⟨(ad.add (j * 5)).block, (ad.add (j * 5)).off + 2, none⟩ = some (.slice A2 (os[j]'hj).ts.length c2) ∧
    w.cell? ⟨(ad.add (j * 5)).block, (ad.add (j * 5)).off + 3, none⟩ = some (.slice A3 (os[j]'hj).vs.length c3) ∧
    w.cell? ⟨(ad.add (j * 5)).block, (ad.add (j * 5)).off + 4, none⟩ = some (.int .i64 (os[j]'hj).m)
theorem ItsIn.below {w w' : World} {A : Option Addr} {os : List Itm} (h : ItsIn w A os) (hb : Below w.heap.size w w') : ItsIn w' A os := fun j hj => by
  have hs := hb.size
  obtain ⟨ad, e, lt, A1, c1, A2, c2, A3, c3, hat, k0, k1, k2, k3, k4⟩ := h j hj
  have hblk : (ad.add (j * 5)).block < w.heap.size := by rw [block_add]; exact lt
  exact ⟨ad, e, by omega, A1, c1, A2, c2, A3, c3, hat.below hb, (hb.cell (p := ad.add (j * 5)) hblk).trans k0, (hb.cell (p := ⟨_, _, none⟩) hblk).trans k1, (hb.cell (p := ⟨_, _, none⟩) hblk).trans k2, (hb.cell (p := ⟨_, _, none⟩) hblk).trans k3, (hb.cell (p := ⟨_, _, none⟩) hblk).trans k4⟩

end Go.Proofs.Ytlambcmikfihgaa
