/-
  Words for memory: a slice that reads as a list of cells ('Row'), what append onto an own row gives, what came in.
-/
import Derived.WalkKit
import Derived.Deep.AppendLies
import Derived.Laws.CopyOwn
import Derived.Maps.AppendAt
import Derived.OpenShut
import Derived.Lib.Hide
import Derived.Test.YtchedflfinkppaaProg
import Derived.Test.YtchedflfinkppaaChecked
namespace Go.Proofs.Ytchedflfinkppaa
open Go.RowKit

/-- A slice that reads as the cells xs; of its block S holds. -/
def Row (S : Nat → Prop) (w : World) (A : Option Addr) (xs : List Value) : Prop :=
  ∀ j, j < xs.length → ∃ ad, A = some ad ∧ S ad.block ∧ ad.block < w.heap.size ∧ w.cell? (ad.add j) = xs[j]?

theorem block_add (a : Addr) (n : Nat) : (a.add n).block = a.block := by unfold Addr.add; split <;> rfl

theorem Row.mono {S S' : Nat → Prop} {w : World} {A : Option Addr} {xs : List Value} (h : Row S w A xs) (hS : ∀ g, g < w.heap.size → S g → S' g) : Row S' w A xs :=
  fun j hj => by obtain ⟨ad, e, s, lt, c⟩ := h j hj; exact ⟨ad, e, hS _ lt s, lt, c⟩
theorem Row.kept {S : Nat → Prop} {w w' : World} {A : Option Addr} {xs : List Value} (h : Row S w A xs) (hs : w.heap.size ≤ w'.heap.size) (hk : ∀ g, g < w.heap.size → S g → w'.heap[g]? = w.heap[g]?) : Row S w' A xs :=
  fun j hj => by
    obtain ⟨ad, e, s, lt, c⟩ := h j hj
    exact ⟨ad, e, s, by omega, (World.cell?_of_block (by rw [block_add]; exact hk _ lt s)).trans c⟩
theorem Row.nil {S : Nat → Prop} {w : World} {A : Option Addr} : Row S w A [] := fun j hj => by simp at hj

def u8s (l : List Int) : List Value := l.map fun (n : Int) => Value.int .u8 n
theorem u8s_at {xs : List Int} {k : Nat} (h : k < xs.length) : (u8s xs)[k]? = some (.int .u8 xs[k]) := by simp [u8s, h]
theorem u8s_len (xs : List Int) : (u8s xs).length = xs.length := by simp [u8s]
theorem u8s_one (xs : List Int) : ∀ u ∈ u8s xs, u.oneCell' = true := ints_oneCell _ _

theorem Row.any {S : Nat → Prop} {w : World} {A : Option Addr} {xs : List Value} (h : Row S w A xs) : Row (fun _ => True) w A xs := h.mono fun _ _ _ => trivial
theorem Row.below {S : Nat → Prop} {w w' : World} {A : Option Addr} {xs : List Value} (h : Row S w A xs) (hb : Below w.heap.size w w') : Row S w' A xs := h.kept hb.size fun g hg _ => hb.block g hg
theorem Row.alloc {S : Nat → Prop} {w : World} {A : Option Addr} {xs : List Value} (h : Row S w A xs) (o : Obj) : Row S (w.alloc o) A xs := h.kept (by simp) fun g hg _ => Below.heap_alloc w o g hg
theorem Row.drew {S : Nat → Prop} {w : World} {A : Option Addr} {xs : List Value} (h : Row S w A xs) : Row S w.drew A xs := h
/-- a block that is known whole -/
theorem Row.of_block {S : Nat → Prop} {w : World} {g : Nat} {xs : List Value} {t : TypeId} {fr : Nat × Nat} (h : w.heap[g]? = some (.cells xs.toArray t fr)) (hS : S g) : Row S w (some ⟨g, 0, none⟩) xs := fun j hj => by
  refine ⟨_, rfl, hS, lt_of_block h, ?_⟩
  have := World.news_of_block h j xs[j] (by simp)
  rw [this]; simp [hj]
/-- the cells, as the laws on append and copy ask for them -/
theorem Row.cells {S : Nat → Prop} {w : World} {A : Option Addr} {xs : List Value} (h : Row S w A xs) (h0 : 0 < xs.length) : ∃ ad, A = some ad ∧ ∀ j v, xs[j]? = some v → w.cell? (ad.add j) = some v := by
  obtain ⟨ad, rfl, _⟩ := h 0 h0
  refine ⟨ad, rfl, fun j v hv => ?_⟩
  have hj : j < xs.length := by
    rcases Nat.lt_or_ge j xs.length with h1 | h1
    · exact h1
    · rw [List.getElem?_eq_none h1] at hv; cases hv
  obtain ⟨ad', e, _, _, hc⟩ := h j hj
  injection e with e
  subst e
  rw [hc, hv]

/-- the room that make lays -/
theorem made_u8 (n : Nat) : ∃ L : List Value, madeCells #[.int .u8 0] n = L.toArray ∧ L.length = n :=
  ⟨(madeCells #[.int .u8 0] n).toList, by simp, by rw [toList_madeCells_one]; simp⟩

theorem splice_all {L cs : List Value} (h : cs.length = L.length) : splice L 0 cs = cs := by simp [splice, h]

def i32s (l : List Int) : List Value := l.map fun (n : Int) => Value.int .i32 n
theorem i32s_at {xs : List Int} {k : Nat} (h : k < xs.length) : (i32s xs)[k]? = some (.int .i32 xs[k]) := by simp [i32s, h]
theorem i32s_len (xs : List Int) : (i32s xs).length = xs.length := by simp [i32s]
theorem i32s_one (xs : List Int) : ∀ u ∈ i32s xs, u.oneCell' = true := ints_oneCell _ _
def I32 (n : Int) : Prop := -2147483648 ≤ n ∧ n ≤ 2147483647

/-- what is owned reads as a row -/
theorem Row.of_own {w : World} {base n : Nat} {e : TypeId} {v : Value} {xs : List Value} (h : w.ownsRow base e 1 v n xs) : ∃ A c, v = .slice A n c ∧ n ≤ c ∧ xs.length = n ∧ Row (fun g => base ≤ g ∧ some g = v.ownBlock) w A xs := by
  have hl : xs.length = n := by simpa using h.1
  rcases h.2 with ⟨rfl, rfl⟩ | ⟨g, cap, cur, rfl, hg, hh, hnc, _, hcs, htake⟩
  · have : xs = [] := List.eq_nil_of_length_eq_zero hl
    subst this
    exact ⟨none, 0, rfl, Nat.le_refl _, rfl, Row.nil⟩
  · refine ⟨_, cap, rfl, hnc, hl, fun j hj => ⟨_, rfl, ⟨hg, rfl⟩, lt_of_block hh, ?_⟩⟩
    rw [h.cells (g := g) rfl j xs[j] (by simp)]; simp [hj]

theorem run_append_nothing {P : Program} (w : World) (base : Nat) (t ty e : TypeId) (i : TypeInfo) (ht : P.underlying t = some (.slice e)) (hi : P.info? e = some i)
    (v : Value) (n : Nat) (xs : List Value) (hown : w.ownsRow base e 1 v n xs) (c : Nat) : (Builtin.append_ #[t, t] ty #[v, .slice none 0 c]).run P w = .ok v w := by
  rcases hown.2 with ⟨rfl, rfl⟩ | ⟨g, cap, cur, rfl, _, _, hnc, _⟩
  · simp [Builtin.append_, run_underlying ht, sizeOf, typeInfo, hi, Builtin.lenOf, Builtin.firstCells]
  · simp [Builtin.append_, run_underlying ht, sizeOf, typeInfo, hi, Builtin.lenOf, Builtin.firstCells, hnc, storeCells]

theorem wpList_append_row {P : Program} (w : World) {ops : Array Oper} {rest : List Oper} {o : Oper} {a : Act} {Q : Exit → Act → World → Prop} (hgd : o.guard = none) (s x : Operand) (t : TypeId)
    (ho : o.op = .call { callee := .builtin .append, args := #[s, x], argTypes := #[t, t] })
    (base : Nat) (e : TypeId) (i : TypeInfo) (z : Value) (bytes : Nat) (ht : P.underlying t = some (.slice e)) (hi : P.info? e = some i) (hz : i.zero = some z)
    (hsize : i.size = 1) (hby : i.bytes = bytes) (hzs : z.cells.size = 1)
    (v : Value) (n : Nat) (xs : List Value) (hs : a.eval s = v) (hown : w.ownsRow base e 1 v n xs)
    (S : Nat → Prop) (A : Option Addr) (m c : Nat) (news : List Value) (hx : a.eval x = .slice A m c) (hm : news.length = m) (hr : Row S w A news) (h1 : ∀ u ∈ news, u.oneCell' = true)
    (h63 : n + m ≤ maxLen) (hbytes : (n + m) * bytes ≤ 140737488355328) (hbase : base ≤ w.heap.size)
    (k : ∀ A' c' w', w'.ownsRow base e 1 (.slice A' (n + m) c') (n + m) (xs ++ news) → w.grownBy w' v.ownBlock → ((Value.slice A' (n + m) c').ownBlock = v.ownBlock ∨ (Value.slice A' (n + m) c').ownBlock = some w.heap.size) → wpList P ops Q rest (a.put o.dst (.slice A' (n + m) c')) w') :
    wpList P ops Q (o :: rest) a w := by
  have h : ∀ v' w', w'.ownsRow base e 1 v' (n + m) (xs ++ news) → w.grownBy w' v.ownBlock → (v'.ownBlock = v.ownBlock ∨ v'.ownBlock = some w.heap.size) → wpList P ops Q rest (a.put o.dst v') w' := by
    intro v' w' h1 h2 h3
    obtain ⟨A', c', rfl, _⟩ := Row.of_own h1
    exact k A' c' w' h1 h2 h3
  rcases A with _ | ad
  · have h0 : m = 0 := by
      rcases Nat.eq_zero_or_pos m with h0 | h0
      · exact h0
      · obtain ⟨_, e, _⟩ := hr 0 (by omega); cases e
    subst h0
    have hn : news = [] := List.eq_nil_of_length_eq_zero hm
    subst hn
    refine wpList_plain hgd fun K hK => ?_
    have hrun := run_append_nothing w base t o.type e i ht hi v n xs hown c
    unfold Oper.wp
    simp [execOp, ho, resolve, invoke, builtin, hs, hx, hrun, Result.andThen]
    exact hK _ _ (h v w (by simpa using hown) (World.grownBy.refl w _) (.inl rfl))
  · refine wpList_append_own_at w hgd s x t ho base e i z 1 bytes ht hi hz hsize hby hzs (by decide) v n xs hs hown ad m c news hx (by omega) (fun j u hu => ?_) h1 h63 hbytes hbase (fun v' w' k1 k2 _ k4 => h v' w' k1 k2 k4)
    have hj : j < news.length := (List.getElem?_eq_some_iff.1 hu).1
    obtain ⟨ad', e, _, _, hc⟩ := hr j hj
    injection e with e
    subst e
    rw [hc]; exact hu

/-- the first n of a slice -/
theorem Row.take {S : Nat → Prop} {w : World} {A : Option Addr} {xs : List Value} (h : Row S w A xs) (n : Nat) : Row S w A (xs.take n) := fun j hj => by
  rw [List.length_take] at hj
  obtain ⟨ad, e, s, lt, hc⟩ := h j (by omega)
  exact ⟨ad, e, s, lt, by rw [hc, List.getElem?_take, if_pos (by omega)]⟩

/-- New memory that reads as xs. -/
def Gives (w : World) (k : List Value) (e : Ending) (w' : World) : Prop :=
  ∃ A c, e = .returned (.slice A k.length c) ∧ k.length ≤ c ∧ Row (fun g => w.heap.size ≤ g) w' A k ∧ Below w.heap.size w w'

theorem lt_of_cell {w : World} {a : Addr} {v : Value} (h : w.cell? a = some v) : a.block < w.heap.size := by
  unfold World.cell? at h
  rcases Nat.lt_or_ge a.block w.heap.size with h1 | h1
  · exact h1
  · rw [Array.getElem?_eq_none h1] at h; simp at h

theorem row_of {k : IntKind} {w : World} {a : Option Addr} {len cap : Nat} {zs : List Int}
    (h : (a = none ∧ len = 0 ∧ cap = 0 ∧ zs = []) ∨ ∃ x, a = some x ∧ len ≤ cap ∧ cap ≤ maxLen ∧ zs.length = cap ∧ (∀ i, i < zs.length → w.cell? (x.add i) = some (.int k (zs.getD i 0))) ∧ ∀ n ∈ zs, (Lit.int k n).wf = true) :
    ∃ l : List Int, l.length = len ∧ Row (fun g => g < w.heap.size) w a (l.map fun (n : Int) => Value.int k n) ∧ (∀ n ∈ l, (Lit.int k n).wf = true) ∧ len ≤ cap ∧ len ≤ 9223372036854775807 := by
  rcases h with ⟨rfl, rfl, rfl, rfl⟩ | ⟨x, rfl, h1, h2, h3, h4, h5⟩
  · exact ⟨[], rfl, Row.nil, by simp, Nat.le_refl _, by omega⟩
  · refine ⟨zs.take len, by rw [List.length_take]; omega, fun j hj => ?_, fun n hn => h5 n (List.mem_of_mem_take hn), h1, by unfold maxLen at h2; omega⟩
    rw [List.length_map, List.length_take] at hj
    have hc := h4 j (by omega)
    have hb := lt_of_cell hc
    rw [block_add] at hb
    refine ⟨x, rfl, hb, hb, ?_⟩
    rw [hc]
    have hjz : j < zs.length := by omega
    simp [hjz, show j < len by omega]

theorem u8_of {n : Int} (h : (Lit.int .u8 n).wf = true) : 0 ≤ n ∧ n < 256 := by
  have hx : 0 ≤ n ∧ n ≤ 255 := by simpa [Lit.wf, IntKind.min, IntKind.max, IntKind.signed, IntKind.bits] using h
  omega
theorem i32_of {n : Int} (h : (Lit.int .i32 n).wf = true) : I32 n := by
  simpa [I32, Lit.wf, IntKind.min, IntKind.max, IntKind.signed, IntKind.bits] using h
theorem i64_of {n : Int} (h : (Lit.int .i64 n).wf = true) : -9223372036854775808 ≤ n ∧ n ≤ 9223372036854775807 := by
  simpa [Lit.wf, IntKind.min, IntKind.max, IntKind.signed, IntKind.bits] using h

end Go.Proofs.Ytchedflfinkppaa
