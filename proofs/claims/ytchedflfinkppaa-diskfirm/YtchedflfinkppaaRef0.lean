/-
  The document's disk (ref05) in memory; the contracts of its New, begin, Arm, Name, Find, Used and all.
-/
import Derived.Test.YtchedflfinkppaaFew1
namespace Go.Proofs.Ytchedflfinkppaa
open Go.RowKit Go.Maps

/-- A file of the document's. -/
structure RF where
  name : ByteArray
  firm : List Int
  loose : List Int
def RF.size (f : RF) : Nat := f.firm.length + f.loose.length
def sumR (L : List RF) : Nat := (L.map RF.size).sum

/-- The cells of files. -/
def CellsF (S : Nat → Prop) (w : World) (cs : List Value) (L : List RF) : Prop :=
  cs.length = L.length * 3 ∧ ∀ j (hj : j < L.length), cs[j * 3]? = some (.string (L[j]'hj).name) ∧
    (∃ F c, cs[j * 3 + 1]? = some (.slice F (L[j]'hj).firm.length c) ∧ (L[j]'hj).firm.length ≤ c ∧ Row S w F (u8s (L[j]'hj).firm)) ∧
    (∃ G c, cs[j * 3 + 2]? = some (.slice G (L[j]'hj).loose.length c) ∧ (L[j]'hj).loose.length ≤ c ∧ Row S w G (u8s (L[j]'hj).loose))
theorem CellsF.kept {S S' : Nat → Prop} {w w' : World} {cs : List Value} {L : List RF} (h : CellsF S w cs L) (hs : w.heap.size ≤ w'.heap.size) (hk : ∀ g, g < w.heap.size → S g → w'.heap[g]? = w.heap[g]? ∧ S' g) : CellsF S' w' cs L := by
  have kr : ∀ {A : Option Addr} {xs : List Value}, Row S w A xs → Row S' w' A xs := fun r => ((r.mono fun g hg s => (⟨s, (hk g hg s).2⟩ : S g ∧ S' g)).kept hs fun g hg s => (hk g hg s.1).1).mono fun g _ s => s.2
  refine ⟨h.1, fun j hj => ?_⟩
  obtain ⟨h0, ⟨F, c, h1, h2, h3⟩, G, d, k1, k2, k3⟩ := h.2 j hj
  exact ⟨h0, ⟨F, c, h1, h2, kr h3⟩, G, d, k1, k2, kr k3⟩
/-- A slice that reads as files. -/
def FilesAt (S : Nat → Prop) (w : World) (A : Option Addr) (L : List RF) : Prop :=
  ∀ j (hj : j < L.length), ∃ ad, A = some ad ∧ S ad.block ∧ ad.block < w.heap.size ∧ w.cell? (ad.add (j * 3)) = some (.string (L[j]'hj).name) ∧
    (∃ F c, w.cell? ⟨(ad.add (j * 3)).block, (ad.add (j * 3)).off + 1, none⟩ = some (.slice F (L[j]'hj).firm.length c) ∧ (L[j]'hj).firm.length ≤ c ∧ Row S w F (u8s (L[j]'hj).firm)) ∧
    (∃ G c, w.cell? ⟨(ad.add (j * 3)).block, (ad.add (j * 3)).off + 2, none⟩ = some (.slice G (L[j]'hj).loose.length c) ∧ (L[j]'hj).loose.length ≤ c ∧ Row S w G (u8s (L[j]'hj).loose))
theorem FilesAt.below {S : Nat → Prop} {w w' : World} {A : Option Addr} {L : List RF} (h : FilesAt S w A L) (hb : Below w.heap.size w w') : FilesAt S w' A L := fun j hj => by
  obtain ⟨ad, e, s, lt, h0, ⟨F, c, h1, h2, h3⟩, G, d, k1, k2, k3⟩ := h j hj
  have hblk : (ad.add (j * 3)).block < w.heap.size := by rw [block_add]; exact lt
  have hs := hb.size
  exact ⟨ad, e, s, by omega, (hb.cell (p := ad.add (j * 3)) hblk).trans h0, ⟨F, c, (hb.cell (p := ⟨_, _, none⟩) hblk).trans h1, h2, h3.below hb⟩, G, d, (hb.cell (p := ⟨_, _, none⟩) hblk).trans k1, k2, k3.below hb⟩

/-- What a disk of the document's may lie in: from lo on, where K holds. -/
structure BK where
  lo : Nat
  K : Nat → Prop
/-- The document's disk: its block x, its row of files v. -/
structure RD (w : World) (B : BK) (x : Nat) (p : Pw) (room : Nat) (v : Value) (L : List RF) : Prop where
  blk : w.heap[x]? = some (.cells #[.int .i64 (room : Int), v, .int .i64 p.left, .bool p.armed, .bool p.down] 72 (0, 0))
  row : ∃ cs, w.ownsRow B.lo 82 3 v L.length cs ∧ CellsF (fun g => B.K g ∧ g ≠ x ∧ some g ≠ v.ownBlock) w cs L
  off : v.ownBlock ≠ some x
  low : B.lo ≤ x
  kx : B.K x
  kv : ∀ g, v.ownBlock = some g → B.K g
  new : ∀ g, w.heap.size ≤ g → B.K g

section
variable {w w' : World} {B : BK} {x room : Nat} {p q : Pw} {v : Value} {L : List RF}
theorem RD.cells (h : RD w B x p room v L) : w.cell? ⟨x, 0, none⟩ = some (.int .i64 (room : Int)) ∧ w.cell? ⟨x, 1, none⟩ = some v ∧ w.cell? ⟨x, 2, none⟩ = some (.int .i64 p.left) ∧ w.cell? ⟨x, 3, none⟩ = some (.bool p.armed) ∧ w.cell? ⟨x, 4, none⟩ = some (.bool p.down) := by
  have := h.blk
  simp [World.cell?, this]
theorem RD.free (h : RD w B x p room v L) (k : Nat) : w.frozen? ⟨x, k, none⟩ = false := sv_free h.blk
theorem RD.below (h : RD w B x p room v L) (hb : Below w.heap.size w w') : RD w' B x p room v L := by
  obtain ⟨cs, h1, h2⟩ := h.row
  exact ⟨(hb.block x (lt_of_block h.blk)).trans h.blk, ⟨cs, own_below h1 hb, h2.kept hb.size fun g hg s => ⟨hb.block g hg, s⟩⟩, h.off, h.low, h.kx, h.kv, fun g hg => h.new g (Nat.le_trans hb.size hg)⟩
theorem RD.power (h : RD w B x p room v L) (ho : Only x w w') (hk : w'.heap[x]? = some (.cells #[.int .i64 (room : Int), v, .int .i64 q.left, .bool q.armed, .bool q.down] 72 (0, 0))) : RD w' B x q room v L := by
  obtain ⟨cs, h1, h2⟩ := h.row
  exact ⟨hk, ⟨cs, own_kept (row := some x) h1 ho.grown (fun g hg e => h.off (by rw [hg, ← e])), h2.kept ho.size fun g hg s => ⟨ho.block g hg s.2.1, s⟩⟩, h.off, h.low, h.kx, h.kv, fun g hg => h.new g (Nat.le_trans ho.size hg)⟩
theorem RD.files (h : RD w B x p room v L) : ∃ A c, v = .slice A L.length c ∧ L.length ≤ c ∧ FilesAt (fun g => B.K g ∧ g ≠ x) w A L := by
  have ho := h.off
  have hkv := h.kv
  obtain ⟨cs, h1, h2⟩ := h.row
  rcases h1.2 with ⟨rfl, e⟩ | ⟨g, cap, cur, rfl, hg, hh, hnc, r⟩
  · have : L = [] := List.eq_nil_of_length_eq_zero e
    subst this
    exact ⟨none, 0, rfl, Nat.le_refl _, fun j hj => by simp at hj⟩
  · refine ⟨_, cap, rfl, hnc, fun j hj => ?_⟩
    obtain ⟨c0, ⟨F, cf, c1, c2, c3⟩, G, cg, d1, d2, d3⟩ := h2.2 j hj
    have e0 := h1.cells (g := g) rfl _ _ c0
    have e1 := h1.cells (g := g) rfl _ _ c1
    have e2 := h1.cells (g := g) rfl _ _ d1
    have hadd : ∀ k : Nat, (⟨((⟨g, 0, none⟩ : Addr).add (j * 3)).block, ((⟨g, 0, none⟩ : Addr).add (j * 3)).off + k, none⟩ : Addr) = (⟨g, 0, none⟩ : Addr).add (j * 3 + k) := fun k => by
      unfold Addr.add
      by_cases hj0 : j * 3 = 0 <;> by_cases hk0 : k = 0
      · simp [hj0, hk0]
      · simp [hj0, hk0]
      · simp [hj0, hk0]
      · simp [hj0, hk0, Nat.add_assoc]
    refine ⟨_, rfl, ⟨hkv g rfl, fun e => ho (by have e' : g = x := e; simp [Value.ownBlock, e'])⟩, lt_of_block hh, e0, ⟨F, cf, ?_, c2, c3.mono fun g _ s => ⟨s.1, s.2.1⟩⟩, G, cg, ?_, d2, d3.mono fun g _ s => ⟨s.1, s.2.1⟩⟩
    · rw [hadd 1]; exact e1
    · rw [hadd 2]; exact e2
end

set_option maxHeartbeats 400000 in
theorem rnew_any (room : Nat) (w : World) (B : BK) (hB : B.lo ≤ w.heap.size) (hK : ∀ g, w.heap.size ≤ g → B.K g) (h : room ≤ 1048576) :
    Calls Try.prog 12 #[.int .i64 (room : Int)] w fun e w' => e = .returned (.pointer (some ⟨w.heap.size, 0, none⟩)) ∧ RD w' B w.heap.size Pw.fresh room (.slice none 0 0) [] ∧ Below w.heap.size w w' := by
  have i1 : ¬ (room : Int) < 0 := by omega
  have i2 : ¬ (1048576 : Int) < (room : Int) := by omega
  go_enter Try.func12, Try.ntmps12
  go_wp2_with fail
  go_ret
  refine ⟨rfl, ⟨new_at rfl, ⟨[], ⟨rfl, .inl ⟨rfl, rfl⟩⟩, rfl, fun j hj => by simp at hj⟩, by simp [Value.ownBlock], hB, hK _ (Nat.le_refl _), fun g e => by simp [Value.ownBlock] at e, fun g hg => hK g (by simp at hg; omega)⟩, (Below.refl _ _).alloc (Nat.le_refl _) _⟩
set_option maxHeartbeats 400000 in
theorem rnew_bad (room : Int) (w : World) (h : room < 0 ∨ 1048576 < room) :
    Calls Try.prog 12 #[.int .i64 room] w fun e w' => e = .returned (.pointer none) ∧ w = w' := by
  by_cases h1 : room < 0
  · go_enter Try.func12, Try.ntmps12
    go_wp2_with fail
    go_ret
    exact ⟨rfl, rfl⟩
  · have h2 : (1048576 : Int) < room := by omega
    clear h
    go_enter Try.func12, Try.ntmps12
    go_wp2_with fail
    go_ret
    exact ⟨rfl, rfl⟩

theorem r5_set2 {w : World} {b : Nat} {x y z u v a : Value} {t : TypeId} (h : w.heap[b]? = some (.cells #[x, y, z, u, v] t (0, 0))) : (w.setCell ⟨b, 2, none⟩ a).heap[b]? = some (.cells #[x, y, a, u, v] t (0, 0)) := by
  simp [World.setCell, Array.getElem?_modify, h]
theorem r5_set3 {w : World} {b : Nat} {x y z u v a : Value} {t : TypeId} (h : w.heap[b]? = some (.cells #[x, y, z, u, v] t (0, 0))) : (w.setCell ⟨b, 3, none⟩ a).heap[b]? = some (.cells #[x, y, z, a, v] t (0, 0)) := by
  simp [World.setCell, Array.getElem?_modify, h]
theorem r5_set4 {w : World} {b : Nat} {x y z u v a : Value} {t : TypeId} (h : w.heap[b]? = some (.cells #[x, y, z, u, v] t (0, 0))) : (w.setCell ⟨b, 4, none⟩ a).heap[b]? = some (.cells #[x, y, z, u, a] t (0, 0)) := by
  simp [World.setCell, Array.getElem?_modify, h]

section
variable (w : World) (B : BK) (x room : Nat) (p : Pw) (v : Value) (L : List RF) (s : ByteArray)

set_option maxRecDepth 100000 in
set_option maxHeartbeats 400000 in
theorem begin_any (h : RD w B x p room v L) (hp : p.ok) :
    Calls Try.prog 58 #[.pointer (some ⟨x, 0, none⟩)] w fun e w' => e = .returned (.int .i64 p.err) ∧ RD w' B x p.spent room v L ∧ Only x w w' := by
  obtain ⟨_, _, c2, c3, c4⟩ := h.cells
  have f2 := h.free 2
  have f4 := h.free 4
  have hb := h.blk
  have HD := Lib.hid h
  obtain ⟨down, armed, left⟩ := p
  simp only at *
  cases down with
  | true =>
    rw [show (⟨true, armed, left⟩ : Pw).err = 9 by simp [Pw.err, Pw.spent], show (⟨true, armed, left⟩ : Pw).spent = ⟨true, armed, left⟩ by simp [Pw.spent]]
    have hb4 : (w.setCell ⟨x, 4, none⟩ (.bool true)).heap[x]? = _ := r5_set4 hb
    have HB4 := Lib.hid hb4
    clear hb h hb4
    go_enter Try.func58, Try.ntmps58
    go_wp2_with fail
    go_ret
    exact ⟨rfl, HD.out.power ((Only.refl x w).set _ _) HB4.out, (Only.refl x w).set _ _⟩
  | false =>
    cases armed with
    | false =>
      rw [show (⟨false, false, left⟩ : Pw).err = 0 by simp [Pw.err, Pw.spent], show (⟨false, false, left⟩ : Pw).spent = ⟨false, false, left⟩ by simp [Pw.spent]]
      clear hb h
      go_enter Try.func58, Try.ntmps58
      go_wp2_with fail
      go_ret
      exact ⟨rfl, HD.out, Only.refl x w⟩
    | true =>
      have hl := hp rfl
      simp only at hl
      by_cases h0 : left = 0
      · subst h0
        rw [show (⟨false, true, 0⟩ : Pw).err = 9 by simp [Pw.err, Pw.spent], show (⟨false, true, 0⟩ : Pw).spent = ⟨true, true, 0⟩ by simp [Pw.spent]]
        have hb4 : (w.setCell ⟨x, 4, none⟩ (.bool true)).heap[x]? = _ := r5_set4 hb
        have HB4 := Lib.hid hb4
        clear hb h hb4
        go_enter Try.func58, Try.ntmps58
        go_wp2_with fail
        go_ret
        exact ⟨rfl, HD.out.power ((Only.refl x w).set _ _) HB4.out, (Only.refl x w).set _ _⟩
      · rw [show (⟨false, true, left⟩ : Pw).err = 0 by simp [Pw.err, Pw.spent, h0], show (⟨false, true, left⟩ : Pw).spent = ⟨false, true, left - 1⟩ by simp [Pw.spent, h0]]
        have hb2 : (w.setCell ⟨x, 2, none⟩ (.int .i64 (left - 1))).heap[x]? = _ := r5_set2 hb
        have HB2 := Lib.hid hb2
        have iw : IntKind.i64.wrap (left - 1) = left - 1 := by rw [IntKind.wrap_i64]; omega
        have ib : (left == 0) = false := by simpa using h0
        clear hb h hb2
        go_enter Try.func58, Try.ntmps58
        go_wp2_with fail
        go_ret
        exact ⟨rfl, HD.out.power ((Only.refl x w).set _ _) HB2.out, (Only.refl x w).set _ _⟩

set_option maxHeartbeats 400000 in
theorem begin_nil : Calls Try.prog 58 #[.pointer none] w fun e w' => e = .returned (.int .i64 6) ∧ w = w' := by
  go_enter Try.func58, Try.ntmps58
  go_wp2_with fail
  go_ret
  exact ⟨rfl, rfl⟩

set_option maxHeartbeats 400000 in
theorem rarm_any (z : Int) (h : RD w B x p room v L) :
    Calls Try.prog 37 #[.pointer (some ⟨x, 0, none⟩), .int .i64 z] w fun e w' => e = .returned (.tuple #[]) ∧ RD w' B x (p.arm z) room v L ∧ Only x w w' := by
  obtain ⟨_, _, c2, c3, c4⟩ := h.cells
  have f2 := h.free 2
  have f3 := h.free 3
  have hb := r5_set2 (a := .int .i64 z) (r5_set3 (a := .bool (decide (0 ≤ z))) h.blk)
  have HB := Lib.hid hb
  have HD := Lib.hid h
  clear h hb
  go_enter Try.func37, Try.ntmps37
  go_wp2_with fail
  go_end0
  exact ⟨rfl, HD.out.power (((Only.refl x w).set _ _).set _ _) HB.out, ((Only.refl x w).set _ _).set _ _⟩
set_option maxHeartbeats 400000 in
theorem rarm_nil (z : Int) : Calls Try.prog 37 #[.pointer none, .int .i64 z] w fun e w' => e = .returned (.tuple #[]) ∧ w = w' := by
  go_enter Try.func37, Try.ntmps37
  go_wp2_with fail
  go_end0
  exact ⟨rfl, rfl⟩
end

end Go.Proofs.Ytchedflfinkppaa
