/-
  The contract of back; vectors and versions that are written over.
-/
import Derived.Test.YtphcakhhjjdpiaaSwMath
namespace Go.Proofs.Ytphcakhhjjdpiaa
open Go.RowKit

set_option maxRecDepth 100000 in
set_option maxHeartbeats 1000000 in
theorem back_any (S K : Nat → Prop) (A : Option Addr) (c : Nat) (vs : List Ver) (w : World) (hat : VersAt S K w A vs) (hn : vs.length ≤ 1000) :
    Calls Try.prog 20 #[.slice A vs.length c] w fun e w' => ∃ v, e = .returned v ∧ Own2 44 (fun g => g < w.heap.size ∧ K g) w' w.heap.size v vs ∧ Below w.heap.size w w' := by
  obtain ⟨i0, hi0, hz0, hz1, hz2⟩ := info_parts Try.info44
  have HAT := Lib.hid hat
  clear hat
  go_enter Try.func20, Try.ntmps20
  go_wp2_with fail
  go_loopw [3, 5, 8] (fun x _ i wr => ∃ k : Nat, k ≤ vs.length ∧ i = .int .i64 k ∧ Own2 44 (fun g => g < w.heap.size ∧ K g) wr w.heap.size x (vs.take k) ∧ Below w.heap.size w wr) (fun _ _ i _ => vs.length - (intOf i).toNat)
  case atStart => exact ⟨0, Nat.zero_le _, rfl, Own2.start _ _ _ _, Below.refl _ _⟩
  case round =>
    obtain ⟨k, hk, rfl, hown, hbl⟩ := hrel
    by_cases hlt : k < vs.length
    · obtain ⟨ad, rfl, j1, j2, a0, Y, cy, a1, j3, hrow⟩ := (HAT.out.below hbl) k hlt
      obtain ⟨ad0, e0, j10, j20, a00, Y0, cy0, a10, j30, hrow0⟩ := HAT.out k hlt
      injection e0 with e0
      subst e0
      have hYY : Y = Y0 := by
        have := (hbl.cell (p := ⟨(ad.add (k * 2)).block, (ad.add (k * 2)).off + 1, none⟩) (by show (ad.add (k * 2)).block < _; rw [block_add]; exact j20)).trans a10
        rw [a1] at this
        injection this with this
        injection this
      subst hYY
      have i1 : (k : Int) < (vs.length : Int) := by omega
      have HT := Lib.hid (show vs.take (k + 1) = vs.take k ++ [vs[k]] from List.take_succ_eq_append_getElem hlt)
      have hrowk : Row (fun g => g < w.heap.size ∧ K g) wr Y (i32s vs[k].2) := (hrow0.mono fun g hg s => (⟨hg, s⟩ : g < w.heap.size ∧ K g)).below hbl
      clear hrow hrow0 j1 j2 j10 j20 a00 a10 j30
      obtain ⟨cs, hcs, hce⟩ := hown
      have HLOW : Hid (∀ g, u3.ownBlock = some g → w.heap.size ≤ g) := fun g e => (own_lt hcs e).1
      obtain ⟨wa, hwa⟩ : ∃ x, x = wr.alloc (.cells #[.int .u64 vs[k].1, .slice Y vs[k].2.length cy] 41) := ⟨_, rfl⟩
      have hba : Below wr.heap.size wr wa := by rw [hwa]; exact (Below.refl _ _).alloc (Nat.le_refl _) _
      have hsa : wa.heap.size = wr.heap.size + 1 := by rw [hwa]; simp
      have HCS : Hid ((wa.alloc (.cells #[.int .u64 vs[k].1, .slice Y vs[k].2.length cy] 44)).ownsRow w.heap.size 44 2 u3 (vs.take k).length cs) := (own_below hcs hba).alloc _
      have hka : Cells2 (fun g => (g < w.heap.size ∧ K g) ∧ some g ≠ u3.ownBlock) wa cs (vs.take k) := hce.kept hba.size fun g hg s => ⟨hba.block g hg, s⟩
      have hkb : Cells2 (fun g => (g < w.heap.size ∧ K g) ∧ some g ≠ u3.ownBlock) wa [.int .u64 vs[k].1, .slice Y vs[k].2.length cy] [vs[k]] := Cells2.one vs[k] Y cy j3 ((hrowk.mono fun g _ s => (⟨s, fun e => by have := HLOW.out g e.symm; omega⟩ : (g < w.heap.size ∧ K g) ∧ some g ≠ u3.ownBlock)).below hba)
      have HSRC : Hid (∀ j u, ([Value.int .u64 vs[k].1, .slice Y vs[k].2.length cy])[j]? = some u → ∃ ad, some (⟨wr.heap.size + 1, 0, none⟩ : Addr) = some ad ∧ (wa.alloc (.cells #[.int .u64 vs[k].1, .slice Y vs[k].2.length cy] 44)).cell? (ad.add j) = some u) := fun j u hj => by
        refine ⟨_, rfl, ?_⟩
        have := World.news_of_block (cs := #[.int .u64 vs[k].1, .slice Y vs[k].2.length cy]) (t := 44) (fr := (0, 0)) (heap_alloc_new wa (.cells #[.int .u64 vs[k].1, .slice Y vs[k].2.length cy] 44)) j u hj
        rw [hsa] at this
        exact this
      have HBA : Hid (Below w.heap.size w (wa.alloc (.cells #[.int .u64 vs[k].1, .slice Y vs[k].2.length cy] 44))) := (hbl.trans (hba.mono hbl.size)).alloc (hbl.trans (hba.mono hbl.size)).size _
      have HSTEP := Lib.hid (fun (w' : World) (v' : Value) (n m : Nat) (ho) (hn' : n = (vs.take k ++ [vs[k]]).length) (hg : (wa.alloc (.cells #[.int .u64 vs[k].1, .slice Y vs[k].2.length cy] 44)).grownBy w' u3.ownBlock) (ha : v'.ownBlock = u3.ownBlock ∨ v'.ownBlock = some m) (hm : wa.heap.size ≤ m) =>
        (Own2.step (t := 44) (K := fun g => g < w.heap.size ∧ K g) (B := w.heap.size) (v' := v') (hs := vs.take k) (hs' := [vs[k]]) ((Below.refl _ wa).alloc (Nat.le_refl _) _) hka hkb ho hn' hg ha hm : Own2 44 (fun g => g < w.heap.size ∧ K g) w' w.heap.size v' (vs.take k ++ [vs[k]])))
      have HLN : Hid ((vs.take k).length = k) := by show _ = _; rw [List.length_take]; omega
      have hkn : k ≤ 1000 := by omega
      clear hcs hce hka hkb hba hrowk hbl j3
      subst hwa
      generalize vs.take k = os at *
      have hol : os.length ≤ 1000 := by have := HLN.out; omega
      have HSL : Hid (((wr.alloc (.cells #[.int .u64 vs[k].1, .slice Y vs[k].2.length cy] 41)).alloc (.cells #[.int .u64 vs[k].1, .slice Y vs[k].2.length cy] 44)).heap.size = wr.heap.size + 2) := by show _ = _; simp
      clear hsa
      go_wp2_with (at_builtin; refine wpList_append_vers 28 44 Try.underlying28 Try.info44 _ rfl (.tmp 12) (.tmp 14) rfl w.heap.size _ os.length cs rfl HCS.out (some ⟨wr.heap.size + 1, 0, none⟩) 1 1 [.int .u64 vs[k].1, .slice Y vs[k].2.length cy] rfl rfl HSRC.out (by simp [Value.oneCell']) ?c1 ?c2 ?_; rotate_right; intro A4 c4 w4 ho4 hg4 ha4)
      case c1 => omega
      case c2 => exact HBA.out.size
      have hO := HSTEP.out w4 _ _ _ ho4 (by simp) hg4 ha4 (by have := HSL.out; rw [this]; simp)
      rw [← HT.out] at hO
      have hb4 : Below w.heap.size w w4 := HBA.out.grown hg4 HBA.out.size (fun g e => HLOW.out g e)
      have HO := Lib.hid hO
      clear ho4 hg4 ha4 hO
      go_roundw
      case rel => exact ⟨k + 1, by omega, by go_num, HO.out, hb4⟩
      case measure => simp [intOf]; omega
    · have i1 : ¬ (k : Int) < (vs.length : Int) := by omega
      rw [List.take_of_length_le (by omega)] at hown
      have HO := Lib.hid hown
      clear hown
      go_wp2_with fail
      go_ret
      exact ⟨_, rfl, HO.out, hbl⟩

/-- Nothing has turned but in blocks from lo up to hi. -/
structure Fz (lo hi : Nat) (w w' : World) : Prop where
  os : w'.os = w.os
  tape : w'.tape = w.tape
  output : w'.output = w.output
  size : w'.heap.size = w.heap.size
  block : ∀ g, ¬ (lo ≤ g ∧ g < hi) → w'.heap[g]? = w.heap[g]?
theorem Fz.refl (lo hi : Nat) (w : World) : Fz lo hi w w := ⟨rfl, rfl, rfl, rfl, fun _ _ => rfl⟩
theorem Fz.set {lo hi : Nat} {w w' : World} (h : Fz lo hi w w') {q : Nat} (h1 : lo ≤ q) (h2 : q < hi) (j : Nat) (u : Value) : Fz lo hi w (w'.setCell ⟨q, j, none⟩ u) :=
  ⟨h.os, h.tape, h.output, by rw [set_size]; exact h.size, fun g hg => (Below.heap_setCell _ _ _ _ (fun e => hg (by simp at e; omega))).trans (h.block g hg)⟩
theorem Fz.below {lo hi : Nat} {w0 w w' : World} (h : Fz lo hi w w') (h0 : Below w0.heap.size w0 w) (hl : w0.heap.size ≤ lo) : Below w0.heap.size w0 w' :=
  ⟨h.os.trans h0.os, h.tape.trans h0.tape, h.output.trans h0.output, by rw [h.size]; exact h0.size, fun g hg => (h.block g (by omega)).trans (h0.block g hg)⟩

/-- A vector that may be written to, in a block from lo up to hi. -/
def FlipV (lo hi : Nat) (w : World) (A : Option Addr) (n : Nat) : Prop :=
  ∀ j, j < n → ∃ q x, A = some ⟨q, 0, none⟩ ∧ lo ≤ q ∧ q < hi ∧ w.cell? ⟨q, j, none⟩ = some (.int .i32 x) ∧ w.frozen? ⟨q, j, none⟩ = false
theorem flipV_of {lo : Nat} {w : World} {A : Option Addr} {l : List Int} (hr : Row (fun g => lo ≤ g) w A (i32s l)) (hf : FreeA (fun g => lo ≤ g) w A) : FlipV lo w.heap.size w A l.length := fun j hj => by
  obtain ⟨ad, rfl, s, lt, hc⟩ := hr j (by rw [i32s_len]; exact hj)
  obtain ⟨f1, _, _, f4⟩ := hf ad rfl
  rw [i32s_at hj, f1, Addr.add_lit, Nat.zero_add] at hc
  exact ⟨ad.block, _, by rw [f1], s, lt, hc, f4 j⟩
theorem FlipV.kept {lo hi n : Nat} {w w' : World} {A : Option Addr} (h : FlipV lo hi w A n) (hk : ∀ g, lo ≤ g → g < hi → w'.heap[g]? = w.heap[g]?) : FlipV lo hi w' A n := fun j hj => by
  obtain ⟨q, x, e, h1, h2, h3, h4⟩ := h j hj
  exact ⟨q, x, e, h1, h2, (World.cell?_of_block (a := ⟨q, j, none⟩) (hk q h1 h2)).trans h3, (World.frozen?_of_block (w := w) (w' := w') (a := ⟨q, j, none⟩) (hk q h1 h2)).trans h4⟩
theorem FlipV.set {lo hi n q j : Nat} {w : World} {A : Option Addr} {x y : Int} (h : FlipV lo hi w A n) (hc : w.cell? ⟨q, j, none⟩ = some (.int .i32 x)) : FlipV lo hi (w.setCell ⟨q, j, none⟩ (.int .i32 y)) A n := fun i hi' => by
  obtain ⟨q', x', e, h1, h2, h3, h4⟩ := h i hi'
  by_cases e' : (⟨q, j, none⟩ : Addr) = ⟨q', i, none⟩
  · rw [← e'] at h3
    exact ⟨q', y, e, h1, h2, by rw [← e']; exact World.cell?_setCell_same _ _ _ hc, by rw [World.frozen?_setCell]; exact h4⟩
  · exact ⟨q', x', e, h1, h2, by rw [World.cell?_setCell_other _ _ _ _ e']; exact h3, by rw [World.frozen?_setCell]; exact h4⟩

/-- A row of versions whose stamps and vectors may be written to; all of it lies in blocks from lo up to hi. -/
def Flip (lo hi : Nat) (w : World) (A : Option Addr) (ns : List Nat) : Prop :=
  ∀ k (hk : k < ns.length), ∃ g s X d, A = some ⟨g, 0, none⟩ ∧ lo ≤ g ∧ g < hi ∧ w.cell? ⟨g, k * 2, none⟩ = some (.int .u64 s) ∧ w.frozen? ⟨g, k * 2, none⟩ = false ∧ w.cell? ⟨g, k * 2 + 1, none⟩ = some (.slice X (ns[k]'hk) d) ∧
    ∀ j, j < ns[k]'hk → ∃ q n, X = some ⟨q, 0, none⟩ ∧ lo ≤ q ∧ q < hi ∧ q ≠ g ∧ w.cell? ⟨q, j, none⟩ = some (.int .i32 n) ∧ w.frozen? ⟨q, j, none⟩ = false
theorem OwnF.flip {t : TypeId} {w : World} {B n c : Nat} {A : Option Addr} {hs : List Ver} (h : OwnF t w B (.slice A n c) hs) : Flip B w.heap.size w A (hs.map fun v => v.2.length) := fun k hk => by
  obtain ⟨cs, hr, hc, hf⟩ := h
  rw [List.length_map] at hk
  rcases hr.2 with ⟨_, e0⟩ | ⟨g, cap, cur, e0, hBg, hh, _⟩
  · exact absurd e0 (by omega)
  · injection e0 with e0 e1 e2
    subst e0 e1 e2
    obtain ⟨a0, X, d, a2, _, a4⟩ := hc.2 k hs[k] (by simp)
    have h0 := cells_vers hr rfl _ _ a0
    have h1 := cells_vers hr rfl _ _ a2
    rw [Addr.add_lit, Nat.zero_add] at h0 h1
    refine ⟨g, _, X, d, rfl, hBg, lt_of_block hh, h0, by simp [World.frozen?, hh], by simpa using h1, fun j hj => ?_⟩
    have hj' : j < hs[k].2.length := by simpa using hj
    obtain ⟨ad, rfl, s, lt, hcj⟩ := a4 j (by rw [i32s_len]; exact hj')
    obtain ⟨f1, _, _, f4⟩ := hf _ _ _ (List.mem_of_getElem? a2) ad rfl
    rw [i32s_at hj'] at hcj
    rw [f1, Addr.add_lit, Nat.zero_add] at hcj
    exact ⟨ad.block, _, by rw [f1], s.1, lt, fun e => s.2 (by rw [e]; rfl), hcj, f4 j⟩
theorem Flip.kept {lo hi : Nat} {w w' : World} {A : Option Addr} {ns : List Nat} (h : Flip lo hi w A ns) (hk : ∀ g, lo ≤ g → g < hi → w'.heap[g]? = w.heap[g]?) : Flip lo hi w' A ns := fun k hk' => by
  obtain ⟨g, s, X, d, e, h1, h2, h3, h3f, h4, h5⟩ := h k hk'
  refine ⟨g, s, X, d, e, h1, h2, (World.cell?_of_block (a := ⟨g, k * 2, none⟩) (hk g h1 h2)).trans h3, (World.frozen?_of_block (w := w) (w' := w') (a := ⟨g, k * 2, none⟩) (hk g h1 h2)).trans h3f, (World.cell?_of_block (a := ⟨g, k * 2 + 1, none⟩) (hk g h1 h2)).trans h4, fun j hj => ?_⟩
  obtain ⟨q, n, e1, e2, e3, e4, e5, e6⟩ := h5 j hj
  exact ⟨q, n, e1, e2, e3, e4, (World.cell?_of_block (a := ⟨q, j, none⟩) (hk q e2 e3)).trans e5, (World.frozen?_of_block (w := w) (w' := w') (a := ⟨q, j, none⟩) (hk q e2 e3)).trans e6⟩
theorem Flip.setV {lo hi : Nat} {w : World} {A : Option Addr} {ns : List Nat} (h : Flip lo hi w A ns) {g q j : Nat} {n m : Int} (hA : A = some ⟨g, 0, none⟩) (hq : q ≠ g) (hc : w.cell? ⟨q, j, none⟩ = some (.int .i32 n)) : Flip lo hi (w.setCell ⟨q, j, none⟩ (.int .i32 m)) A ns := fun k hk' => by
  obtain ⟨g', s, X, d, e, h1, h2, h3, h3f, h4, h5⟩ := h k hk'
  rw [hA] at e
  injection e with e
  injection e with e _ _
  subst e
  refine ⟨g, s, X, d, hA, h1, h2, (World.cell?_of_block (a := ⟨g, k * 2, none⟩) (Below.heap_setCell _ _ _ _ (fun e => hq e.symm))).trans h3, by rw [World.frozen?_setCell]; exact h3f, (World.cell?_of_block (a := ⟨g, k * 2 + 1, none⟩) (Below.heap_setCell _ _ _ _ (fun e => hq e.symm))).trans h4, fun i hi' => ?_⟩
  obtain ⟨q', n', e1, e2, e3, e4, e5, e6⟩ := h5 i hi'
  by_cases e : (⟨q, j, none⟩ : Addr) = ⟨q', i, none⟩
  · rw [← e] at e5
    exact ⟨q', m, e1, e2, e3, e4, by rw [← e]; exact World.cell?_setCell_same _ _ _ e5, by rw [World.frozen?_setCell]; exact e6⟩
  · exact ⟨q', n', e1, e2, e3, e4, by rw [World.cell?_setCell_other _ _ _ _ e]; exact e5, by rw [World.frozen?_setCell]; exact e6⟩
theorem Flip.setS {lo hi : Nat} {w : World} {A : Option Addr} {ns : List Nat} (h : Flip lo hi w A ns) {g i : Nat} {s t : Int} (hA : A = some ⟨g, 0, none⟩) (hc : w.cell? ⟨g, i * 2, none⟩ = some (.int .u64 s)) : Flip lo hi (w.setCell ⟨g, i * 2, none⟩ (.int .u64 t)) A ns := fun k hk' => by
  obtain ⟨g', s', X, d, e, h1, h2, h3, h3f, h4, h5⟩ := h k hk'
  rw [hA] at e
  injection e with e
  injection e with e _ _
  subst e
  have hne : (⟨g, i * 2, none⟩ : Addr) ≠ ⟨g, k * 2 + 1, none⟩ := fun e => by injection e with _ e _; omega
  have hrest : ∀ j, j < ns[k]'hk' → ∃ q n, X = some ⟨q, 0, none⟩ ∧ lo ≤ q ∧ q < hi ∧ q ≠ g ∧ (w.setCell ⟨g, i * 2, none⟩ (.int .u64 t)).cell? ⟨q, j, none⟩ = some (.int .i32 n) ∧ (w.setCell ⟨g, i * 2, none⟩ (.int .u64 t)).frozen? ⟨q, j, none⟩ = false := fun j hj => by
    obtain ⟨q, n, e1, e2, e3, e4, e5, e6⟩ := h5 j hj
    exact ⟨q, n, e1, e2, e3, e4, (World.cell?_of_block (a := ⟨q, j, none⟩) (Below.heap_setCell _ _ _ _ e4)).trans e5, by rw [World.frozen?_setCell]; exact e6⟩
  by_cases e : (⟨g, i * 2, none⟩ : Addr) = ⟨g, k * 2, none⟩
  · exact ⟨g, t, X, d, hA, h1, h2, by rw [← e]; exact World.cell?_setCell_same _ _ _ hc, by rw [World.frozen?_setCell]; exact h3f, by rw [World.cell?_setCell_other _ _ _ _ hne]; exact h4, hrest⟩
  · exact ⟨g, s', X, d, hA, h1, h2, by rw [World.cell?_setCell_other _ _ _ _ e]; exact h3, by rw [World.frozen?_setCell]; exact h3f, by rw [World.cell?_setCell_other _ _ _ _ hne]; exact h4, hrest⟩

end Go.Proofs.Ytphcakhhjjdpiaa
