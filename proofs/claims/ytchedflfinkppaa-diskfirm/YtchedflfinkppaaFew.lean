/-
  A call of a script that came in; the contract of few.
-/
import Derived.Test.YtchedflfinkppaaFew0
import Derived.BigRegion
namespace Go.Proofs.Ytchedflfinkppaa
open Go.RowKit Go.Maps

/-- A call of a script. -/
structure Opn where
  d : Int
  nm : ByteArray
  to : ByteArray
  ns : List ByteArray
  ps : List (List Int)
  n : Int
  ks : List Int
def cutS (s : ByteArray) : ByteArray := s.extract 0 (min (s.size : Int) 12).toNat
theorem cutS_size (s : ByteArray) : (cutS s).size ≤ 12 := by
  unfold cutS
  rw [ByteArray.size_extract]
  omega
def fewNs (ns : List ByteArray) (k : Nat) : List ByteArray := (ns.take (min k 4)).map cutS
def fewPs (ps : List (List Int)) (k : Nat) : List (List Int) := (ps.take (min k 4)).map (·.take 200)
def fewO (o : Opn) : Opn := ⟨o.d, cutS o.nm, cutS o.to, fewNs o.ns o.ns.length, fewPs o.ps o.ps.length, o.n, o.ks.take 20⟩
theorem fewNs_succ {ns : List ByteArray} {k : Nat} (h : k < ns.length) (h6 : k < 4) : fewNs ns (k + 1) = fewNs ns k ++ [cutS ns[k]] := by
  unfold fewNs
  rw [show min (k + 1) 4 = k + 1 by omega, show min k 4 = k by omega, List.take_succ_eq_append_getElem h, List.map_append]; rfl
theorem fewNs_over {ns : List ByteArray} {k : Nat} (h6 : ¬ k < 4) : fewNs ns (k + 1) = fewNs ns k := by
  unfold fewNs
  rw [show min (k + 1) 4 = min k 4 by omega]
theorem fewNs_len (ns : List ByteArray) (k : Nat) : (fewNs ns k).length ≤ 4 := by unfold fewNs; rw [List.length_map, List.length_take]; omega
theorem fewNs_most (ns : List ByteArray) (k : Nat) : ∀ t ∈ fewNs ns k, t.size ≤ 12 := fun t ht => by
  obtain ⟨x, _, rfl⟩ := List.mem_map.1 ht
  exact cutS_size x
theorem fewPs_succ {ps : List (List Int)} {k : Nat} (h : k < ps.length) (h6 : k < 4) : fewPs ps (k + 1) = fewPs ps k ++ [ps[k].take 200] := by
  unfold fewPs
  rw [show min (k + 1) 4 = k + 1 by omega, show min k 4 = k by omega, List.take_succ_eq_append_getElem h, List.map_append]; rfl
theorem fewPs_over {ps : List (List Int)} {k : Nat} (h6 : ¬ k < 4) : fewPs ps (k + 1) = fewPs ps k := by
  unfold fewPs
  rw [show min (k + 1) 4 = min k 4 by omega]
theorem fewPs_len (ps : List (List Int)) (k : Nat) : (fewPs ps k).length ≤ 4 := by unfold fewPs; rw [List.length_map, List.length_take]; omega
theorem fewPs_most (ps : List (List Int)) (k : Nat) : ∀ t ∈ fewPs ps k, t.length ≤ 200 := fun t ht => by
  obtain ⟨x, _, rfl⟩ := List.mem_map.1 ht
  rw [List.length_take]; omega

/-- The texts of a row may be written to. -/
def FreeT (S : Nat → Prop) (w : World) (A : Option Addr) (n : Nat) : Prop := ∀ j, j < n → ∀ ad X m c, A = some ad → w.cell? (ad.add j) = some (.slice X m c) → FreeA S w X

/-- The cells of texts. -/
def CellsR (S : Nat → Prop) (w : World) (cs : List Value) (ts : List (List Int)) : Prop :=
  cs.length = ts.length ∧ ∀ k (h : k < ts.length), ∃ A c, cs[k]? = some (.slice A (ts[k]).length c) ∧ (ts[k]).length ≤ c ∧ Row S w A (u8s ts[k]) ∧ FreeA S w A
theorem CellsR.nil {S : Nat → Prop} {w : World} : CellsR S w [] [] := ⟨rfl, fun k h => by simp at h⟩
theorem CellsR.kept {S S' : Nat → Prop} {w w' : World} {cs : List Value} {ts : List (List Int)} (h : CellsR S w cs ts) (hs : w.heap.size ≤ w'.heap.size) (hk : ∀ g, g < w.heap.size → S g → w'.heap[g]? = w.heap[g]? ∧ S' g) : CellsR S' w' cs ts :=
  ⟨h.1, fun k hk' => by
    obtain ⟨A, c, e, hc, r, f⟩ := h.2 k hk'
    have r' : Row (fun g => S g ∧ S' g) w A (u8s ts[k]) := r.mono fun g hg s => ⟨s, (hk g hg s).2⟩
    have f' : FreeA (fun g => S g ∧ S' g) w A := f.mono fun g hg s => ⟨s, (hk g hg s).2⟩
    exact ⟨A, c, e, hc, (r'.kept hs fun g hg s => (hk g hg s.1).1).mono fun g _ s => s.2, (f'.kept hs fun g hg s => (hk g hg s.1).1).mono fun g _ s => s.2⟩⟩
theorem CellsR.append {S : Nat → Prop} {w : World} {cs ds : List Value} {ts us : List (List Int)} (h : CellsR S w cs ts) (k : CellsR S w ds us) : CellsR S w (cs ++ ds) (ts ++ us) := by
  refine ⟨by rw [List.length_append, List.length_append, h.1, k.1], fun j hj => ?_⟩
  rw [List.length_append] at hj
  have hl := h.1
  by_cases e : j < ts.length
  · obtain ⟨A, c, e1, r⟩ := h.2 j e
    rw [List.getElem?_append_left (by omega)]
    simp only [List.getElem_append_left e]
    exact ⟨A, c, e1, r⟩
  · obtain ⟨A, c, e1, r⟩ := k.2 (j - ts.length) (by omega)
    rw [List.getElem?_append_right (by omega), hl]
    simp only [List.getElem_append_right (Nat.not_lt.1 e)]
    exact ⟨A, c, e1, r⟩
theorem CellsR.one {S : Nat → Prop} {w : World} {A : Option Addr} {c : Nat} {t : List Int} (hc : t.length ≤ c) (h : Row S w A (u8s t)) (hf : FreeA S w A) : CellsR S w [.slice A t.length c] [t] :=
  ⟨rfl, fun k hk => by obtain rfl : k = 0 := by simpa using hk
                       exact ⟨A, c, rfl, hc, h, hf⟩⟩
/-- A row of texts of the call's own. -/
def OwnR (w : World) (B : Nat) (v : Value) (ts : List (List Int)) : Prop :=
  ∃ cs, w.ownsRow B 41 1 v ts.length cs ∧ CellsR (fun g => B ≤ g ∧ some g ≠ v.ownBlock) w cs ts
theorem OwnR.start (w : World) (B : Nat) : OwnR w B (.slice none 0 0) [] := ⟨[], ⟨by simp, .inl ⟨rfl, rfl⟩⟩, CellsR.nil⟩
theorem own_kept {w w' : World} {B e s n : Nat} {v : Value} {xs : List Value} {row : Option Nat} (h : w.ownsRow B e s v n xs) (hg : w.grownBy w' row) (hne : ∀ g, v.ownBlock = some g → row ≠ some g) : w'.ownsRow B e s v n xs := by
  obtain ⟨h1, h2⟩ := h
  refine ⟨h1, ?_⟩
  rcases h2 with h2 | ⟨g, cap, cur, rfl, hb, hh, r⟩
  · exact .inl h2
  · exact .inr ⟨g, cap, cur, rfl, hb, (hg.block g (lt_of_block hh) (fun e => hne g rfl e.symm)).trans hh, r⟩
theorem own_below {w w' : World} {B e s n : Nat} {v : Value} {xs : List Value} (h : w.ownsRow B e s v n xs) (hb : Below w.heap.size w w') : w'.ownsRow B e s v n xs :=
  own_kept (row := none) h ⟨hb.os, hb.tape, hb.output, hb.size, fun i hi _ => hb.block i hi⟩ (by simp)
theorem OwnR.below {w w' : World} {B : Nat} {v : Value} {ts : List (List Int)} (h : OwnR w B v ts) (hb : Below w.heap.size w w') : OwnR w' B v ts := by
  obtain ⟨cs, h1, h2⟩ := h
  exact ⟨cs, own_below h1 hb, h2.kept hb.size fun g hg s => ⟨hb.block g hg, s⟩⟩
theorem OwnR.texts {w : World} {B : Nat} {v : Value} {ts : List (List Int)} (h : OwnR w B v ts) : ∃ A c, v = .slice A ts.length c ∧ ts.length ≤ c ∧ TxtAt (fun g => B ≤ g) w A ts ∧ FreeT (fun g => B ≤ g) w A ts.length := by
  obtain ⟨cs, h1, h2⟩ := h
  obtain ⟨A, c, e, hc, hl, r⟩ := Row.of_own h1
  have key : ∀ j (hj : j < ts.length), ∃ ad X c, A = some ad ∧ B ≤ ad.block ∧ ad.block < w.heap.size ∧ w.cell? (ad.add j) = some (.slice X (ts[j]'hj).length c) ∧ (ts[j]'hj).length ≤ c ∧ Row (fun g => B ≤ g) w X (u8s (ts[j]'hj)) ∧ FreeA (fun g => B ≤ g) w X := fun j hj => by
    obtain ⟨ad, rfl, s, lt, hcl⟩ := r j (by omega)
    obtain ⟨X, cx, e', hcx, r', f'⟩ := h2.2 j hj
    exact ⟨ad, X, cx, rfl, s.1, lt, by rw [hcl, e'], hcx, r'.mono fun g _ s => s.1, f'.mono fun g _ s => s.1⟩
  refine ⟨A, c, e, hc, fun j hj => ?_, fun j hj ad X m cx ea hcl => ?_⟩
  · obtain ⟨ad, X, cx, k1, k2, k3, k4, k5, k6, _⟩ := key j hj
    exact ⟨ad, X, cx, k1, k2, k3, k4, k5, k6⟩
  · obtain ⟨ad', X', cx', k1, k2, k3, k4, k5, k6, k7⟩ := key j hj
    rw [ea] at k1
    injection k1 with k1
    subst k1
    rw [hcl] at k4
    injection k4 with k4
    injection k4 with k4 _ _
    rw [k4]
    exact k7
/-- behind an append -/
theorem OwnR.step {w w' : World} {B : Nat} {v v' : Value} {ts us : List (List Int)} {cs ds : List Value} {o : Obj}
    (h2 : CellsR (fun g => B ≤ g ∧ some g ≠ v.ownBlock) w cs ts) (k2 : CellsR (fun g => B ≤ g ∧ some g ≠ v.ownBlock) w ds us)
    (hown : w'.ownsRow B 41 1 v' (ts.length + us.length) (cs ++ ds)) (hgrow : (w.alloc o).grownBy w' v.ownBlock) (hat : v'.ownBlock = v.ownBlock ∨ v'.ownBlock = some (w.heap.size + 1)) : OwnR w' B v' (ts ++ us) := by
  refine ⟨cs ++ ds, by rw [List.length_append]; exact hown, ?_⟩
  have hs : (w.alloc o).heap.size = w.heap.size + 1 := by simp
  refine (h2.append k2).kept (by have := hgrow.size; omega) fun g hg s => ⟨?_, s.1, ?_⟩
  · rw [hgrow.block g (by omega) s.2, Below.heap_alloc _ _ _ hg]
  · rcases hat with e | e
    · rw [e]; exact s.2
    · rw [e]; intro e'; injection e' with e'; omega
theorem FreeT.kept {S S' : Nat → Prop} {w w' : World} {A : Option Addr} {ts : List (List Int)} (h : TxtAt S w A ts) (f : FreeT S w A ts.length) (hs : w.heap.size ≤ w'.heap.size) (hk : ∀ g, g < w.heap.size → S g → w'.heap[g]? = w.heap[g]? ∧ S' g) : FreeT S' w' A ts.length := fun j hj ad X m c ea hc => by
  obtain ⟨ad', X', c', k1, k2, k3, k4, k5, k6⟩ := h j hj
  rw [ea] at k1
  injection k1 with k1
  subst k1
  have hc' : w.cell? (ad.add j) = some (.slice X m c) := ((World.cell?_of_block (by rw [block_add]; exact (hk _ k3 k2).1)).symm.trans hc)
  have f1 := f j hj ad X m c ea hc'
  exact ((f1.mono fun g hg s => (⟨s, (hk g hg s).2⟩ : S g ∧ S' g)).kept hs fun g hg s => (hk g hg s.1).1).mono fun g _ s => s.2

theorem sv_cell {w : World} {b : Nat} {cs : List Value} {t : TypeId} (h : w.heap[b]? = some (.cells cs.toArray t (0, 0))) (k : Nat) : w.cell? ⟨b, k, none⟩ = cs[k]? := by simp [World.cell?, h]
theorem sv_free {w : World} {b k : Nat} {cs : Array Value} {t : TypeId} (h : w.heap[b]? = some (.cells cs t (0, 0))) : w.frozen? ⟨b, k, none⟩ = false := by simp [World.frozen?, h]
theorem sv_set {w : World} {b k : Nat} {cs : List Value} {t : TypeId} {a : Value} (h : w.heap[b]? = some (.cells cs.toArray t (0, 0))) : (w.setCell ⟨b, k, none⟩ a).heap[b]? = some (.cells (cs.set k a).toArray t (0, 0)) := by
  simp [World.setCell, Array.getElem?_modify, h]
theorem set_os (w : World) (a : Addr) (v : Value) : (w.setCell a v).os = w.os := rfl
theorem set_tape (w : World) (a : Addr) (v : Value) : (w.setCell a v).tape = w.tape := rfl
theorem set_output (w : World) (a : Addr) (v : Value) : (w.setCell a v).output = w.output := rfl

theorem set10 {w : World} {b g : Nat} {v1 v2 v3 a0 a1 a2 a3 a4 a5 a6 : Value} (h1 : g ≠ b) (h2 : g ≠ b + 1) : ((((((((((w.setCell ⟨b, 3, none⟩ v1).setCell ⟨b, 4, none⟩ v2).setCell ⟨b, 6, none⟩ v3).setCell ⟨b + 1, 0, none⟩ a0).setCell ⟨b + 1, 1, none⟩ a1).setCell ⟨b + 1, 2, none⟩ a2).setCell ⟨b + 1, 3, none⟩ a3).setCell ⟨b + 1, 4, none⟩ a4).setCell ⟨b + 1, 5, none⟩ a5).setCell ⟨b + 1, 6, none⟩ a6).heap[g]? = w.heap[g]? := by
  rw [Below.heap_setCell _ _ _ _ h2, Below.heap_setCell _ _ _ _ h2, Below.heap_setCell _ _ _ _ h2, Below.heap_setCell _ _ _ _ h2, Below.heap_setCell _ _ _ _ h2, Below.heap_setCell _ _ _ _ h2, Below.heap_setCell _ _ _ _ h2, Below.heap_setCell _ _ _ _ h1, Below.heap_setCell _ _ _ _ h1, Below.heap_setCell _ _ _ _ h1]
theorem Try.info9 : (Try.prog.info? 9).map (fun i => (i.zero, i.size, i.bytes)) = some (some (.string ⟨#[]⟩), 1, 16) := by kernel_rfl
theorem Try.info41 : (Try.prog.info? 41).map (fun i => (i.zero, i.size, i.bytes)) = some (some (.slice none 0 0), 1, 24) := by kernel_rfl

/-- A call of a script in memory. -/
structure OpAt (S : Nat → Prop) (w : World) (o : Opn) (A1 : Option Addr) (c1 : Nat) (A2 : Option Addr) (c2 : Nat) (A3 : Option Addr) (c3 : Nat) : Prop where
  k1 : o.ns.length ≤ c1
  k2 : o.ps.length ≤ c2
  k3 : o.ks.length ≤ c3
  ns : Row S w A1 (strs o.ns)
  ps : TxtAt S w A2 o.ps
  ks : Row S w A3 (i64s o.ks)
def opV (o : Opn) (A1 : Option Addr) (c1 : Nat) (A2 : Option Addr) (c2 : Nat) (A3 : Option Addr) (c3 : Nat) : List Value :=
  [.int .u8 o.d, .string o.nm, .string o.to, .slice A1 o.ns.length c1, .slice A2 o.ps.length c2, .int .i64 o.n, .slice A3 o.ks.length c3]
/-- What isn't too great for memory. -/
structure OpOk (o : Opn) : Prop where
  d : 0 ≤ o.d ∧ o.d < 256
  nm : o.nm.size ≤ 9223372036854775807
  to : o.to.size ≤ 9223372036854775807
  ns : o.ns.length ≤ 9223372036854775807
  nss : ∀ s ∈ o.ns, s.size ≤ 9223372036854775807
  ps : o.ps.length ≤ 9223372036854775807
  pss : ∀ t ∈ o.ps, t.length ≤ 9223372036854775807
  b8 : ∀ t ∈ o.ps, Bytes8 t
  n : -9223372036854775808 ≤ o.n ∧ o.n ≤ 9223372036854775807
  ks : o.ks.length ≤ 9223372036854775807
  kss : ∀ x ∈ o.ks, -9223372036854775808 ≤ x ∧ x ≤ 9223372036854775807
def GaveOp (w : World) (o : Opn) (e : Ending) (w' : World) : Prop :=
  ∃ A1 c1 A2 c2 A3 c3, e = .returned (.agg (opV o A1 c1 A2 c2 A3 c3).toArray) ∧ OpAt (fun g => w.heap.size ≤ g) w' o A1 c1 A2 c2 A3 c3 ∧ FreeT (fun g => w.heap.size ≤ g) w' A2 o.ps.length ∧ Below w.heap.size w w'

set_option maxRecDepth 100000 in
set_option maxHeartbeats 1000000 in
theorem few_any (S : Nat → Prop) (o : Opn) (A1 A2 A3 : Option Addr) (c1 c2 c3 : Nat) (w : World) (h : OpAt S w o A1 c1 A2 c2 A3 c3) (ok : OpOk o) :
    Calls Try.prog 18 #[.agg #[.int .u8 o.d, .string o.nm, .string o.to, .slice A1 o.ns.length c1, .slice A2 o.ps.length c2, .int .i64 o.n, .slice A3 o.ks.length c3]] w fun e w' => GaveOp w (fewO o) e w' := by
  obtain ⟨i0, hi0, hz0, hz1, hz2⟩ := info_parts Try.info9
  obtain ⟨j0, hj0, hy0, hy1, hy2⟩ := info_parts Try.info41
  have hs1 := ok.nm
  have hs2 := ok.to
  have hl1 := ok.ns
  have hl2 := ok.ps
  have hl3 := ok.ks
  have HOK := Lib.hid ok
  have HAT := Lib.hid h
  clear ok h
  obtain ⟨d, nm, to, ns, ps, z, ks⟩ := o
  simp only at *
  go_enter Try.func18, Try.ntmps18
  go_wp2_with fail
  go_big_region
  obtain ⟨nm', hnm⟩ : ∃ x, x = cutS nm := ⟨_, rfl⟩
  obtain ⟨to', hto⟩ : ∃ x, x = cutS to := ⟨_, rfl⟩
  have e1 : nm.extract 0 (min (nm.size : Int) 12).toNat = nm' := hnm.symm
  have e2 : to.extract 0 (min (to.size : Int) 12).toNat = to' := hto.symm
  rw [e1, e2]
  have HNM := Lib.hid hnm
  have HTO := Lib.hid hto
  clear e1 e2 hnm hto hs1 hs2
  generalize (min (nm.size : Int) 12) = q1 at *
  generalize (min (to.size : Int) 12) = q2 at *
  obtain ⟨wa, hwa⟩ : ∃ x, x = ((w.alloc (.cells #[.int .u8 d, .string nm', .string to', .slice A1 ns.length c1, .slice A2 ps.length c2, .int .i64 z, .slice A3 ks.length c3] 34)).alloc (.cells #[.int .u8 0, .string ⟨#[]⟩, .string ⟨#[]⟩, .slice none 0 0, .slice none 0 0, .int .i64 0, .slice none 0 0] 34)).drew := ⟨_, rfl⟩
  rw [← hwa]
  have hsa : wa.heap.size = w.heap.size + 2 := by rw [hwa]; simp
  have hXa : wa.heap[w.heap.size]? = some (.cells [.int .u8 d, .string nm', .string to', .slice A1 ns.length c1, .slice A2 ps.length c2, .int .i64 z, .slice A3 ks.length c3].toArray 34 (0, 0)) := by
    rw [hwa]; show ((w.alloc _).alloc _).heap[w.heap.size]? = _; rw [Below.heap_alloc _ _ _ (by simp)]; exact heap_alloc_new w _
  have hYa : wa.heap[w.heap.size + 1]? = some (.cells [.int .u8 0, .string ⟨#[]⟩, .string ⟨#[]⟩, .slice none 0 0, .slice none 0 0, .int .i64 0, .slice none 0 0].toArray 34 (0, 0)) := by
    rw [hwa]; show ((w.alloc _).alloc _).heap[w.heap.size + 1]? = _; exact new_at (by simp)
  have hba : Below w.heap.size w wa := by rw [hwa]; exact (((Below.refl _ _).alloc (Nat.le_refl _) _).alloc (by simp) _).drew
  clear hwa
  have r1 : Row (fun g => g < w.heap.size) wa A1 (strs ns) := (HAT.out.ns.mono fun g hg _ => hg).below hba
  have t2 : TxtAt (fun g => g < w.heap.size) wa A2 ps := (HAT.out.ps.mono fun g hg _ => hg).below hba
  have r3 : Row (fun g => g < w.heap.size) wa A3 (i64s ks) := (HAT.out.ks.mono fun g hg _ => hg).below hba
  have x3 : wa.cell? ⟨w.heap.size, 3, none⟩ = some (.slice A1 ns.length c1) := sv_cell hXa 3
  have HXa := Lib.hid hXa
  have HYa := Lib.hid hYa
  clear hXa hYa
  go_wp2_with fail
  go_loopw [3, 4, 5, 28] (fun v _ _ i wr => ∃ k : Nat, k ≤ ns.length ∧ i = .int .i64 k ∧ wr.ownsRow wa.heap.size 9 1 v (fewNs ns k).length (strs (fewNs ns k)) ∧ Below wa.heap.size wa wr) (fun _ _ _ i _ => ns.length - (intOf i).toNat)
  case atStart => exact ⟨0, Nat.zero_le _, rfl, ⟨by simp [fewNs, strs], .inl ⟨rfl, by simp [fewNs]⟩⟩, Below.refl _ _⟩
  case round =>
    obtain ⟨k, hk, rfl, hO, hbl⟩ := hrel
    have hsz := hbl.size
    by_cases hlt : k < ns.length
    · have i1 : (k : Int) < (ns.length : Int) := by omega
      obtain ⟨ad, rfl, _, _, hcell⟩ := (r1.below hbl) k (by rw [strs_len]; exact hlt)
      rw [strs_at hlt] at hcell
      have hsl := HOK.out.nss _ (List.getElem_mem hlt)
      by_cases h6 : k < 4
      · have i2 : (k : Int) < 4 := by omega
        have HT := Lib.hid (fewNs_succ hlt h6)
        have hb6 := fewNs_len ns k
        generalize ns[k] = s0 at *
        generalize fewNs ns k = us at *
        have HG4 : Hid (∀ g, u3.ownBlock = some g → wa.heap.size ≤ g ∧ g < wr.heap.size) := fun g hg => own_lt hO hg
        have hO6 := hO.alloc (.cells #[.string (s0.extract 0 (min (s0.size : Int) 12).toNat)] 9)
        have hn6 : Row (fun _ => True) (wr.alloc (.cells #[.string (s0.extract 0 (min (s0.size : Int) 12).toNat)] 9)) (some ⟨wr.heap.size, 0, none⟩) [.string (s0.extract 0 (min (s0.size : Int) 12).toNat)] := Row.of_block (heap_alloc_new wr _) trivial
        clear r1 t2 r3
        go_wp2_with (at_builtin; refine wpList_append_row _ rfl (.tmp 35) (.tmp 41) 30 rfl wa.heap.size 9 i0 (.string ⟨#[]⟩) 16 Try.underlying30 hi0 hz0 hz1 hz2 rfl u3 us.length (strs us) rfl hO6 (fun _ => True) (some ⟨wr.heap.size, 0, none⟩) 1 1 [.string (s0.extract 0 (min (s0.size : Int) 12).toNat)] rfl rfl hn6 ?k1 ?k2 ?k3 ?k4 ?_; rotate_right; intro A7 c7 w7 hown7 hgrow7 hat7)
        case k1 => simp [Value.oneCell']
        case k2 => unfold maxLen; omega
        case k3 => omega
        case k4 => simp; omega
        have HO : Hid (w7.ownsRow wa.heap.size 9 1 (.slice A7 (us.length + 1) c7) (us ++ [cutS s0]).length (strs (us ++ [cutS s0]))) := by
          rw [List.length_append, List.length_singleton, show strs (us ++ [cutS s0]) = strs us ++ [.string (s0.extract 0 (min (s0.size : Int) 12).toNat)] by simp [strs, cutS]]
          exact hown7
        have hbA : Below wa.heap.size wa w7 := (hbl.alloc (by omega) _).grown hgrow7 (by simp; omega) (fun g hg => (HG4.out g hg).1)
        clear hown7 hgrow7 hat7 hO6 hn6 hO
        go_wp2_with fail
        go_roundw
        case rel => exact ⟨k + 1, by omega, by go_num, by rw [HT.out]; exact HO.out, hbA⟩
        case measure => simp [intOf]; omega
      · have i2 : ¬ (k : Int) < 4 := by omega
        have HE := Lib.hid (fewNs_over (ns := ns) h6)
        clear r1 t2 r3
        go_wp2_with fail
        go_roundw
        case rel => exact ⟨k + 1, by omega, by go_num, by rw [HE.out]; exact hO, hbl⟩
        case measure => simp [intOf]; omega
    · have i1 : ¬ (k : Int) < (ns.length : Int) := by omega
      obtain rfl : k = ns.length := by omega
      have HX6 := Lib.hid ((hbl.block _ (by omega)).trans HXa.out)
      have HY6 := Lib.hid ((hbl.block _ (by omega)).trans HYa.out)
      have q4 : wr.cell? ⟨w.heap.size, 4, none⟩ = some (.slice A2 ps.length c2) := sv_cell HX6.out 4
      have t26 := t2.below hbl
      have r36 := r3.below hbl
      have hb6 : Below w.heap.size w wr := hba.trans (hbl.mono hba.size)
      have HO1 := Lib.hid hO
      have hs56 : w.heap.size + 2 ≤ wr.heap.size := by omega
      clear t2 r3 r1 hO HXa HYa hk x3
      obtain ⟨wo, hwo⟩ : ∃ x, x = wr := ⟨_, rfl⟩
      subst hwo
      go_wp2_with fail
      go_loopw [6, 7, 8, 47] (fun v _ _ i wx => ∃ k : Nat, k ≤ ps.length ∧ i = .int .i64 k ∧ OwnR wx wo.heap.size v (fewPs ps k) ∧ Below wo.heap.size wo wx) (fun _ _ _ i _ => ps.length - (intOf i).toNat)
      case atStart => exact ⟨0, Nat.zero_le _, rfl, by simpa [fewPs] using OwnR.start _ _, Below.refl _ _⟩
      case round =>
        obtain ⟨k, hk, rfl, hO, hbx⟩ := hrel
        have hsx := hbx.size
        by_cases hlt : k < ps.length
        · have i1 : (k : Int) < (ps.length : Int) := by omega
          obtain ⟨ad, At, ct, rfl, _, _, hcell, hct, hrt⟩ := (t26.below hbx) k hlt
          have htl := HOK.out.pss _ (List.getElem_mem hlt)
          by_cases h6 : k < 4
          · have i2 : (k : Int) < 4 := by omega
            have HT := Lib.hid (fewPs_succ hlt h6)
            have hb6v := fewPs_len ps k
            have HC := Lib.hid (rcutF_any _ At ct 200 ps[k] wr hrt hct htl (by decide))
            obtain ⟨cs, hcs, hce⟩ := hO
            have HCE := Lib.hid hce
            have HG4 : Hid (∀ g, u6.ownBlock = some g → wo.heap.size ≤ g ∧ g < wr.heap.size) := fun g hg => own_lt hcs hg
            generalize ps[k] = t0 at *
            generalize t0.take 200 = t at *
            generalize fewPs ps k = us at *
            clear hce t26 hrt
            go_wp2_with fail
            refine (HC.out).mono ?_
            rintro e w6 ⟨A6, c6, rfl, hc6, r6', f6', hb6'⟩
            have hs6 : wr.heap.size ≤ w6.heap.size := hb6'.size
            have hcs6 := (own_below hcs hb6').alloc (.cells #[.slice A6 t.length c6] 41)
            have hn6 : Row (fun _ => True) (w6.alloc (.cells #[.slice A6 t.length c6] 41)) (some ⟨w6.heap.size, 0, none⟩) [.slice A6 t.length c6] := Row.of_block (heap_alloc_new w6 _) trivial
            go_wp2_with (at_builtin; refine wpList_append_row _ rfl (.tmp 54) (.tmp 57) 31 rfl wo.heap.size 41 j0 (.slice none 0 0) 24 Try.underlying31 hj0 hy0 hy1 hy2 rfl u6 us.length cs rfl hcs6 (fun _ => True) (some ⟨w6.heap.size, 0, none⟩) 1 1 [.slice A6 t.length c6] rfl rfl hn6 ?m1 ?m2 ?m3 ?m4 ?_; rotate_right; intro A7 c7 w7 hown7 hgrow7 hat7)
            case m1 => simp [Value.oneCell']
            case m2 => unfold maxLen; omega
            case m3 => omega
            case m4 => simp; omega
            have h2 : CellsR (fun g => wo.heap.size ≤ g ∧ some g ≠ u6.ownBlock) w6 cs us := HCE.out.kept hs6 fun g hg s => ⟨hb6'.block g hg, s⟩
            have h3 : CellsR (fun g => wo.heap.size ≤ g ∧ some g ≠ u6.ownBlock) w6 [.slice A6 t.length c6] [t] :=
              CellsR.one hc6 (r6'.mono fun g hg1 hg => ⟨by omega, fun e => by have := (HG4.out g e.symm).2; omega⟩) (f6'.mono fun g hg1 hg => ⟨by omega, fun e => by have := (HG4.out g e.symm).2; omega⟩)
            have HO := Lib.hid (OwnR.step (us := [t]) h2 h3 hown7 hgrow7 (by simpa using hat7))
            have hbA : Below wo.heap.size wo w7 := ((hbx.trans (hb6'.mono hsx)).alloc (by omega) _).grown hgrow7 (by simp; omega) (fun g hg => (HG4.out g hg).1)
            clear hown7 hgrow7 hat7 h2 h3 hcs6 hn6 r6' f6' hb6' hcs
            go_wp2_with fail
            go_roundw
            case rel => exact ⟨k + 1, by omega, by go_num, by rw [HT.out]; exact HO.out, hbA⟩
            case measure => simp [intOf]; omega
          · have i2 : ¬ (k : Int) < 4 := by omega
            have HE := Lib.hid (fewPs_over (ps := ps) h6)
            clear t26 hrt
            go_wp2_with fail
            go_roundw
            case rel => exact ⟨k + 1, by omega, by go_num, by rw [HE.out]; exact hO, hbx⟩
            case measure => simp [intOf]; omega
        · have i1 : ¬ (k : Int) < (ps.length : Int) := by omega
          obtain rfl : k = ps.length := by omega
          have hX7 := (hbx.block _ (by omega)).trans HX6.out
          have x6 : wr.cell? ⟨w.heap.size, 6, none⟩ = some (.slice A3 ks.length c3) := sv_cell hX7 6
          obtain ⟨kl, hkl⟩ : ∃ x, x = ks.take 20 := ⟨_, rfl⟩
          have hen := ends_any _ A3 c3 ks wr (r36.below hbx) HAT.out.k3 hl3
          rw [← hkl] at hen
          have HEN := Lib.hid hen
          have HKL := Lib.hid hkl
          clear hen hkl
          obtain ⟨B1, e1, rfl, he1, _, rB1⟩ := Row.of_own HO1.out
          obtain ⟨B2, e2, rfl, he2, tB2, fB2⟩ := hO.texts
          have HT2 := Lib.hid tB2
          have HF2 := Lib.hid fB2
          have HR1 := Lib.hid rB1
          have HX7 := Lib.hid hX7
          clear q4 hX7 tB2 fB2 rB1 r36 t26 hO
          go_wp2_with fail
          refine (HEN.out).mono ?_
          rintro e w8 ⟨B3, e3, rfl, he3, r8, hb8⟩
          rw [i64s_len] at he3 ⊢
          have HR8 := Lib.hid r8
          have hs8 := hb8.size
          have hX8 := (hb8.block _ (by omega)).trans HX7.out
          have hY8 := (hb8.block _ (by omega)).trans ((hbx.block _ (by omega)).trans HY6.out)
          have x0 : w8.cell? ⟨w.heap.size, 0, none⟩ = some (.int .u8 d) := sv_cell hX8 0
          have x1 : w8.cell? ⟨w.heap.size, 1, none⟩ = some (.string nm') := sv_cell hX8 1
          have x2 : w8.cell? ⟨w.heap.size, 2, none⟩ = some (.string to') := sv_cell hX8 2
          have x3 : w8.cell? ⟨w.heap.size, 3, none⟩ = some (.slice A1 ns.length c1) := sv_cell hX8 3
          have x4 : w8.cell? ⟨w.heap.size, 4, none⟩ = some (.slice A2 ps.length c2) := sv_cell hX8 4
          have x5 : w8.cell? ⟨w.heap.size, 5, none⟩ = some (.int .i64 z) := sv_cell hX8 5
          have x6' : w8.cell? ⟨w.heap.size, 6, none⟩ = some (.slice A3 ks.length c3) := sv_cell hX8 6
          have f3 := sv_free (k := 3) hX8
          have f4 := sv_free (k := 4) hX8
          have f6 := sv_free (k := 6) hX8
          have y0 : w8.cell? ⟨w.heap.size + 1, 0, none⟩ = some (.int .u8 0) := sv_cell hY8 0
          have y1 : w8.cell? ⟨w.heap.size + 1, 1, none⟩ = some (.string ⟨#[]⟩) := sv_cell hY8 1
          have y2 : w8.cell? ⟨w.heap.size + 1, 2, none⟩ = some (.string ⟨#[]⟩) := sv_cell hY8 2
          have y3 : w8.cell? ⟨w.heap.size + 1, 3, none⟩ = some (.slice none 0 0) := sv_cell hY8 3
          have y4 : w8.cell? ⟨w.heap.size + 1, 4, none⟩ = some (.slice none 0 0) := sv_cell hY8 4
          have y5 : w8.cell? ⟨w.heap.size + 1, 5, none⟩ = some (.int .i64 0) := sv_cell hY8 5
          have y6 : w8.cell? ⟨w.heap.size + 1, 6, none⟩ = some (.slice none 0 0) := sv_cell hY8 6
          have p0 := sv_free (k := 0) hY8
          have p1 := sv_free (k := 1) hY8
          have p2 := sv_free (k := 2) hY8
          have p3 := sv_free (k := 3) hY8
          have p4 := sv_free (k := 4) hY8
          have p5 := sv_free (k := 5) hY8
          have p6 := sv_free (k := 6) hY8
          have HX8 := Lib.hid hX8
          have HY8 := Lib.hid hY8
          have HB8 := Lib.hid hb8
          clear x6 r8 hX8 hY8 hb8 HEN HX7
          go_wp2_with fail
          obtain ⟨w9, hw9⟩ : ∃ x, x = (((((((((w8.setCell ⟨w.heap.size, 3, none⟩ (.slice B1 (fewNs ns ns.length).length e1)).setCell ⟨w.heap.size, 4, none⟩ (.slice B2 (fewPs ps ps.length).length e2)).setCell ⟨w.heap.size, 6, none⟩ (.slice B3 kl.length e3)).setCell ⟨w.heap.size + 1, 0, none⟩ (.int .u8 d)).setCell ⟨w.heap.size + 1, 1, none⟩ (.string nm')).setCell ⟨w.heap.size + 1, 2, none⟩ (.string to')).setCell ⟨w.heap.size + 1, 3, none⟩ (.slice B1 (fewNs ns ns.length).length e1)).setCell ⟨w.heap.size + 1, 4, none⟩ (.slice B2 (fewPs ps ps.length).length e2)).setCell ⟨w.heap.size + 1, 5, none⟩ (.int .i64 z)).setCell ⟨w.heap.size + 1, 6, none⟩ (.slice B3 kl.length e3) := ⟨_, rfl⟩
          have hs9 : w9.heap.size = w8.heap.size := by rw [hw9]; simp only [set_size]
          have hk9 : ∀ g, g ≠ w.heap.size → g ≠ w.heap.size + 1 → w9.heap[g]? = w8.heap[g]? := fun g g1 g2 => by rw [hw9]; exact set10 g1 g2
          have hbr : Below w.heap.size w wr := hb6.trans (hbx.mono hb6.size)
          have hb9 : Below w.heap.size w w9 := by
            have hb7 := hbr.trans (HB8.out.mono hbr.size)
            refine ⟨?_, ?_, ?_, by rw [hs9]; exact hb7.size, fun k hk => (hk9 k (by omega) (by omega)).trans (hb7.block k hk)⟩
            · rw [hw9]; simp only [set_os]; exact hb7.os
            · rw [hw9]; simp only [set_tape]; exact hb7.tape
            · rw [hw9]; simp only [set_output]; exact hb7.output
          have hbo : Below wo.heap.size wo w8 := hbx.trans (HB8.out.mono hsx)
          have hr1 : Row (fun g => w.heap.size ≤ g) w9 B1 (strs (fewNs ns ns.length)) := ((HR1.out.below hbo).kept (by omega) fun g _ s => hk9 g (by omega) (by omega)).mono fun g _ s => by omega
          have hr3 : Row (fun g => w.heap.size ≤ g) w9 B3 (i64s kl) := (HR8.out.kept (by omega) fun g _ s => hk9 g (by omega) (by omega)).mono fun g _ s => by omega
          have ht2 : TxtAt (fun g => w.heap.size ≤ g) w9 B2 (fewPs ps ps.length) := ((HT2.out.below HB8.out).kept (by omega) fun g _ s => hk9 g (by omega) (by omega)).mono fun g _ s => by omega
          have hf2 : FreeT (fun g => w.heap.size ≤ g) w9 B2 (fewPs ps ps.length).length := FreeT.kept HT2.out HF2.out (by omega) fun g hg s => ⟨(hk9 g (by omega) (by omega)).trans (HB8.out.block g hg), by omega⟩
          have hnm := HNM.out
          have hto := HTO.out
          have hkl := HKL.out
          have HG : Hid (GaveOp w (fewO ⟨d, nm, to, ns, ps, z, ks⟩) (.returned (.agg #[.int .u8 d, .string nm', .string to', .slice B1 (fewNs ns ns.length).length e1, .slice B2 (fewPs ps ps.length).length e2, .int .i64 z, .slice B3 kl.length e3])) w9) := by
            refine ⟨B1, e1, B2, e2, B3, e3, ?_, ⟨he1, he2, ?_, hr1, ht2, ?_⟩, hf2, hb9⟩
            · rw [hnm, hto, hkl]; rfl
            · rw [hkl] at he3; exact he3
            · rw [hkl] at hr3; exact hr3
          have hY9 : w9.heap[w.heap.size + 1]? = some (.cells [.int .u8 d, .string nm', .string to', .slice B1 (fewNs ns ns.length).length e1, .slice B2 (fewPs ps ps.length).length e2, .int .i64 z, .slice B3 kl.length e3].toArray 34 (0, 0)) := by
            rw [hw9]
            exact sv_set (sv_set (sv_set (sv_set (sv_set (sv_set (sv_set ((Below.heap_setCell _ _ _ _ (by simp)).trans ((Below.heap_setCell _ _ _ _ (by simp)).trans ((Below.heap_setCell _ _ _ _ (by simp)).trans HY8.out)))))))))
          have z0 : w9.cell? ⟨w.heap.size + 1, 0, none⟩ = some (.int .u8 d) := sv_cell hY9 0
          have z1 : w9.cell? ⟨w.heap.size + 1, 1, none⟩ = some (.string nm') := sv_cell hY9 1
          have z2 : w9.cell? ⟨w.heap.size + 1, 2, none⟩ = some (.string to') := sv_cell hY9 2
          have z3 : w9.cell? ⟨w.heap.size + 1, 3, none⟩ = some (.slice B1 (fewNs ns ns.length).length e1) := sv_cell hY9 3
          have z4 : w9.cell? ⟨w.heap.size + 1, 4, none⟩ = some (.slice B2 (fewPs ps ps.length).length e2) := sv_cell hY9 4
          have z5 : w9.cell? ⟨w.heap.size + 1, 5, none⟩ = some (.int .i64 z) := sv_cell hY9 5
          have z6 : w9.cell? ⟨w.heap.size + 1, 6, none⟩ = some (.slice B3 kl.length e3) := sv_cell hY9 6
          rw [← hw9]
          clear hw9 hs9 hk9 hb9 hr1 hr3 ht2 hf2 hY9 x0 x1 x2 x3 x4 x5 x6' f3 f4 f6 y0 y1 y2 y3 y4 y5 y6 p0 p1 p2 p3 p4 p5 p6 hnm hto hkl hbr hbo
          refine bodyPost_ret (v := .agg #[.int .u8 d, .string nm', .string to', .slice B1 (fewNs ns ns.length).length e1, .slice B2 (fewPs ps ps.length).length e2, .int .i64 z, .slice B3 kl.length e3]) (by simp [results, Try.results18, go_sem, z0, z1, z2, z3, z4, z5, z6]) rfl ?_
          exact HG.out

end Go.Proofs.Ytchedflfinkppaa
