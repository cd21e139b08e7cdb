/-
  Slices of ops: what they read as, what append onto an own one gives; the contract of ref03's Few.
-/
import Derived.Test.YtnpbfacmjmgfaaaSquares
import Derived.Deep.RegionHeld3
namespace Go.Proofs.Ytnpbfacmjmgfaaa
open Go.RowKit

/-- A slice that reads as ops; of its block and of those of its vectors S holds. -/
def OpsAt (S : Nat → Prop) (w : World) (A : Option Addr) (ops : List (Int × List Int)) : Prop :=
  ∀ j (hj : j < ops.length), ∃ ad, A = some ad ∧ S ad.block ∧ ad.block < w.heap.size ∧ w.cell? (ad.add (j * 2)) = some (.int .u64 (ops[j]'hj).1) ∧
    ∃ X c, w.cell? ⟨(ad.add (j * 2)).block, (ad.add (j * 2)).off + 1, none⟩ = some (.slice X (ops[j]'hj).2.length c) ∧ (ops[j]'hj).2.length ≤ c ∧ Row S w X (i32s (ops[j]'hj).2)

theorem OpsAt.kept {S : Nat → Prop} {w w' : World} {A : Option Addr} {ops : List (Int × List Int)} (h : OpsAt S w A ops) (hs : w.heap.size ≤ w'.heap.size) (hk : ∀ g, g < w.heap.size → S g → w'.heap[g]? = w.heap[g]?) : OpsAt S w' A ops := fun j hj => by
  obtain ⟨ad, e, s, lt, h0, X, c, h1, hc, hr⟩ := h j hj
  exact ⟨ad, e, s, by omega, (World.cell?_of_block (by rw [block_add]; exact hk _ lt s)).trans h0, X, c, (World.cell?_of_block (by show w'.heap[(ad.add (j * 2)).block]? = _; rw [block_add]; exact hk _ lt s)).trans h1, hc, hr.kept hs hk⟩
theorem OpsAt.below {S : Nat → Prop} {w w' : World} {A : Option Addr} {ops : List (Int × List Int)} (h : OpsAt S w A ops) (hb : Below w.heap.size w w') : OpsAt S w' A ops := h.kept hb.size fun g hg _ => hb.block g hg

/-- The cells of ops. -/
def Cells2 (S : Nat → Prop) (w : World) (cs : List Value) (ops : List (Int × List Int)) : Prop :=
  cs.length = ops.length * 2 ∧ ∀ j (hj : j < ops.length), cs[j * 2]? = some (.int .u64 (ops[j]'hj).1) ∧ ∃ X c, cs[j * 2 + 1]? = some (.slice X (ops[j]'hj).2.length c) ∧ (ops[j]'hj).2.length ≤ c ∧ Row S w X (i32s (ops[j]'hj).2)

/-- A row of ops of the call's own. -/
def Own2 (w : World) (B : Nat) (v : Value) (ops : List (Int × List Int)) : Prop :=
  ∃ cs, w.ownsRow B 48 2 v ops.length cs ∧ Cells2 (fun g => B ≤ g ∧ some g ≠ v.ownBlock) w cs ops

theorem Cells2.kept {S S' : Nat → Prop} {w w' : World} {cs : List Value} {ops : List (Int × List Int)} (h : Cells2 S w cs ops) (hs : w.heap.size ≤ w'.heap.size) (hk : ∀ g, g < w.heap.size → S g → w'.heap[g]? = w.heap[g]? ∧ S' g) : Cells2 S' w' cs ops :=
  ⟨h.1, fun j hj => by
    obtain ⟨h0, X, c, h1, hc, hr⟩ := h.2 j hj
    refine ⟨h0, X, c, h1, hc, ?_⟩
    have hr' : Row (fun g => S g ∧ S' g) w X (i32s (ops[j]'hj).2) := hr.mono fun g hg s => ⟨s, (hk g hg s).2⟩
    exact (hr'.kept hs fun g hg s => (hk g hg s.1).1).mono fun g _ s => s.2⟩
theorem Cells2.snoc {S : Nat → Prop} {w : World} {cs : List Value} {ops : List (Int × List Int)} (h : Cells2 S w cs ops) (id : Int) (vec : List Int) (X : Option Addr) (c : Nat) (hc : vec.length ≤ c) (hr : Row S w X (i32s vec)) :
    Cells2 S w (cs ++ [.int .u64 id, .slice X vec.length c]) (ops ++ [(id, vec)]) := by
  refine ⟨by simp [h.1]; omega, fun j hj => ?_⟩
  rw [List.length_append, List.length_singleton] at hj
  by_cases e : j < ops.length
  · obtain ⟨h0, Y, d, h1, hd, hy⟩ := h.2 j e
    have hl := h.1
    rw [List.getElem?_append_left (by omega), List.getElem?_append_left (by omega)]
    simp only [List.getElem_append_left e]
    exact ⟨h0, Y, d, h1, hd, hy⟩
  · obtain rfl : j = ops.length := by omega
    have hl := h.1
    rw [List.getElem?_append_right (by omega), List.getElem?_append_right (by omega), hl]
    simp
    exact ⟨X, c, ⟨rfl, rfl⟩, hc, hr⟩

theorem Own2.start (w : World) : Own2 w w.heap.size (.slice none 0 0) [] :=
  ⟨[], ⟨by simp, .inl ⟨rfl, rfl⟩⟩, by simp, fun j hj => by simp at hj⟩
theorem Own2.low {w : World} {B g : Nat} {v : Value} {ops : List (Int × List Int)} (h : Own2 w B v ops) (hv : v.ownBlock = some g) : B ≤ g ∧ g < w.heap.size := by
  obtain ⟨cs, h1, _⟩ := h
  exact own_lt h1 hv
theorem Own2.below {w w' : World} {B : Nat} {v : Value} {ops : List (Int × List Int)} (h : Own2 w B v ops) (hb : Below w.heap.size w w') : Own2 w' B v ops := by
  obtain ⟨cs, h1, h2⟩ := h
  exact ⟨cs, own_kept (row := none) h1 ⟨hb.os, hb.tape, hb.output, hb.size, fun i hi _ => hb.block i hi⟩ (by simp), h2.kept hb.size fun g hg s => ⟨hb.block g hg, s⟩⟩
theorem Own2.drew {w : World} {B : Nat} {v : Value} {ops : List (Int × List Int)} (h : Own2 w B v ops) : Own2 w.drew B v ops := h
theorem Own2.alloc {w : World} {B : Nat} {v : Value} {ops : List (Int × List Int)} (h : Own2 w B v ops) (o : Obj) : Own2 (w.alloc o) B v ops := h.below ((Below.refl _ _).alloc (Nat.le_refl _) _)
theorem Own2.ops {w : World} {B : Nat} {v : Value} {ops : List (Int × List Int)} (h : Own2 w B v ops) : ∃ A c, v = .slice A ops.length c ∧ ops.length ≤ c ∧ OpsAt (fun g => B ≤ g) w A ops := by
  obtain ⟨cs, h1, h2⟩ := h
  rcases h1.2 with ⟨rfl, e⟩ | ⟨g, cap, cur, rfl, hg, hh, hnc, r⟩
  · have : ops = [] := List.eq_nil_of_length_eq_zero e
    subst this
    exact ⟨none, 0, rfl, Nat.le_refl _, fun j hj => by simp at hj⟩
  · refine ⟨_, cap, rfl, hnc, fun j hj => ?_⟩
    obtain ⟨c0, X, c, c1, hc, hr⟩ := h2.2 j hj
    have e0 := h1.cells (g := g) rfl _ _ c0
    have e1 := h1.cells (g := g) rfl _ _ c1
    refine ⟨_, rfl, hg, lt_of_block hh, e0, X, c, ?_, hc, hr.mono fun g _ s => s.1⟩
    rw [← e1]
    congr 1
    unfold Addr.add
    by_cases hj0 : j * 2 = 0
    · simp [hj0]
    · simp [hj0, Nat.add_assoc]

/-- behind an append of one op -/
theorem Own2.step {w w' : World} {B g cap : Nat} {v : Value} {ops : List (Int × List Int)} {o : Obj} {cs : List Value} {id : Int} {vec : List Int} {X : Option Addr} {c : Nat}
    (h2 : Cells2 (fun g => B ≤ g ∧ some g ≠ v.ownBlock) w cs ops) (hc : vec.length ≤ c) (hr : Row (fun g => B ≤ g ∧ some g ≠ v.ownBlock) w X (i32s vec))
    (hown : w'.ownsRow B 48 2 (.slice (some ⟨g, 0, none⟩) (ops.length + 1) cap) (ops.length + 1) (cs ++ [.int .u64 id, .slice X vec.length c])) (hgrow : (w.alloc o).grownBy w' v.ownBlock) (hat : v.ownBlock = some g ∨ g = w.heap.size + 1) :
    Own2 w' B (.slice (some ⟨g, 0, none⟩) (ops.length + 1) cap) (ops ++ [(id, vec)]) := by
  refine ⟨_, by rw [List.length_append, List.length_singleton]; exact hown, ?_⟩
  have h3 := h2.snoc id vec X c hc hr
  have hs : (w.alloc o).heap.size = w.heap.size + 1 := by simp
  refine h3.kept (by have := hgrow.size; omega) fun k hk s => ⟨?_, s.1, ?_⟩
  · rw [hgrow.block k (by omega) s.2, Below.heap_alloc _ _ _ hk]
  · intro e
    have e' : k = g := by simpa [Value.ownBlock] using e
    subst e'
    rcases hat with e | e
    · exact s.2 e.symm
    · omega

theorem Try.info48 : (Try.prog.info? 48).map (fun i => (i.zero, i.size, i.bytes)) = some (some (.agg #[.int .u64 0, .slice none 0 0]), 2, 32) := by kernel_rfl

def cutOp (o : Int × List Int) : Int × List Int := (o.1, o.2.take 10)
/-- New ops. -/
def GivesOps (w : World) (ops : List (Int × List Int)) (e : Ending) (w' : World) : Prop := ∃ v, e = .returned v ∧ Own2 w' w.heap.size v ops ∧ Below w.heap.size w w'

set_option maxRecDepth 100000 in
set_option maxHeartbeats 1000000 in
theorem few_any (S : Nat → Prop) (A : Option Addr) (c n : Nat) (ops : List (Int × List Int)) (w : World) (h : OpsAt S w A ops) (hl : ops.length ≤ 9223372036854775807) (hv : ∀ o ∈ ops, o.2.length ≤ 9223372036854775807) (hn : n ≤ 1000) :
    Calls Try.prog 22 #[.slice A ops.length c, .int .i64 (n : Int)] w fun e w' => GivesOps w ((ops.take n).map cutOp) e w' := by
  obtain ⟨i0, hi0, hz0, hz1, hz2⟩ := info_parts Try.info48
  go_enter Try.func22, Try.ntmps22
  go_wp2_with fail
  go_loopw [5, 6, 7, 10] (fun v _ _ i wr => ∃ k : Nat, k ≤ ops.length ∧ i = .int .i64 k ∧ Own2 wr w.heap.size v ((ops.take (min k n)).map cutOp) ∧ Below w.heap.size w wr) (fun _ _ _ i _ => ops.length - (intOf i).toNat)
  case atStart => exact ⟨0, Nat.zero_le _, rfl, by simpa using Own2.start w, Below.refl _ _⟩
  case round =>
    obtain ⟨k, hk, rfl, hown, hbl⟩ := hrel
    by_cases hlt : k < ops.length
    · obtain ⟨ad, rfl, _, hlt2, hc0, X, cx, hc1, hcx, hrow⟩ := (h.below hbl) k hlt
      have i1 : (k : Int) < (ops.length : Int) := by omega
      have hvl := hv _ (List.getElem_mem hlt)
      by_cases hkn : (k : Int) < (n : Int)
      · have HT := Lib.hid (show (ops.take (min (k + 1) n)).map cutOp = (ops.take (min k n)).map cutOp ++ [(ops[k].1, ops[k].2.take 10)] by
          rw [show min (k + 1) n = k + 1 by omega, show min k n = k by omega, List.take_succ_eq_append_getElem hlt, List.map_append]; rfl)
        have HLN := Lib.hid (show ((ops.take (min k n)).map cutOp).length = k by rw [List.length_map, List.length_take]; omega)
        generalize (ops.take (min k n)).map cutOp = os at *
        generalize ops[k].1 = id at *
        generalize ops[k].2 = vec at *
        clear h hv
        go_wp2_with fail
        obtain ⟨wa, hwa⟩ : ∃ x, x = wr.alloc (.cells #[.int .u64 id, .slice X vec.length cx] 48) := ⟨_, rfl⟩
        have ha0 : wa.cell? ⟨wr.heap.size, 0, none⟩ = some (.int .u64 id) := by rw [hwa]; go_simp
        have ha1 : wa.cell? ⟨wr.heap.size, 1, none⟩ = some (.slice X vec.length cx) := by rw [hwa]; go_simp
        have hba : Below w.heap.size w wa := by rw [hwa]; exact hbl.alloc hbl.size _
        have hoa : Own2 wa w.heap.size u5 os := by rw [hwa]; exact hown.alloc _
        have hra : Row S wa X (i32s vec) := by rw [hwa]; exact hrow.alloc _
        have hlt0 : wr.heap.size < wa.heap.size := by rw [hwa]; simp
        have hne : some wr.heap.size ≠ u5.ownBlock := fun e => by have := hown.low e.symm; omega
        rw [← hwa]
        clear hwa hc0 hc1 hown hrow hbl hlt2
        generalize wr.heap.size = b0 at *
        have HC : Hid (Calls Try.prog 12 #[.slice X vec.length cx, .int .i64 10] wa.drew fun e w' => Gives wa.drew (i32s (vec.take 10)) e w') := cutVec_any S X cx 10 vec wa.drew hra hcx hvl (by decide)
        have HV := Lib.hid (i32s_len (vec.take 10))
        obtain ⟨cs, hcs, hce⟩ := hoa
        have hg0 : ∀ g, u5.ownBlock = some g → w.heap.size ≤ g ∧ g < wa.heap.size := fun g hg => own_lt hcs hg
        have HG0 := Lib.hid hg0
        have HCE := Lib.hid hce
        clear hg0 hra hce
        generalize vec.take 10 = vt at *
        have hn1 : os.length + 1 ≤ 1001 := by have := HLN.out; omega
        have hbase0 : w.heap.size ≤ wa.heap.size := hba.size
        go_region_held3 (fun w' => w'.cell? ⟨b0, 0, none⟩ = some (.int .u64 id) ∧ w'.cell? ⟨b0, 1, none⟩ = some (.slice X vec.length cx)) (first | exact ⟨ha0, ha1⟩ | exact ⟨hk0, hk1⟩ | exact ⟨hm0, hm1⟩ | exact ⟨hn0, hn2⟩)
          (first
            | (go_at_call 12; refine (HC.out).mono ?_; rintro e w5 ⟨A5, c5, rfl, hc5, r5, hb5⟩; rw [HV.out] at hc5 ⊢; have hk0 := (hb5.cell (p := ⟨b0, 0, none⟩) (by exact hlt0)).trans ha0; have hk1 := (hb5.cell (p := ⟨b0, 1, none⟩) (by exact hlt0)).trans ha1;
               have hs5 : wa.heap.size ≤ w5.heap.size := hb5.size;
               have hm0 := (World.cell?_alloc_lt w5 (.cells #[.int .u64 id, .slice A5 vt.length c5] 48) ⟨b0, 0, none⟩ (show b0 < w5.heap.size by omega)).trans hk0; have hm1 := (World.cell?_alloc_lt w5 (.cells #[.int .u64 id, .slice A5 vt.length c5] 48) ⟨b0, 1, none⟩ (show b0 < w5.heap.size by omega)).trans hk1;
               have hcs5 : w5.ownsRow w.heap.size 48 2 u5 os.length cs := own_kept (row := none) hcs ⟨hb5.os, hb5.tape, hb5.output, hb5.size, fun i hi _ => hb5.block i hi⟩ (by simp))
            | (refine step_append_lies _ (by rfl) _ _ _ (by rfl) w.heap.size 48 i0 _ 2 32 Try.underlying39 hi0 hz0 hz1 hz2 rfl (by omega) u5 os.length cs (by rfl) (hcs5.alloc _) ⟨w5.heap.size, 0, none⟩ 1 1 [.int .u64 id, .slice A5 vt.length c5] (by rfl) (by rfl)
                (World.news_of_block (cs := #[.int .u64 id, .slice A5 vt.length c5]) (t := 48) (fr := (0, 0)) (heap_alloc_new w5 _)) (by simp [Value.oneCell']) (by omega) (by unfold maxLen; omega) (by omega) (by simp; omega) (w5.heap.size + 1) (by simp) ?_; intro gg cap w6 hown6 hgrow6 hat6 hlt6; have hn0 := (hgrow6.cell_far ⟨b0, 0, none⟩ (by simp; omega) hne).trans hm0; have hn2 := (hgrow6.cell_far ⟨b0, 1, none⟩ (by simp; omega) hne).trans hm1))
        have hb56 : Below w.heap.size w w6 := ((hba.drew.trans (hb5.mono hbase0)).alloc (by omega) _).grown hgrow6 (by simp; omega) (fun g hg => (HG0.out g hg).1)
        have h2 : Cells2 (fun g => w.heap.size ≤ g ∧ some g ≠ u5.ownBlock) w5 cs os := HCE.out.kept hs5 fun g hg s => ⟨hb5.block g hg, s⟩
        have h3 : Row (fun g => w.heap.size ≤ g ∧ some g ≠ u5.ownBlock) w5 A5 (i32s vt) := r5.mono fun g _ hg => ⟨Nat.le_trans hbase0 hg, fun e => by have h4 := (HG0.out g e.symm).2; exact absurd h4 (Nat.not_lt.2 hg)⟩
        have HO := Lib.hid (Own2.step h2 hc5 h3 hown6 hgrow6 hat6)
        clear hown6 hgrow6 hat6 hn0 hn2 hm0 hm1 hk0 hk1 h2 h3 hcs5 hcs r5 hb5
        go_wp2_with fail
        go_roundw
        case rel => exact ⟨k + 1, by omega, by go_num, by rw [HT.out]; exact HO.out, hb56⟩
        case measure => simp [intOf]; omega
      · have HT := Lib.hid (show min (k + 1) n = min k n by omega)
        generalize ops[k].1 = id at *
        generalize ops[k].2 = vec at *
        clear h hv
        go_wp2_with fail
        go_roundw
        case rel => exact ⟨k + 1, by omega, by go_num, by rw [HT.out]; exact hown.alloc _, hbl.alloc hbl.size _⟩
        case measure => simp [intOf]; omega
    · have HT := Lib.hid (show (ops.take (min k n)) = ops.take n by
        rcases Nat.le_total n k with h1 | h1
        · rw [Nat.min_eq_right h1]
        · rw [Nat.min_eq_left h1, List.take_of_length_le (by omega), List.take_of_length_le (by omega)])
      have HF := Lib.hid (show Own2 wr w.heap.size u5 ((ops.take n).map cutOp) by rw [← HT.out]; exact hown)
      have i1 : ¬ (k : Int) < (ops.length : Int) := by omega
      go_wp2_with fail
      go_ret
      exact ⟨_, rfl, by first | exact HF.out | (have h := HF.out; rw [List.map_take] at h; exact h), hbl⟩

end Go.Proofs.Ytnpbfacmjmgfaaa
