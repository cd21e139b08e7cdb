/-
  The contract of (*List).Hits.
-/
import Derived.Test.YtfhnhfppamnjhaaAdd
import Derived.Deep.AppendLies
namespace Go.Proofs.Ytfhnhfppamnjhaa
open Go.RowKit Go.Maps

/-- New hits. -/
def GaveHits (w : World) (hs : List Hit) (e : Ending) (w' : World) : Prop := ∃ v, e = .returned v ∧ Own3 w' w.heap.size v hs ∧ Below w.heap.size w w'

set_option maxRecDepth 100000 in
set_option maxHeartbeats 1000000 in
theorem hits_any (B b mb n most : Nat) (v : Value) (hs : List Hit) (w : World) (L : Lst w B b mb n v most hs) (hlen : hs.length ≤ 1000) (hw : ∀ x ∈ hs, Wf x) :
    Calls Try.prog 16 #[.pointer (some ⟨b, 0, none⟩)] w fun e w' => GaveHits w hs e w' := by
  obtain ⟨i0, hi0, hz0, hz1, hz2⟩ := info_parts Try.info36
  obtain ⟨c0, c1, c2⟩ := L.cells
  obtain ⟨A, ca, rfl, hca, hat⟩ := L.hits
  have HAT := Lib.hid hat
  have HW := Lib.hid hw
  have hlb := L.lt.1
  clear L hat hw
  obtain ⟨wm, hmk, hown0, hgr0⟩ := run_make_own (P := Try.prog) w w.heap.size 29 36 i0 _ 3 Try.underlying29 hi0 hz0 hz1 .i64 .i64 hs.length (by rw [hz2]; omega) (by unfold maxLen; omega) (Nat.le_refl _)
  have hbm : Below w.heap.size w wm := ⟨hgr0.os, hgr0.tape, hgr0.output, hgr0.size, fun k hk => hgr0.block k hk (by simp)⟩
  have c1m := (hbm.cell (p := ⟨b, 1, none⟩) hlb).trans c1
  have HOS : Hid (Own3 wm w.heap.size (.slice (some ⟨w.heap.size, 0, none⟩) 0 hs.length) []) := ⟨[], hown0, Cells3.nil⟩
  clear hown0 hgr0
  go_enter Try.func16, Try.ntmps16
  go_wp2_with fail
  go_loopw [3, 5, 19] (fun v _ i wr => ∃ k : Nat, k ≤ hs.length ∧ i = .int .i64 k ∧ Own3 wr w.heap.size v (hs.take k) ∧ Below w.heap.size w wr) (fun _ _ i _ => hs.length - (intOf i).toNat)
  case atStart => exact ⟨0, Nat.zero_le _, rfl, by simpa using HOS.out, hbm⟩
  case round =>
    obtain ⟨k, hk, rfl, hown, hbl⟩ := hrel
    by_cases hlt : k < hs.length
    · obtain ⟨ad, rfl, hj1, hadl, g0, g1, Y, cy, g2, hj2, hrow⟩ := (HAT.out.kept hbl.size (fun g hg _ => hbl.block g hg)) k hlt
      have i1 : (k : Int) < (hs.length : Int) := by omega
      have hvl := (HW.out _ (List.getElem_mem hlt)).2.2
      have HT := Lib.hid (show hs.take (k + 1) = hs.take k ++ [hs[k]] from List.take_succ_eq_append_getElem hlt)
      have HLN := Lib.hid (show (hs.take k).length = k by rw [List.length_take]; omega)
      obtain ⟨wa, hwa⟩ : ∃ x, x = wr.alloc (.cells #[.int .u64 hs[k].1, .int .u64 hs[k].2.1, .slice Y hs[k].2.2.length cy] 36) := ⟨_, rfl⟩
      have hba : Below w.heap.size w wa := by rw [hwa]; exact hbl.alloc hbl.size _
      have hsa : wr.heap.size < wa.heap.size := by rw [hwa]; simp
      have hoa : Own3 wa w.heap.size u3 (hs.take k) := by rw [hwa]; exact hown.alloc _
      have HO := Lib.hid (own_any _ hs[k] Y cy wa (by rw [hwa]; exact hrow.alloc _) hvl)
      generalize hs.take k = os at *
      clear hrow hj1 hj2 hown hbl
      obtain ⟨cs, hcs, hce⟩ := hoa
      have HG0 : Hid (∀ g, u3.ownBlock = some g → w.heap.size ≤ g ∧ g < wa.heap.size) := fun g hg => own_lt hcs hg
      have HCS := Lib.hid hcs
      have HCE := Lib.hid hce
      have HBA := Lib.hid hba
      have hbase0 : w.heap.size ≤ wa.heap.size := hba.size
      have hol : os.length ≤ 1000 := by have := HLN.out; omega
      clear hcs hce hba
      go_wp2_with fail
      rw [← hwa]
      refine (HO.out).mono ?_
      rintro e w5 ⟨A5, c5, rfl, hc5, r5, hb5⟩
      have hs5 : wa.heap.size ≤ w5.heap.size := hb5.size
      have hcs5 : w5.ownsRow w.heap.size 36 3 u3 os.length cs := own_below HCS.out hb5
      have h2 : Cells3 (fun g => w.heap.size ≤ g ∧ some g ≠ u3.ownBlock) w5 cs os := HCE.out.kept hs5 fun g hg s => ⟨hb5.block g hg, s⟩
      have h3 : Row (fun g => w.heap.size ≤ g ∧ some g ≠ u3.ownBlock) w5 A5 (i32s hs[k].2.2) := r5.mono fun g _ hg => ⟨Nat.le_trans hbase0 hg, fun e => by have h4 := (HG0.out g e.symm).2; exact absurd h4 (Nat.not_lt.2 hg)⟩
      have hb5w : Below w.heap.size w w5 := HBA.out.trans (hb5.mono hbase0)
      have HB5 := Lib.hid hb5w
      have HR5 := Lib.hid hcs5
      have HST := fun (w6 : World) (gg cap : Nat) (o : Obj) (ho6) (hg6 : (w5.alloc o).grownBy w6 u3.ownBlock) (ha6 : u3.ownBlock = some gg ∨ gg = w5.heap.size + 1) => Own3.step (B := w.heap.size) (cap := cap) h2 hc5 h3 ho6 hg6 ha6
      have HSTEP := Lib.hid HST
      clear HST h2 h3 r5 hb5 hcs5 hwa HO HCS HCE hb5w
      generalize hs[k].1 = xi at *
      generalize hs[k].2.1 = xd at *
      go_wp2_with (at_builtin; refine wpList_append_lies _ rfl _ _ 29 rfl w.heap.size 36 i0 _ 3 40 Try.underlying29 hi0 hz0 hz1 hz2 rfl (by omega) u3 os.length cs rfl (HR5.out.alloc _) ⟨w5.heap.size, 0, none⟩ 1 1 [.int .u64 xi, .int .u64 xd, .slice A5 hs[k].2.2.length c5] rfl rfl (World.news_of_block (cs := #[.int .u64 xi, .int .u64 xd, .slice A5 hs[k].2.2.length c5]) (t := 36) (fr := (0, 0)) (heap_alloc_new w5 _)) (by simp [Value.oneCell']) (by omega) (by unfold maxLen; omega) (by omega) (by simp; omega) (w5.heap.size + 1) (by simp) ?_; intro gg cap w6 hown6 hgrow6 hat6 hlt6)
      have hb6 : Below w.heap.size w w6 := (HB5.out.alloc HB5.out.size _).grown hgrow6 (by simp; omega) (fun g hg => (HG0.out g hg).1)
      have hO6 := HSTEP.out w6 gg cap _ hown6 hgrow6 hat6
      rw [← HT.out] at hO6
      go_roundw
      case rel => exact ⟨k + 1, by omega, by go_num, hO6, hb6⟩
      case measure => simp [intOf]; omega
    · have i1 : ¬ (k : Int) < (hs.length : Int) := by omega
      have HF := Lib.hid (show Own3 wr w.heap.size u3 hs by rw [List.take_of_length_le (by omega)] at hown; exact hown)
      clear hown
      go_wp2_with fail
      go_ret
      exact ⟨_, rfl, HF.out, hbl⟩

end Go.Proofs.Ytfhnhfppamnjhaa
