/-
  The contract of List.
-/
import Derived.Test.YtphcakhhjjdpiaaChn
import Derived.Deep.OwnRows
namespace Go.Proofs.Ytphcakhhjjdpiaa
open Go.RowKit

def FreeC (T : Nat → Prop) (w : World) (cs : List Value) : Prop := ∀ X n c, Value.slice X n c ∈ cs → FreeA T w X
theorem FreeC.kept {T T' : Nat → Prop} {w w' : World} {cs : List Value} (h : FreeC T w cs) (hs : w.heap.size ≤ w'.heap.size) (hk : ∀ g, g < w.heap.size → T g → w'.heap[g]? = w.heap[g]? ∧ T' g) : FreeC T' w' cs := fun X n c hx => by
  have h1 : FreeA (fun g => T g ∧ T' g) w X := (h X n c hx).mono fun g hg s => ⟨s, (hk g hg s).2⟩
  exact (h1.kept hs fun g hg s => (hk g hg s.1).1).mono fun g _ s => s.2
theorem FreeC.nil {T : Nat → Prop} {w : World} : FreeC T w [] := fun X n c hx => by cases hx
theorem FreeC.append {T : Nat → Prop} {w : World} {cs cs' : List Value} (h : FreeC T w cs) (h' : FreeC T w cs') : FreeC T w (cs ++ cs') := fun X n c hx => by
  rcases List.mem_append.1 hx with hx | hx
  · exact h X n c hx
  · exact h' X n c hx
theorem FreeC.one {T : Nat → Prop} {w : World} {i : Int} {X : Option Addr} {n c : Nat} (h : FreeA T w X) : FreeC T w [.int .u64 i, .slice X n c] := fun Y m e hx => by
  simp at hx
  rw [hx.1]
  exact h

/-- A row of versions of the call's own, whose vectors may be written to. -/
def OwnF (t : TypeId) (w : World) (B : Nat) (v : Value) (hs : List Ver) : Prop :=
  ∃ cs, w.ownsRow B t 2 v hs.length cs ∧ Cells2 (fun g => B ≤ g ∧ some g ≠ v.ownBlock) w cs hs ∧ FreeC (fun g => B ≤ g ∧ some g ≠ v.ownBlock) w cs
theorem OwnF.own {t : TypeId} {w : World} {B : Nat} {v : Value} {hs : List Ver} (h : OwnF t w B v hs) : Own2 t (fun g => B ≤ g) w B v hs := by
  obtain ⟨cs, h1, h2, _⟩ := h
  exact ⟨cs, h1, h2⟩
theorem OwnF.below {t : TypeId} {w w' : World} {B : Nat} {v : Value} {hs : List Ver} (h : OwnF t w B v hs) (hb : Below w.heap.size w w') : OwnF t w' B v hs := by
  obtain ⟨cs, h1, h2, h3⟩ := h
  exact ⟨cs, own_below h1 hb, h2.kept hb.size fun g hg s => ⟨hb.block g hg, s⟩, h3.kept hb.size fun g hg s => ⟨hb.block g hg, s⟩⟩
theorem OwnF.lower {t : TypeId} {w : World} {B B' : Nat} {v : Value} {hs : List Ver} (h : OwnF t w B v hs) (hB : B' ≤ B) : OwnF t w B' v hs := by
  obtain ⟨cs, h1, h2, h3⟩ := h
  exact ⟨cs, own_lower h1 hB, h2.kept (Nat.le_refl _) fun g _ s => ⟨rfl, Nat.le_trans hB s.1, s.2⟩, h3.kept (Nat.le_refl _) fun g _ s => ⟨rfl, Nat.le_trans hB s.1, s.2⟩⟩
theorem OwnF.step {t : TypeId} {w wm w' : World} {B n m : Nat} {v v' : Value} {hs : List Ver} {cs : List Value} {h : Ver} {X : Option Addr} {c : Nat} (hb : Below w.heap.size w wm)
    (h2 : Cells2 (fun g => B ≤ g ∧ some g ≠ v.ownBlock) w cs hs) (hf : FreeC (fun g => B ≤ g ∧ some g ≠ v.ownBlock) w cs) (hc : h.2.length ≤ c) (hr : Row (fun g => B ≤ g ∧ some g ≠ v.ownBlock) w X (i32s h.2)) (hfx : FreeA (fun g => B ≤ g ∧ some g ≠ v.ownBlock) w X)
    (hown : w'.ownsRow B t 2 v' n (cs ++ [.int .u64 h.1, .slice X h.2.length c])) (hn : n = hs.length + 1) (hgrow : wm.grownBy w' v.ownBlock) (hat : v'.ownBlock = v.ownBlock ∨ v'.ownBlock = some m) (hm : w.heap.size ≤ m) :
    OwnF t w' B v' (hs ++ [h]) := by
  subst hn
  have key : ∀ k, k < w.heap.size → (B ≤ k ∧ some k ≠ v.ownBlock) → w'.heap[k]? = w.heap[k]? ∧ (B ≤ k ∧ some k ≠ v'.ownBlock) := fun k hk s => by
    refine ⟨?_, s.1, ?_⟩
    · rw [hgrow.block k (Nat.lt_of_lt_of_le hk hb.size) s.2, hb.block k hk]
    · rcases hat with e | e
      · rw [e]; exact s.2
      · rw [e]; intro e'; injection e' with e'; omega
  exact ⟨_, by rw [List.length_append, List.length_singleton]; exact hown, (h2.append (Cells2.one h X c hc hr)).kept (Nat.le_trans hb.size hgrow.size) key, (hf.append (FreeC.one hfx)).kept (Nat.le_trans hb.size hgrow.size) key⟩

/-- New versions. -/
def GaveVers (w : World) (hs : List Ver) (e : Ending) (w' : World) : Prop := ∃ v, e = .returned v ∧ OwnF 41 w' w.heap.size v hs ∧ Below w.heap.size w w'

set_option maxHeartbeats 400000 in
theorem list_nil (w : World) : Calls Try.prog 21 #[.pointer none] w fun e w' => GaveVers w [] e w' := by
  go_enter Try.func21, Try.ntmps21
  go_wp2_with fail
  go_ret
  exact ⟨_, rfl, ⟨[], ⟨by simp, .inl ⟨rfl, rfl⟩⟩, Cells2.nil, FreeC.nil⟩, Below.refl _ _⟩

set_option maxRecDepth 100000 in
set_option maxHeartbeats 1000000 in
theorem list_any (K : Nat → Prop) (B b : Nat) (v : Value) (hs : List Ver) (w : World) (L : Chn K w B b v hs) (hlen : hs.length ≤ 1000) (hw : ∀ x ∈ hs, x.2.length ≤ 1000) :
    Calls Try.prog 21 #[.pointer (some ⟨b, 0, none⟩)] w fun e w' => GaveVers w hs e w' := by
  obtain ⟨i0, hi0, hz0, hz1, hz2⟩ := info_parts Try.info41
  have c1 := L.cell
  have hlb := L.lt.1
  obtain ⟨A, ca, rfl, hca, hat⟩ := L.vers
  have HAT := Lib.hid hat
  have HW := Lib.hid hw
  clear L hat hw
  obtain ⟨wm, hmk, hown0, hgr0⟩ := run_make_own (P := Try.prog) w w.heap.size 51 41 i0 _ 2 Try.underlying51 hi0 hz0 hz1 .i64 .i64 hs.length (by rw [hz2]; omega) (by unfold maxLen; omega) (Nat.le_refl _)
  have hbm : Below w.heap.size w wm := ⟨hgr0.os, hgr0.tape, hgr0.output, hgr0.size, fun k hk => hgr0.block k hk (by simp)⟩
  have c1m := (hbm.cell (p := ⟨b, 0, none⟩) hlb).trans c1
  have HOS : Hid (OwnF 41 wm w.heap.size (.slice (some ⟨w.heap.size, 0, none⟩) 0 hs.length) []) := ⟨[], hown0, Cells2.nil, FreeC.nil⟩
  clear hown0 hgr0
  go_enter Try.func21, Try.ntmps21
  go_wp2_with fail
  go_loopw [3, 5, 19] (fun v _ i wr => ∃ k : Nat, k ≤ hs.length ∧ i = .int .i64 k ∧ OwnF 41 wr w.heap.size v (hs.take k) ∧ Below w.heap.size w wr) (fun _ _ i _ => hs.length - (intOf i).toNat)
  case atStart => exact ⟨0, Nat.zero_le _, rfl, by simpa using HOS.out, hbm⟩
  case round =>
    obtain ⟨k, hk, rfl, hown, hbl⟩ := hrel
    by_cases hlt : k < hs.length
    · obtain ⟨ad, rfl, hj1, hadl, g0, Y, cy, g2, hj2, hrow⟩ := (HAT.out.kept hbl.size (fun g hg _ => hbl.block g hg)) k hlt
      have i1 : (k : Int) < (hs.length : Int) := by omega
      have hvl := HW.out _ (List.getElem_mem hlt)
      have HT := Lib.hid (show hs.take (k + 1) = hs.take k ++ [hs[k]] from List.take_succ_eq_append_getElem hlt)
      have HLN := Lib.hid (show (hs.take k).length = k by rw [List.length_take]; omega)
      obtain ⟨wa, hwa⟩ : ∃ x, x = wr.alloc (.cells #[.int .u64 hs[k].1, .slice Y hs[k].2.length cy] 41) := ⟨_, rfl⟩
      have hba : Below w.heap.size w wa := by rw [hwa]; exact hbl.alloc hbl.size _
      have hoa : OwnF 41 wa w.heap.size u3 (hs.take k) := by rw [hwa]; exact hown.below ((Below.refl _ _).alloc (Nat.le_refl _) _)
      have HO := Lib.hid (own_any _ hs[k] Y cy wa (by rw [hwa]; exact hrow.alloc _) hvl)
      generalize hs.take k = os at *
      clear hrow hj1 hj2 hown hbl
      obtain ⟨cs, hcs, hce, hcf⟩ := hoa
      have HG0 : Hid (∀ g, u3.ownBlock = some g → w.heap.size ≤ g ∧ g < wa.heap.size) := fun g hg => own_lt hcs hg
      have HCS := Lib.hid hcs
      have HCE := Lib.hid hce
      have HCF := Lib.hid hcf
      have HBA := Lib.hid hba
      have hbase0 : w.heap.size ≤ wa.heap.size := hba.size
      have hol : os.length ≤ 1000 := by have := HLN.out; omega
      clear hcs hce hcf hba
      go_wp2_with fail
      rw [← hwa]
      refine (HO.out).mono ?_
      rintro e w5 ⟨A5, c5, rfl, hc5, r5, f5, hb5⟩
      have hs5 : wa.heap.size ≤ w5.heap.size := hb5.size
      have hcs5 : w5.ownsRow w.heap.size 41 2 u3 os.length cs := own_below HCS.out hb5
      have h2 : Cells2 (fun g => w.heap.size ≤ g ∧ some g ≠ u3.ownBlock) w5 cs os := HCE.out.kept hs5 fun g hg s => ⟨hb5.block g hg, s⟩
      have h2f : FreeC (fun g => w.heap.size ≤ g ∧ some g ≠ u3.ownBlock) w5 cs := HCF.out.kept hs5 fun g hg s => ⟨hb5.block g hg, s⟩
      have key3 : ∀ g, g < w5.heap.size → wa.heap.size ≤ g → w.heap.size ≤ g ∧ some g ≠ u3.ownBlock := fun g _ hg => ⟨Nat.le_trans hbase0 hg, fun e => by have h4 := (HG0.out g e.symm).2; exact absurd h4 (Nat.not_lt.2 hg)⟩
      have h3 : Row (fun g => w.heap.size ≤ g ∧ some g ≠ u3.ownBlock) w5 A5 (i32s hs[k].2) := r5.mono key3
      have h3f : FreeA (fun g => w.heap.size ≤ g ∧ some g ≠ u3.ownBlock) w5 A5 := f5.mono key3
      have hb5w : Below w.heap.size w w5 := HBA.out.trans (hb5.mono hbase0)
      have HB5 := Lib.hid hb5w
      have HR5 := Lib.hid hcs5
      have HST := fun (w6 : World) (v' : Value) (o : Obj) (ho6 : w6.ownsRow w.heap.size 41 2 v' (os.length + 1) (cs ++ [.int .u64 hs[k].1, .slice A5 hs[k].2.length c5])) (hg6 : (w5.alloc o).grownBy w6 u3.ownBlock) (ha6 : v'.ownBlock = u3.ownBlock ∨ v'.ownBlock = some (w5.heap.size + 1)) => OwnF.step (B := w.heap.size) (v' := v') (h := hs[k]) ((Below.refl _ w5).alloc (Nat.le_refl _) o) h2 h2f hc5 h3 h3f ho6 rfl hg6 ha6 (Nat.le_succ _)
      have HSTEP := Lib.hid HST
      clear HST h2 h3 h2f h3f r5 f5 hb5 hcs5 hwa HO HCS HCE HCF hb5w key3
      generalize hs[k].1 = xi at *
      go_wp2_with (at_builtin; refine wpList_append_lies _ rfl _ _ 51 rfl w.heap.size 41 i0 _ 2 32 Try.underlying51 hi0 hz0 hz1 hz2 rfl (by omega) u3 os.length cs rfl (HR5.out.alloc _) ⟨w5.heap.size, 0, none⟩ 1 1 [.int .u64 xi, .slice A5 hs[k].2.length c5] rfl rfl (World.news_of_block (cs := #[.int .u64 xi, .slice A5 hs[k].2.length c5]) (t := 41) (fr := (0, 0)) (heap_alloc_new w5 _)) (by simp [Value.oneCell']) (by omega) (by unfold maxLen; omega) (by omega) (by simp; omega) (w5.heap.size + 1) (by simp) ?_; intro gg cap w6 hown6 hgrow6 hat6 hlt6)
      have hb6 : Below w.heap.size w w6 := (HB5.out.alloc HB5.out.size _).grown hgrow6 (by simp; omega) (fun g hg => (HG0.out g hg).1)
      have hO6 := HSTEP.out w6 _ _ hown6 hgrow6 (by rcases hat6 with e | e; exact .inl e.symm; exact .inr (by rw [e]; rfl))
      rw [← HT.out] at hO6
      go_roundw
      case rel => exact ⟨k + 1, by omega, by go_num, hO6, hb6⟩
      case measure => simp [intOf]; omega
    · have i1 : ¬ (k : Int) < (hs.length : Int) := by omega
      have HF := Lib.hid (show OwnF 41 wr w.heap.size u3 hs by rw [List.take_of_length_le (by omega)] at hown; exact hown)
      clear hown
      go_wp2_with fail
      go_ret
      exact ⟨_, rfl, HF.out, hbl⟩

end Go.Proofs.Ytphcakhhjjdpiaa
