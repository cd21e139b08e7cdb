/-
  The contract of Firm.
-/
import Derived.Test.YtchedflfinkppaaTrim
namespace Go.Proofs.Ytchedflfinkppaa
open Go.RowKit Go.Maps

def firm1 (E : List Ent) (x : List UInt8) : List Ent := E.map fun e => if e.name = x then { e with firm := e.bs.length } else e
def firmN (E : List Ent) (xs : List ByteArray) : List Ent := xs.foldl (fun E s => firm1 E s.data.toList) E
theorem firmN_succ (E : List Ent) (xs : List ByteArray) (k : Nat) (h : k < xs.length) : firmN E (xs.take (k + 1)) = firm1 (firmN E (xs.take k)) xs[k].data.toList := by
  rw [firmN, List.take_succ_eq_append_getElem h, List.foldl_append]
  rfl
theorem firm1_eq {E : List Ent} {e0 : Ent} (h : E.Pairwise (fun x y => x.name ≠ y.name)) (he : e0 ∈ E) : setE E e0.name e0.val e0.bs e0.bs.length = firm1 E e0.name := by
  refine List.map_congr_left fun e hm => ?_
  split
  · rename_i hn
    obtain rfl := once_eq h hm he hn
    rfl
  · rfl

section
variable (B b mb n : Nat) (D : DataW Unit) (p : Pw) (room : Nat) (E : List Ent)

set_option maxRecDepth 100000 in
set_option maxHeartbeats 1000000 in
theorem firm_ok (S : Nat → Prop) (A : Option Addr) (c : Nat) (ns : List ByteArray) (w : World) (h : Dsk w B b mb n D p room E) (hd : p.spent.down = false) (hr : Row S w A (strs ns)) (hS : ∀ g, g < w.heap.size → S g → ¬ Of b mb E g) (hl : ns.length ≤ 1000000) (hs : ∀ s ∈ ns, s.size ≤ maxLen) (hh : ns.all (hasB D) = true) :
    Calls Try.prog 16 #[.pointer (some ⟨b, 0, none⟩), .slice A ns.length c] w fun e w' => e = .returned (.int .i64 0) ∧ Did w w' B b mb n D p room E (firmN E ns) := by
  have hch := change_any b room mb p w h.blk h.ok
  have he' : p.err = 0 := by simp [Pw.err, hd]
  rw [he'] at hch
  have HC := Lib.hid hch
  have HD := Lib.hid h
  have HS := Lib.hid hS
  have HR := Lib.hid hr
  have HH := Lib.hid hh
  have HZ := Lib.hid hs
  clear hch h he' hd hS hr hh hs
  go_enter Try.func16, Try.ntmps16
  go_wp2_with fail
  refine (HC.out).mono ?_
  rintro e w1 ⟨rfl, h1, h2⟩
  have hD := HD.out.power h1 (Pw.spent_ok HD.out.ok) h2
  have hC0 : DskC w w1 b mb E E := .of_only h2
  have HF : Hid (Did w w1 B b mb n D p room E E) := ⟨hD, hC0⟩
  have hr1 : Row S w1 A (strs ns) := HR.out.kept hC0.size fun g hg s => hC0.block g hg (HS.out g hg s)
  have HHA := Lib.hid (has_any S b room mb n p.spent D A c ns w1 hD.blk hD.map hD.Leads hr1 (by omega) HZ.out)
  rw [HH.out] at HHA
  clear h1 h2 hD hC0 hr1
  go_wp2_with fail
  refine (HHA.out).mono ?_
  rintro e w2 ⟨rfl, hb⟩
  have HF2 : Hid (Did w w2 B b mb n D p room E E) := ⟨HF.out.1.below hb, HF.out.2.trans (.of_only (Only.of_below hb))⟩
  clear hb HHA HC HF
  go_wp2_with fail
  go_loopw [19] (fun i wr => ∃ k : Nat, k ≤ ns.length ∧ i = .int .i64 k ∧ Did w wr B b mb n D p room E (firmN E (ns.take k))) (fun i _ => ns.length - (intOf i).toNat)
  case atStart => exact ⟨0, Nat.zero_le _, rfl, HF2.out⟩
  case round =>
    obtain ⟨k, hk, rfl, hdid⟩ := hrel
    have HI := Lib.hid hdid
    clear hdid
    by_cases hlt : k < ns.length
    · have i1 : (k : Int) < (ns.length : Int) := by omega
      have hrk : Row S wr A (strs ns) := HR.out.kept HI.out.2.size fun g hg s => HI.out.2.block g hg (HS.out g hg s)
      obtain ⟨ad, rfl, _, _, hc⟩ := hrk k (by rw [strs_len]; exact hlt)
      rw [strs_at hlt] at hc
      have hmem : ns[k] ∈ ns := List.getElem_mem hlt
      have hhas : has D (.string ns[k].data.toList) = true := List.all_eq_true.1 HH.out _ hmem
      obtain ⟨e0, he0, hn0⟩ := HI.out.1.all _ hhas
      obtain ⟨_, _, _, _, c4⟩ := HI.out.1.blk.cells
      have hl0 := HI.out.1.leads e0 he0
      rw [hn0] at hl0
      have hrun := look_hit HI.out.1.map (HZ.out _ hmem) hl0
      have HSE := Lib.hid (settle_any B e0.blk e0.firm e0.val e0.bs wr (HI.out.1.file e0 he0))
      have HN := Lib.hid (firmN_succ E ns k hlt)
      have HE0 := Lib.hid he0
      have HN0 := Lib.hid hn0
      clear hrk hhas hl0 hmem he0 hn0
      generalize ns[k] = nk at *
      go_wp2_with fail
      refine (HSE.out).mono ?_
      rintro e w4 ⟨rfl, hf, ho⟩
      have HD4 : Hid (Did w w4 B b mb n D p room E (firmN E (ns.take (k + 1)))) := by
        show Did _ _ _ _ _ _ _ _ _ _ _
        rw [HN.out, ← HN0.out, ← firm1_eq HI.out.1.once HE0.out]
        exact ⟨HI.out.1.one HE0.out hf (ho.add rfl) (Nat.le_trans (setE_sum_le fun e he hn => by rw [once_eq HI.out.1.once he HE0.out hn]; exact Nat.le_refl _) HI.out.1.fits), HI.out.2.trans (.of_add HE0.out (ho.add rfl))⟩
      clear hf ho
      go_wp2_with fail
      go_roundw
      case rel => exact ⟨k + 1, hlt, rfl, HD4.out⟩
      case measure =>
        simp [intOf]
        omega
    · have i1 : ¬ (k : Int) < (ns.length : Int) := by omega
      obtain rfl : k = ns.length := by omega
      have HL : Hid (Did w wr B b mb n D p room E (firmN E ns)) := by
        have := HI.out
        rw [List.take_length] at this
        exact this
      go_wp2_with fail
      go_ret
      exact ⟨rfl, HL.out⟩

set_option maxHeartbeats 400000 in
theorem firm_down (A : Option Addr) (l c : Nat) (w : World) (h : Dsk w B b mb n D p room E) (hd : p.spent.down = true) :
    Calls Try.prog 16 #[.pointer (some ⟨b, 0, none⟩), .slice A l c] w fun e w' => e = .returned (.int .i64 9) ∧ Did w w' B b mb n D p room E E := by
  have hch := change_any b room mb p w h.blk h.ok
  have he : p.err = 9 := by simp [Pw.err, hd]
  rw [he] at hch
  have HC := Lib.hid hch
  have HD := Lib.hid h
  clear hch h he hd
  go_enter Try.func16, Try.ntmps16
  go_wp2_with fail
  refine (HC.out).mono ?_
  rintro e w' ⟨rfl, h1, h2⟩
  have HF : Hid (Did w w' B b mb n D p room E E) := ⟨HD.out.power h1 (Pw.spent_ok HD.out.ok) h2, .of_only h2⟩
  clear h1 h2
  go_wp2_with fail
  go_ret
  exact ⟨rfl, HF.out⟩

set_option maxRecDepth 100000 in
set_option maxHeartbeats 1000000 in
theorem firm_none (S : Nat → Prop) (A : Option Addr) (c : Nat) (ns : List ByteArray) (w : World) (h : Dsk w B b mb n D p room E) (hd : p.spent.down = false) (hr : Row S w A (strs ns)) (hS : ∀ g, g < w.heap.size → S g → ¬ Of b mb E g) (hl : ns.length ≤ 1000000) (hs : ∀ s ∈ ns, s.size ≤ maxLen) (hh : ns.all (hasB D) = false) :
    Calls Try.prog 16 #[.pointer (some ⟨b, 0, none⟩), .slice A ns.length c] w fun e w' => e = .returned (.int .i64 6) ∧ Did w w' B b mb n D p room E E := by
  have hch := change_any b room mb p w h.blk h.ok
  have he' : p.err = 0 := by simp [Pw.err, hd]
  rw [he'] at hch
  have HC := Lib.hid hch
  have HD := Lib.hid h
  have HS := Lib.hid hS
  have HR := Lib.hid hr
  have HH := Lib.hid hh
  have HZ := Lib.hid hs
  clear hch h he' hd hS hr hh hs
  go_enter Try.func16, Try.ntmps16
  go_wp2_with fail
  refine (HC.out).mono ?_
  rintro e w1 ⟨rfl, h1, h2⟩
  have hD := HD.out.power h1 (Pw.spent_ok HD.out.ok) h2
  have hC0 : DskC w w1 b mb E E := .of_only h2
  have HF : Hid (Did w w1 B b mb n D p room E E) := ⟨hD, hC0⟩
  have hr1 : Row S w1 A (strs ns) := HR.out.kept hC0.size fun g hg s => hC0.block g hg (HS.out g hg s)
  have HHA := Lib.hid (has_any S b room mb n p.spent D A c ns w1 hD.blk hD.map hD.Leads hr1 (by omega) HZ.out)
  rw [HH.out] at HHA
  clear h1 h2 hD hC0 hr1
  go_wp2_with fail
  refine (HHA.out).mono ?_
  rintro e w2 ⟨rfl, hb⟩
  have HF2 : Hid (Did w w2 B b mb n D p room E E) := ⟨HF.out.1.below hb, HF.out.2.trans (.of_only (Only.of_below hb))⟩
  clear hb HHA HC HF
  go_wp2_with fail
  go_ret
  exact ⟨rfl, HF2.out⟩

end

end Go.Proofs.Ytchedflfinkppaa
