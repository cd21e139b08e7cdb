/-
  The contract of Drop.
-/
import Derived.Test.YtchedflfinkppaaDsk345
namespace Go.Proofs.Ytchedflfinkppaa
open Go.RowKit Go.Maps Go.WideMaps

def dropN (E : List Ent) (xs : List ByteArray) : List Ent := xs.foldl (fun E s => dropE E s.data.toList) E
def delN (D : DataW Unit) (xs : List ByteArray) : DataW Unit := xs.foldl (fun D s => D.del (.string s.data.toList)) D
theorem dropN_succ (E : List Ent) (xs : List ByteArray) (k : Nat) (h : k < xs.length) : dropN E (xs.take (k + 1)) = dropE (dropN E (xs.take k)) xs[k].data.toList := by
  rw [dropN, List.take_succ_eq_append_getElem h, List.foldl_append]
  rfl
theorem delN_succ (D : DataW Unit) (xs : List ByteArray) (k : Nat) (h : k < xs.length) : delN D (xs.take (k + 1)) = (delN D (xs.take k)).del (.string xs[k].data.toList) := by
  rw [delN, List.take_succ_eq_append_getElem h, List.foldl_append]
  rfl

section
variable (B b mb n : Nat) (D : DataW Unit) (p : Pw) (room : Nat) (E : List Ent)

set_option maxRecDepth 100000 in
set_option maxHeartbeats 1000000 in
theorem drop_ok (S : Nat → Prop) (A : Option Addr) (c : Nat) (ns : List ByteArray) (w : World) (h : Dsk w B b mb n D p room E) (hd : p.spent.down = false) (hr : Row S w A (strs ns)) (hS : ∀ g, g < w.heap.size → S g → ¬ Of b mb E g) (hl : ns.length ≤ 1000000) (hs : ∀ s ∈ ns, s.size ≤ maxLen) (hh : ns.all (hasB D) = true) :
    Calls Try.prog 28 #[.pointer (some ⟨b, 0, none⟩), .slice A ns.length c] w fun e w' => e = .returned (.int .i64 0) ∧ Did w w' B b mb n (delN D ns) p room E (dropN E ns) := by
  have hch := change_any b room mb p w h.blk h.ok
  have he' : p.err = 0 := by simp [Pw.err, hd]
  rw [he'] at hch
  have HC := Lib.hid hch
  have HD := Lib.hid h
  have HS := Lib.hid hS
  have HR := Lib.hid hr
  have HH := Lib.hid hh
  have HZ := Lib.hid hs
  clear hch h he' hd hS hr hh hs
  go_enter Try.func28, Try.ntmps28
  go_wp2_with fail
  refine (HC.out).mono ?_
  rintro e w1 ⟨rfl, h1, h2⟩
  have hD := HD.out.power h1 (Pw.spent_ok HD.out.ok) h2
  have hC0 : DskC w w1 b mb E E := .of_only h2
  have HF : Hid (Did w w1 B b mb n D p room E E) := ⟨hD, hC0⟩
  have hr1 : Row S w1 A (strs ns) := HR.out.kept hC0.size fun g hg s => hC0.block g hg (HS.out g hg s)
  have HHA := Lib.hid (has_any S b room mb n p.spent D A c ns w1 hD.blk hD.map hD.Leads hr1 (by omega) HZ.out)
  rw [HH.out] at HHA
  clear h1 h2 hD hC0 hr1
  go_wp2_with fail
  refine (HHA.out).mono ?_
  rintro e w2 ⟨rfl, hb⟩
  have HF2 : Hid (Did w w2 B b mb n D p room E E) := ⟨HF.out.1.below hb, HF.out.2.trans (.of_only (Only.of_below hb))⟩
  clear hb HHA HC HF
  go_wp2_with fail
  go_loopw [19] (fun i wr => ∃ k : Nat, k ≤ ns.length ∧ i = .int .i64 k ∧ Did w wr B b mb n (delN D (ns.take k)) p room E (dropN E (ns.take k))) (fun i _ => ns.length - (intOf i).toNat)
  case atStart => exact ⟨0, Nat.zero_le _, rfl, HF2.out⟩
  case round =>
    obtain ⟨k, hk, rfl, hdid⟩ := hrel
    have HI := Lib.hid hdid
    clear hdid
    by_cases hlt : k < ns.length
    · have i1 : (k : Int) < (ns.length : Int) := by omega
      have hrk : Row S wr A (strs ns) := HR.out.kept HI.out.2.size fun g hg s => HI.out.2.block g hg (HS.out g hg s)
      obtain ⟨ad, rfl, _, _, hc⟩ := hrk k (by rw [strs_len]; exact hlt)
      rw [strs_at hlt] at hc
      have hmem : ns[k] ∈ ns := List.getElem_mem hlt
      have hz := HZ.out _ hmem
      obtain ⟨_, _, _, _, c4⟩ := HI.out.1.blk.cells
      have hN := dropN_succ E ns k hlt
      have hN2 := delN_succ D ns k hlt
      have HN := Lib.hid hN
      have HN2 := Lib.hid hN2
      clear hrk hmem hN hN2
      generalize ns[k] = nk at *
      go_wp2_with (at_delete; refine wpList_delete_own _ rfl _ _ 65 9 rfl 87 law9 Try.underlying65 _ mb n _ rfl HI.out.1.map _ _ rfl (keyOf_string_mk Try.underlying9 hz) ?_; intro w4 hown4 hturn4)
      have HD4 : Hid (Did w w4 B b mb n (delN D (ns.take (k + 1))) p room E (dropN E (ns.take (k + 1)))) := by
        show Did _ _ _ _ _ _ _ _ _ _ _
        rw [HN.out, HN2.out]
        obtain ⟨q1, q2⟩ := HI.out.1.drop nk.data.toList hown4 hturn4
        exact ⟨q1, HI.out.2.trans q2⟩
      clear hown4 hturn4
      go_wp2_with fail
      go_roundw
      case rel => exact ⟨k + 1, hlt, rfl, HD4.out⟩
      case measure =>
        simp [intOf]
        omega
    · have i1 : ¬ (k : Int) < (ns.length : Int) := by omega
      obtain rfl : k = ns.length := by omega
      have HL : Hid (Did w wr B b mb n (delN D ns) p room E (dropN E ns)) := by
        have := HI.out
        rw [List.take_length] at this
        exact this
      go_wp2_with fail
      go_ret
      exact ⟨rfl, HL.out⟩

set_option maxHeartbeats 400000 in
theorem drop_down (A : Option Addr) (l c : Nat) (w : World) (h : Dsk w B b mb n D p room E) (hd : p.spent.down = true) :
    Calls Try.prog 28 #[.pointer (some ⟨b, 0, none⟩), .slice A l c] w fun e w' => e = .returned (.int .i64 9) ∧ Did w w' B b mb n D p room E E := by
  have hch := change_any b room mb p w h.blk h.ok
  have he : p.err = 9 := by simp [Pw.err, hd]
  rw [he] at hch
  have HC := Lib.hid hch
  have HD := Lib.hid h
  clear hch h he hd
  go_enter Try.func28, Try.ntmps28
  go_wp2_with fail
  refine (HC.out).mono ?_
  rintro e w' ⟨rfl, h1, h2⟩
  have HF : Hid (Did w w' B b mb n D p room E E) := ⟨HD.out.power h1 (Pw.spent_ok HD.out.ok) h2, .of_only h2⟩
  clear h1 h2
  go_wp2_with fail
  go_ret
  exact ⟨rfl, HF.out⟩

set_option maxRecDepth 100000 in
set_option maxHeartbeats 1000000 in
theorem drop_none (S : Nat → Prop) (A : Option Addr) (c : Nat) (ns : List ByteArray) (w : World) (h : Dsk w B b mb n D p room E) (hd : p.spent.down = false) (hr : Row S w A (strs ns)) (hS : ∀ g, g < w.heap.size → S g → ¬ Of b mb E g) (hl : ns.length ≤ 1000000) (hs : ∀ s ∈ ns, s.size ≤ maxLen) (hh : ns.all (hasB D) = false) :
    Calls Try.prog 28 #[.pointer (some ⟨b, 0, none⟩), .slice A ns.length c] w fun e w' => e = .returned (.int .i64 6) ∧ Did w w' B b mb n D p room E E := by
  have hch := change_any b room mb p w h.blk h.ok
  have he' : p.err = 0 := by simp [Pw.err, hd]
  rw [he'] at hch
  have HC := Lib.hid hch
  have HD := Lib.hid h
  have HS := Lib.hid hS
  have HR := Lib.hid hr
  have HH := Lib.hid hh
  have HZ := Lib.hid hs
  clear hch h he' hd hS hr hh hs
  go_enter Try.func28, Try.ntmps28
  go_wp2_with fail
  refine (HC.out).mono ?_
  rintro e w1 ⟨rfl, h1, h2⟩
  have hD := HD.out.power h1 (Pw.spent_ok HD.out.ok) h2
  have hC0 : DskC w w1 b mb E E := .of_only h2
  have HF : Hid (Did w w1 B b mb n D p room E E) := ⟨hD, hC0⟩
  have hr1 : Row S w1 A (strs ns) := HR.out.kept hC0.size fun g hg s => hC0.block g hg (HS.out g hg s)
  have HHA := Lib.hid (has_any S b room mb n p.spent D A c ns w1 hD.blk hD.map hD.Leads hr1 (by omega) HZ.out)
  rw [HH.out] at HHA
  clear h1 h2 hD hC0 hr1
  go_wp2_with fail
  refine (HHA.out).mono ?_
  rintro e w2 ⟨rfl, hb⟩
  have HF2 : Hid (Did w w2 B b mb n D p room E E) := ⟨HF.out.1.below hb, HF.out.2.trans (.of_only (Only.of_below hb))⟩
  clear hb HHA HC HF
  go_wp2_with fail
  go_ret
  exact ⟨rfl, HF2.out⟩

end

end Go.Proofs.Ytchedflfinkppaa
