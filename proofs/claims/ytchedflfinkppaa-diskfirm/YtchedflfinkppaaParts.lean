/-
  Parts: slices of bytes; the contracts of fit and add.
-/
import Derived.Test.YtchedflfinkppaaFile
namespace Go.Proofs.Ytchedflfinkppaa
open Go.RowKit

/-- A slice that reads as texts. -/
def TxtAt (S : Nat → Prop) (w : World) (A : Option Addr) (ts : List (List Int)) : Prop :=
  ∀ j (hj : j < ts.length), ∃ ad X c, A = some ad ∧ S ad.block ∧ ad.block < w.heap.size ∧ w.cell? (ad.add j) = some (.slice X (ts[j]'hj).length c) ∧ (ts[j]'hj).length ≤ c ∧ Row S w X (u8s (ts[j]'hj))
theorem TxtAt.kept {S : Nat → Prop} {w w' : World} {A : Option Addr} {ts : List (List Int)} (h : TxtAt S w A ts) (hs : w.heap.size ≤ w'.heap.size) (hk : ∀ g, g < w.heap.size → S g → w'.heap[g]? = w.heap[g]?) : TxtAt S w' A ts := fun j hj => by
  obtain ⟨ad, X, c, e, s, lt, h0, h1, h2⟩ := h j hj
  exact ⟨ad, X, c, e, s, by omega, (World.cell?_of_block (by rw [block_add]; exact hk _ lt s)).trans h0, h1, h2.kept hs hk⟩
theorem TxtAt.below {S : Nat → Prop} {w w' : World} {A : Option Addr} {ts : List (List Int)} (h : TxtAt S w A ts) (hb : Below w.heap.size w w') : TxtAt S w' A ts := h.kept hb.size fun g hg _ => hb.block g hg
theorem TxtAt.mono {S S' : Nat → Prop} {w : World} {A : Option Addr} {ts : List (List Int)} (h : TxtAt S w A ts) (hS : ∀ g, g < w.heap.size → S g → S' g) : TxtAt S' w A ts := fun j hj => by
  obtain ⟨ad, X, c, e, s, lt, h0, h1, h2⟩ := h j hj
  exact ⟨ad, X, c, e, hS _ lt s, lt, h0, h1, h2.mono hS⟩
theorem flat_take {ts : List (List Int)} {k : Nat} (h : k < ts.length) : (ts.take (k + 1)).flatten = (ts.take k).flatten ++ ts[k] := by
  rw [List.take_succ_eq_append_getElem h, List.flatten_append]; simp
theorem flat_le {ts : List (List Int)} (k : Nat) : (ts.take k).flatten.length ≤ ts.flatten.length := by
  have h : ts.flatten = (ts.take k).flatten ++ (ts.drop k).flatten := by rw [← List.flatten_append, List.take_append_drop]
  rw [h, List.length_append]
  omega

set_option maxRecDepth 100000 in
set_option maxHeartbeats 1000000 in
theorem fit_any (S : Nat → Prop) (free : Nat) (A : Option Addr) (c : Nat) (ts : List (List Int)) (w : World) (h : TxtAt S w A ts) (hf : free ≤ 2000000) (hl : ts.length ≤ 9223372036854775807) (hv : ∀ t ∈ ts, t.length ≤ 9223372036854775807) :
    Calls Try.prog 49 #[.int .i64 (free : Int), .slice A ts.length c] w fun e w' => e = .returned (.bool (decide (ts.flatten.length ≤ free))) ∧ w = w' := by
  obtain ⟨tot, htot⟩ : ∃ x, x = ts.flatten.length := ⟨_, rfl⟩
  rw [← htot]
  have HTOT := Lib.hid htot
  clear htot
  go_enter Try.func49, Try.ntmps49
  go_wp2_with fail
  go_loopw [0, 9] (fun fr i wr => ∃ k : Nat, k ≤ ts.length ∧ i = .int .i64 k ∧ (ts.take k).flatten.length ≤ free ∧ fr = .int .i64 ((free - (ts.take k).flatten.length : Nat) : Int) ∧ wr = w) (fun _ i _ => ts.length - (intOf i).toNat)
  case atStart => exact ⟨0, Nat.zero_le _, rfl, by simp, by simp, rfl⟩
  case round =>
    obtain ⟨k, hk, rfl, hle, rfl, rfl⟩ := hrel
    by_cases hlt : k < ts.length
    · have i1 : (k : Int) < (ts.length : Int) := by omega
      obtain ⟨ad, X, cx, rfl, _, _, g0, _, _⟩ := h k hlt
      have hvk := hv _ (List.getElem_mem hlt)
      have HST := Lib.hid (show (ts.take (k + 1)).flatten.length = (ts.take k).flatten.length + ts[k].length by rw [flat_take hlt, List.length_append])
      have HFL := Lib.hid (flat_le (ts := ts) (k + 1))
      generalize (ts.take k).flatten.length = fl at *
      obtain ⟨rest, hrest⟩ : ∃ x : Nat, x = free - fl := ⟨_, rfl⟩
      have HR := Lib.hid hrest
      have hr2 : rest ≤ 2000000 := by omega
      rw [← hrest]
      clear hrest h
      by_cases hgt : rest < ts[k].length
      · have i2 : (rest : Int) < (ts[k].length : Int) := by omega
        have HN : Hid (decide (tot ≤ free) = false) := by
          have h0 := HTOT.out
          have h1 := HST.out
          have h2 := HFL.out
          have h3 := HR.out
          show _ = _
          simp only [decide_eq_false_iff_not]
          omega
        generalize ts[k].length = tl at *
        go_wp2_with fail
        go_ret
        exact ⟨by rw [HN.out]; rfl, rfl⟩
      · have i2 : ¬ (rest : Int) < (ts[k].length : Int) := by omega
        have i3 : IntKind.i64.wrap ((rest : Int) - (ts[k].length : Int)) = (rest : Int) - (ts[k].length : Int) := by rw [IntKind.wrap_i64]; omega
        have HV : Hid ((rest : Int) - (ts[k].length : Int) = ((free - (ts.take (k + 1)).flatten.length : Nat) : Int)) := by
          have h1 := HST.out
          have h3 := HR.out
          show _ = _
          omega
        have HL : Hid ((ts.take (k + 1)).flatten.length ≤ free) := by
          have h1 := HST.out
          have h3 := HR.out
          show _ ≤ _
          omega
        clear HST HFL
        generalize ts[k].length = tl at *
        go_wp2_with fail
        exact ⟨⟨k + 1, by omega, by go_num, HL.out, by rw [← HV.out], by first | rfl | trivial⟩, by simp [intOf]; omega⟩
    · have i1 : ¬ (k : Int) < (ts.length : Int) := by omega
      have HN : Hid (decide (tot ≤ free) = true) := by
        rw [List.take_of_length_le (by omega), ← HTOT.out] at hle
        exact decide_eq_true hle
      generalize ((free - (ts.take k).flatten.length : Nat) : Int) = fr at *
      go_wp2_with fail
      go_ret
      exact ⟨by rw [HN.out]; rfl, rfl⟩

/-- What adding leaves: nothing has turned but the file's block and its row. -/
structure AddC (f : Nat) (w w' : World) (v v' : Value) : Prop where
  os : w'.os = w.os
  tape : w'.tape = w.tape
  output : w'.output = w.output
  size : w.heap.size ≤ w'.heap.size
  block : ∀ g, g < w.heap.size → g ≠ f → some g ≠ v.ownBlock → w'.heap[g]? = w.heap[g]?
  new : v'.ownBlock = v.ownBlock ∨ ∃ g, v'.ownBlock = some g ∧ w.heap.size ≤ g
theorem AddC.refl (f : Nat) (w : World) (v : Value) : AddC f w w v v := ⟨rfl, rfl, rfl, Nat.le_refl _, fun _ _ _ _ => rfl, .inl rfl⟩
theorem AddC.trans {f : Nat} {w w' w'' : World} {v v' v'' : Value} (h : AddC f w w' v v') (k : AddC f w' w'' v' v'') : AddC f w w'' v v'' := by
  refine ⟨k.os.trans h.os, k.tape.trans h.tape, k.output.trans h.output, Nat.le_trans h.size k.size, fun g hg h1 h2 => ?_, ?_⟩
  · rw [k.block g (Nat.lt_of_lt_of_le hg h.size) h1 ?_, h.block g hg h1 h2]
    rcases h.new with e | ⟨g', e, hg'⟩
    · rw [e]; exact h2
    · rw [e]; intro e'; injection e' with e'; omega
  · rcases k.new with e | ⟨g', e, hg'⟩
    · rcases h.new with e2 | ⟨g2, e2, hg2⟩
      · exact .inl (e.trans e2)
      · exact .inr ⟨g2, e.trans e2, hg2⟩
    · exact .inr ⟨g', e, Nat.le_trans h.size hg'⟩

theorem Try.info5 : (Try.prog.info? 5).map (fun i => (i.zero, i.size, i.bytes)) = some (some (.int .u8 0), 1, 1) := by kernel_rfl

set_option maxRecDepth 100000 in
set_option maxHeartbeats 1000000 in
theorem add_any (S : Nat → Prop) (B f firm : Nat) (v : Value) (bs : List Int) (A : Option Addr) (c : Nat) (ts : List (List Int)) (w : World) (hF : Fil w B f v bs firm) (hB : B ≤ w.heap.size) (hT : TxtAt S w A ts) (hS : ∀ g, g < w.heap.size → S g → g ≠ f ∧ some g ≠ v.ownBlock) (hl : ts.length ≤ 1000000) (hn : bs.length + ts.flatten.length ≤ 70368744177664) :
    Calls Try.prog 51 #[.pointer (some ⟨f, 0, none⟩), .slice A ts.length c] w fun e w' => e = .returned (.tuple #[]) ∧ ∃ v', Fil w' B f v' (bs ++ ts.flatten) firm ∧ AddC f w w' v v' := by
  obtain ⟨i0, hi0, hz0, hz1, hz2⟩ := info_parts Try.info5
  have HT : Hid (TxtAt (fun g => g < w.heap.size ∧ S g) w A ts) := hT.mono fun g hg s => ⟨hg, s⟩
  have HS := Lib.hid hS
  have HF0 := Lib.hid hF
  clear hT hS hF
  go_enter Try.func51, Try.ntmps51
  go_wp2_with fail
  go_loopw [8] (fun i wr => ∃ (k : Nat) (v' : Value), k ≤ ts.length ∧ i = .int .i64 k ∧ Fil wr B f v' (bs ++ (ts.take k).flatten) firm ∧ AddC f w wr v v') (fun i _ => ts.length - (intOf i).toNat)
  case atStart => exact ⟨0, v, Nat.zero_le _, rfl, by simpa using HF0.out, AddC.refl _ _ _⟩
  case round =>
    obtain ⟨k, v', hk, rfl, hF, hC⟩ := hrel
    by_cases hlt : k < ts.length
    · have i1 : (k : Int) < (ts.length : Int) := by omega
      have hTk := HT.out.kept (w' := wr) hC.size fun g hg s => by
        obtain ⟨s1, s2⟩ := HS.out g s.1 s.2
        exact hC.block g hg s1 s2
      obtain ⟨ad, X, cx, rfl, _, _, g0, _, hrow⟩ := hTk k hlt
      have HFT := Lib.hid (flat_take hlt)
      have hfl := flat_le (ts := ts) (k + 1)
      rw [flat_take hlt, List.length_append] at hfl
      have c0 := two_cell0 hF.blk
      have f0 := two_free (k := 0) hF.blk
      have hrw := hF.row
      have hoff := hF.off
      have hblk := hF.blk
      have hle := hF.le
      have hzC := hC.size
      obtain ⟨bk, hbk⟩ : ∃ x, x = bs ++ (ts.take k).flatten := ⟨_, rfl⟩
      rw [← hbk] at hrw hle
      have hbl : bk.length = bs.length + (ts.take k).flatten.length := by rw [hbk, List.length_append]
      have hfin : ∀ (A2 : Option Addr) (c2 : Nat) (w2 : World), w2.ownsRow B 5 1 (.slice A2 (bk.length + ts[k].length) c2) (bk.length + ts[k].length) (u8s bk ++ u8s ts[k]) → wr.grownBy w2 v'.ownBlock → ((Value.slice A2 (bk.length + ts[k].length) c2).ownBlock = v'.ownBlock ∨ (Value.slice A2 (bk.length + ts[k].length) c2).ownBlock = some wr.heap.size) →
          w2.cell? ⟨f, 0, none⟩ = some v' ∧ w2.frozen? ⟨f, 0, none⟩ = false ∧ Fil (w2.setCell ⟨f, 0, none⟩ (.slice A2 (bk.length + ts[k].length) c2)) B f (.slice A2 (bk.length + ts[k].length) c2) (bs ++ (ts.take (k + 1)).flatten) firm ∧ AddC f w (w2.setCell ⟨f, 0, none⟩ (.slice A2 (bk.length + ts[k].length) c2)) v (.slice A2 (bk.length + ts[k].length) c2) := fun A2 c2 w2 ho hg ha => by
        have hb2 : w2.heap[f]? = some (.cells #[v', .int .i64 (firm : Int)] 92 (0, 0)) := (hg.block f (lt_of_block hblk) (fun e => hoff e.symm)).trans hblk
        have e1 : bs ++ (ts.take (k + 1)).flatten = bk ++ ts[k] := by rw [HFT.out, hbk, List.append_assoc]
        have e2 : u8s bk ++ u8s ts[k] = u8s (bk ++ ts[k]) := by simp [u8s]
        have hoff2 : (Value.slice A2 (bk.length + ts[k].length) c2).ownBlock ≠ some f := fun e => by
          rcases ha with ha | ha
          · exact hoff (ha.symm.trans e)
          · rw [ha] at e; injection e with e; have := lt_of_block hblk; omega
        refine ⟨two_cell0 hb2, two_free hb2, ?_, hC.trans ⟨hg.os, hg.tape, hg.output, by rw [set_size]; exact hg.size, fun g hgl h1 h2 => (Below.heap_setCell _ _ _ _ h1).trans (hg.block g hgl h2), ?_⟩⟩
        · rw [e1]
          refine ⟨two_set0 hb2, ?_, by rw [List.length_append]; omega⟩
          rw [List.length_append, ← e2]
          exact ownsRow_setCell_other ho (by simpa using hoff2) _
        · rcases ha with ha | ha
          · exact .inl ha
          · exact .inr ⟨_, ha, Nat.le_refl _⟩
      have HFIN := Lib.hid hfin
      have HRW := Lib.hid hrw
      have HROW := Lib.hid hrow
      have HB : Hid (B ≤ wr.heap.size) := by show _ ≤ _; omega
      have hone := u8s_one ts[k]
      have HONE := Lib.hid hone
      have HUL := Lib.hid (u8s_len ts[k])
      have hb1 : bk.length + ts[k].length ≤ 70368744177664 := by omega
      clear hfin hrw hrow hF hC hTk hone hoff hblk hle hbk hbl hfl
      generalize hgl : ts[k].length = tl at *
      generalize u8s ts[k] = tk at *
      generalize bk.length = bl at *
      clear hgl
      go_wp2_with (at_builtin; refine wpList_append_row _ rfl (.tmp 16) (.tmp 17) 41 rfl B 5 i0 (.int .u8 0) 1 Try.underlying41 hi0 hz0 hz1 hz2 rfl v' bl (u8s bk) rfl HRW.out _ X tl cx tk rfl HUL.out HROW.out HONE.out (by unfold maxLen; omega) (by omega) HB.out ?_; intro A2 c2 w2 ho hg ha; obtain ⟨x0, x1, x2, x3⟩ := HFIN.out A2 c2 w2 ho hg ha; have HX2 := Lib.hid x2; have HX3 := Lib.hid x3; clear x2 x3 ho hg ha)
      exact ⟨⟨k + 1, _, by omega, by go_num, HX2.out, HX3.out⟩, by simp [intOf]; omega⟩
    · have i1 : ¬ (k : Int) < (ts.length : Int) := by omega
      have HFF : Hid (Fil wr B f v' (bs ++ ts.flatten) firm) := by rw [List.take_of_length_le (by omega)] at hF; exact hF
      clear hF
      go_wp2_with fail
      go_end0
      exact ⟨rfl, v', HFF.out, hC⟩

end Go.Proofs.Ytchedflfinkppaa
