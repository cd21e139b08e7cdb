/-
  The contract of Swap.
-/
import Derived.Test.YtchedflfinkppaaWriA
namespace Go.Proofs.Ytchedflfinkppaa
open Go.RowKit Go.Maps Go.WideMaps

theorem DskC.put2 {w w5 w6 : World} {b mb : Nat} {E E1 : List Ent} {e0 : Ent} {x : List UInt8} (h : DskC w w5 b mb E E1) (ht : w5.mapTurned w6 mb) (h0 : ∀ g, g = e0.blk ∨ e0.val.ownBlock = some g → Of b mb E g ∨ w.heap.size ≤ g) : DskC w w6 b mb E (e0 :: dropE E1 x) := by
  have hg := ht.grown
  refine ⟨hg.os.trans h.os, hg.tape.trans h.tape, hg.output.trans h.output, Nat.le_trans h.size hg.size, fun g hl hn => ?_, ?_⟩
  · rw [hg.block g (Nat.lt_of_lt_of_le hl h.size) (fun e => hn (.inr (.inl (by injection e))))]
    exact h.block g hl hn
  · intro g hg'
    rcases hg' with hg' | hg' | ⟨e, he, hg'⟩
    · exact .inl (.inl hg')
    · exact .inl (.inr (.inl hg'))
    · rcases List.mem_cons.1 he with rfl | he
      · exact h0 g hg'
      · exact h.new g (.inr (.inr ⟨e, (mem_dropE.1 he).1, hg'⟩))
theorem dropE_setE (E : List Ent) (x : List UInt8) (v : Value) (bs : List Int) (firm : Nat) : dropE (setE E x v bs firm) x = dropE E x := by
  induction E with
  | nil => rfl
  | cons e E ih =>
    simp only [dropE, setE, List.map_cons, List.filter_cons] at ih ⊢
    by_cases h : e.name = x
    · rw [if_pos h]
      simp only [h, ne_eq, not_true_eq_false, decide_false, Bool.false_eq_true, if_false]
      exact ih
    · rw [if_neg h]
      simp only [h, ne_eq, not_false_eq_true, decide_true, if_true]
      exact congrArg _ ih

theorem dropE_not {E : List Ent} {x : List UInt8} (h : ∀ e ∈ E, e.name ≠ x) : dropE E x = E := List.filter_eq_self.2 fun e he => by simpa using h e he
/-- how many bytes there are without one file -/
theorem dropE_one : ∀ {E : List Ent}, E.Pairwise (fun x y => x.name ≠ y.name) → ∀ {e0 : Ent} {x : List UInt8}, e0 ∈ E → e0.name = x → ((dropE E x).map fun e => e.bs.length).sum + e0.bs.length = (E.map fun e => e.bs.length).sum
  | [], _, _, _, h, _ => by cases h
  | e :: E, hp, e0, x, he, hx => by
    obtain ⟨h1, h2⟩ := List.pairwise_cons.1 hp
    rcases List.mem_cons.1 he with rfl | he'
    · have hs := dropE_not (E := E) (x := x) fun e' he' hn => h1 e' he' (hx.trans hn.symm)
      rw [show dropE (e0 :: E) x = dropE E x by simp [dropE, hx], hs]
      simp only [List.map_cons, List.sum_cons]
      omega
    · have hn : e.name ≠ x := fun hn => h1 e0 he' (hn.trans hx.symm)
      have ih := dropE_one h2 he' hx
      rw [show dropE (e :: E) x = e :: dropE E x by simp [dropE, hn]]
      simp only [List.map_cons, List.sum_cons]
      omega

section
variable (B b mb n : Nat) (D : DataW Unit) (p : Pw) (room : Nat) (E : List Ent) (s t : ByteArray)

set_option maxHeartbeats 400000 in
theorem swap_down (w : World) (h : Dsk w B b mb n D p room E) (hd : p.spent.down = true) :
    Calls Try.prog 26 #[.pointer (some ⟨b, 0, none⟩), .string s, .string t] w fun e w' => e = .returned (.int .i64 9) ∧ Did w w' B b mb n D p room E E := by
  have hch := change_any b room mb p w h.blk h.ok
  have he : p.err = 9 := by simp [Pw.err, hd]
  rw [he] at hch
  have HC := Lib.hid hch
  have HD := Lib.hid h
  clear hch h he hd
  go_enter Try.func26, Try.ntmps26
  go_wp2_with fail
  refine (HC.out).mono ?_
  rintro e w' ⟨rfl, h1, h2⟩
  have HF : Hid (Did w w' B b mb n D p room E E) := ⟨HD.out.power h1 (Pw.spent_ok HD.out.ok) h2, .of_only h2⟩
  clear h1 h2
  go_wp2_with fail
  go_ret
  exact ⟨rfl, HF.out⟩

set_option maxHeartbeats 400000 in
theorem swap_form (w : World) (h : Dsk w B b mb n D p room E) (hd : p.spent.down = false) (ht : t.size ≤ maxLen) (hn : ¬ IsName t) :
    Calls Try.prog 26 #[.pointer (some ⟨b, 0, none⟩), .string s, .string t] w fun e w' => e = .returned (.int .i64 4) ∧ Did w w' B b mb n D p room E E := by
  have hch := change_any b room mb p w h.blk h.ok
  have he : p.err = 0 := by simp [Pw.err, hd]
  rw [he] at hch
  have HC := Lib.hid hch
  have HD := Lib.hid h
  have HNB := Lib.hid (nameB_no hn)
  clear hch h he hd hn
  go_enter Try.func26, Try.ntmps26
  go_wp2_with fail
  refine (HC.out).mono ?_
  rintro e w1 ⟨rfl, h1, h2⟩
  have HF : Hid (Did w w1 B b mb n D p room E E) := ⟨HD.out.power h1 (Pw.spent_ok HD.out.ok) h2, .of_only h2⟩
  have HI := Lib.hid (isName_any t w1 ht)
  rw [HNB.out] at HI
  clear h1 h2
  go_wp2_with fail
  refine (HI.out).mono ?_
  rintro e w2 ⟨rfl, hb⟩
  have HF2 : Hid (Did w w2 B b mb n D p room E E) := ⟨HF.out.1.below hb, HF.out.2.trans (.of_only (Only.of_below hb))⟩
  clear hb
  go_wp2_with fail
  go_ret
  exact ⟨rfl, HF2.out⟩

set_option maxRecDepth 100000 in
set_option maxHeartbeats 1000000 in
theorem swap_none (w : World) (h : Dsk w B b mb n D p room E) (hd : p.spent.down = false) (ht : t.size ≤ maxLen) (hn : IsName t) (hs : s.size ≤ maxLen) (hx : ∀ e ∈ E, e.name ≠ s.data.toList) :
    Calls Try.prog 26 #[.pointer (some ⟨b, 0, none⟩), .string s, .string t] w fun e w' => e = .returned (.int .i64 6) ∧ Did w w' B b mb n D p room E E := by
  have hch := change_any b room mb p w h.blk h.ok
  have he : p.err = 0 := by simp [Pw.err, hd]
  rw [he] at hch
  have HC := Lib.hid hch
  have HD := Lib.hid h
  have HNB := Lib.hid (nameB_yes hn)
  have HX := Lib.hid hx
  clear hch h he hd hn hx
  go_enter Try.func26, Try.ntmps26
  go_wp2_with fail
  refine (HC.out).mono ?_
  rintro e w1 ⟨rfl, h1, h2⟩
  have HF : Hid (Did w w1 B b mb n D p room E E) := ⟨HD.out.power h1 (Pw.spent_ok HD.out.ok) h2, .of_only h2⟩
  have HI := Lib.hid (isName_any t w1 ht)
  rw [HNB.out] at HI
  clear h1 h2
  go_wp2_with fail
  refine (HI.out).mono ?_
  rintro e w2 ⟨rfl, hb⟩
  have HF2 : Hid (Did w w2 B b mb n D p room E E) := ⟨HF.out.1.below hb, HF.out.2.trans (.of_only (Only.of_below hb))⟩
  obtain ⟨_, _, _, _, c4⟩ := HF2.out.1.blk.cells
  have hrun := look_miss HF2.out.1.map hs (HF2.out.1.hasNot HX.out)
  clear hb
  go_wp2_with fail
  go_ret
  exact ⟨rfl, HF2.out⟩

set_option maxRecDepth 100000 in
set_option maxHeartbeats 2000000 in
theorem swap_ok (e0 : Ent) (w : World) (h : Dsk w B b mb n D p room E) (hd : p.spent.down = false) (ht : t.size ≤ maxLen) (hn : IsName t) (hs : s.size ≤ maxLen) (he0 : e0 ∈ E) (hn0 : e0.name = s.data.toList) (hnn : n ≤ 1000000) :
    Calls Try.prog 26 #[.pointer (some ⟨b, 0, none⟩), .string s, .string t] w fun e w' => e = .returned (.int .i64 0) ∧ ∃ v D', Did w w' B b mb (n + 1) D' p room E (⟨t.data.toList, e0.blk, v, e0.bs.take e0.firm, e0.firm⟩ :: dropE (dropE E s.data.toList) t.data.toList) := by
  have hch := change_any b room mb p w h.blk h.ok
  have he : p.err = 0 := by simp [Pw.err, hd]
  rw [he] at hch
  have HC := Lib.hid hch
  have HD := Lib.hid h
  have HNB := Lib.hid (nameB_yes hn)
  have H8 := Lib.hid hn.2.1
  have HE0 := Lib.hid he0
  have HN0 := Lib.hid hn0
  have HNN := Lib.hid hnn
  clear hch h he hd hn he0 hn0 hnn
  go_enter Try.func26, Try.ntmps26
  go_wp2_with fail
  refine (HC.out).mono ?_
  rintro e w1 ⟨rfl, h1, h2⟩
  have HF : Hid (Did w w1 B b mb n D p room E E) := ⟨HD.out.power h1 (Pw.spent_ok HD.out.ok) h2, .of_only h2⟩
  have HI := Lib.hid (isName_any t w1 ht)
  rw [HNB.out] at HI
  clear h1 h2
  go_wp2_with fail
  refine (HI.out).mono ?_
  rintro e w2 ⟨rfl, hb⟩
  have HF2 : Hid (Did w w2 B b mb n D p room E E) := ⟨HF.out.1.below hb, HF.out.2.trans (.of_only (Only.of_below hb))⟩
  obtain ⟨_, _, _, _, c4⟩ := HF2.out.1.blk.cells
  have hl0 := HF2.out.1.leads e0 HE0.out
  rw [HN0.out] at hl0
  have hrun := look_hit HF2.out.1.map hs hl0
  have hFe := HF2.out.1.file e0 HE0.out
  have c1 := two_cell1 hFe.blk
  have HCU := Lib.hid (cut_any B e0.blk e0.firm e0.firm e0.val e0.bs w2 hFe hFe.le)
  rw [Nat.min_self] at HCU
  have HRF : Hid (∀ w3 v', Fil w3 B e0.blk v' (e0.bs.take e0.firm) e0.firm → v'.ownBlock = e0.val.ownBlock → Only e0.blk w2 w3 → Did w w3 B b mb n D p room E (setE E s.data.toList v' (e0.bs.take e0.firm) e0.firm)) := fun w3 v' hf' ho' hy' => by
    rw [← HN0.out]
    exact ⟨HF2.out.1.one HE0.out hf' (hy'.add ho') (Nat.le_trans (setE_sum_le fun e he hn => by rw [once_eq HF2.out.1.once he HE0.out hn, List.length_take]; omega) HF2.out.1.fits), HF2.out.2.trans (.of_add HE0.out (hy'.add ho'))⟩
  clear hb hl0 hFe
  go_wp2_with fail
  refine (HCU.out).mono ?_
  rintro e w3 ⟨rfl, v', hf3, ho3, hy3⟩
  have HD3 := Lib.hid (HRF.out w3 v' hf3 ho3 hy3)
  have HF3 := Lib.hid hf3
  have HO3 := Lib.hid ho3
  obtain ⟨_, _, _, _, d4⟩ := HD3.out.1.blk.cells
  clear hf3 ho3 hy3 HRF
  go_wp2_with (at_delete; refine wpList_delete_own _ rfl _ _ 65 9 rfl 87 law9 Try.underlying65 _ mb n _ rfl HD3.out.1.map _ _ rfl (keyOf_string_mk Try.underlying9 hs) ?_; intro w4 hown4 hturn4)
  obtain ⟨q1, q2⟩ := HD3.out.1.drop s.data.toList hown4 hturn4
  rw [dropE_setE] at q1 q2
  have hg4 := hturn4.grown
  have hmb3 : ∃ es cl, w3.heap[mb]? = some (.map es cl) := by obtain ⟨es, cl, hm, _⟩ := HD3.out.1.map; exact ⟨es, cl, hm⟩
  obtain ⟨es3, cl3, hmb3⟩ := hmb3
  have HF4 : Hid (Fil w4 B e0.blk v' (e0.bs.take e0.firm) e0.firm) := HF3.out.kept hg4 (fun e' => by injection e' with e'; have := HF3.out.blk; rw [e', hmb3] at this; cases this) (.inr (HF3.out.offMap hmb3))
  have HD4 := Lib.hid q1
  have HC4 : Hid (DskC w w4 b mb E (dropE E s.data.toList)) := HD3.out.2.trans q2
  have f4 := q1.blk.cells.2.2.2.2
  have HAP : Hid (∀ e ∈ dropE (dropE E s.data.toList) t.data.toList, e0.blk ≠ e.blk ∧ ∀ g, v'.ownBlock = some g → e.val.ownBlock ≠ some g) := fun e he => by
    obtain ⟨h1, _⟩ := mem_dropE.1 he
    obtain ⟨h2, h3⟩ := mem_dropE.1 h1
    have := HD.out.two HE0.out h2 (fun e' => h3 (e'.symm.trans HN0.out))
    rw [HO3.out]
    exact this
  have HSUM : Hid (((⟨t.data.toList, e0.blk, v', e0.bs.take e0.firm, e0.firm⟩ :: dropE (dropE E s.data.toList) t.data.toList : List Ent).map fun e => e.bs.length).sum ≤ room) := by
    show _ ≤ _
    have h1 := dropE_sum (dropE E s.data.toList) t.data.toList
    have h2 := dropE_one HD.out.once HE0.out HN0.out
    have h3 := HD.out.fits
    simp only [List.map_cons, List.sum_cons, List.length_take]
    omega
  have HS5 : Hid (∀ w5, Below w4.heap.size w4 w5 → w5.cell? ⟨b, 4, none⟩ = some (.map (some mb)) ∧ ∃ w6, (Instr.mapUpdate 65 (.map (some mb)) (.string t) (.pointer (some ⟨e0.blk, 0, none⟩))).run Try.prog w5 = .ok () w6 ∧ w6.cell? ⟨b, 4, none⟩ = some (.map (some mb)) ∧ ∃ v D', Did w w6 B b mb (n + 1) D' p room E (⟨t.data.toList, e0.blk, v, e0.bs.take e0.firm, e0.firm⟩ :: dropE (dropE E s.data.toList) t.data.toList)) := fun w5 hb5 => by
    have hD5 := HD4.out.below hb5
    have hC5 : DskC w w5 b mb E (dropE E s.data.toList) := HC4.out.trans (.of_only (Only.of_below hb5))
    obtain ⟨w6, hrun6, hown6, hturn6⟩ := hD5.map.store law9 Try.underlying65 (by have := HNN.out; unfold maxLen; omega) (keyOf_string_mk Try.underlying9 ht) (rdP_at e0.blk)
    have hD6 := hD5.put ⟨t.data.toList, e0.blk, v', e0.bs.take e0.firm, e0.firm⟩ hown6 hturn6 (HF4.out.kept (grown_of_below hb5) (by simp) (by cases v'.ownBlock <;> simp)) HAP.out HSUM.out
    refine ⟨hD5.blk.cells.2.2.2.2, w6, hrun6, hD6.blk.cells.2.2.2.2, v', _, hD6, hC5.put2 hturn6 fun g hg => .inl (.inr (.inr ⟨e0, HE0.out, ?_⟩))⟩
    rcases hg with hg | hg
    · exact .inl hg
    · exact .inr (HO3.out.symm.trans hg)
  have HCL : Hid (∀ W, Calls Try.prog 50 #[.string t] W fun e w' => e = .returned (.string t) ∧ Below W.heap.size W w') := fun W => sclone_any t W (by have := H8.out; omega)
  clear q1 q2 hg4 hmb3 hown4 hturn4
  go_wp2_with fail
  go_region_held3 (fun w' => w'.cell? ⟨b, 4, none⟩ = some (.map (some mb))) (first | exact f4 | exact e5 | exact e6)
    (first | (go_at_call 50; refine (HCL.out _).mono ?_; rintro e w5 ⟨rfl, hb5⟩; have hb5' : Below w4.heap.size w4 w5 := ⟨hb5.os, hb5.tape, hb5.output, hb5.size, hb5.block⟩; obtain ⟨e5, w6, hrun6, e6, hfin⟩ := HS5.out w5 hb5') | fail)
  have HR := Lib.hid hfin
  clear hfin hrun6
  go_wp2_with fail
  go_ret
  exact ⟨rfl, HR.out⟩

end

end Go.Proofs.Ytchedflfinkppaa
