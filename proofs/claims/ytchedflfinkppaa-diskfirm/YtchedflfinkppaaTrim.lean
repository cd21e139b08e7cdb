/-
  What a change of a disk leaves; the contract of Trim.
-/
import Derived.Test.YtchedflfinkppaaDsk2
namespace Go.Proofs.Ytchedflfinkppaa
open Go.RowKit Go.Maps

/-- A block of the disk's. -/
def Of (b mb : Nat) (E : List Ent) (g : Nat) : Prop := g = b ∨ g = mb ∨ ∃ e ∈ E, g = e.blk ∨ e.val.ownBlock = some g
/-- What a change of a disk leaves: all blocks but the disk's; what is the disk's now was so or is new. -/
structure DskC (w w' : World) (b mb : Nat) (E E' : List Ent) : Prop where
  os : w'.os = w.os
  tape : w'.tape = w.tape
  output : w'.output = w.output
  size : w.heap.size ≤ w'.heap.size
  block : ∀ g, g < w.heap.size → ¬ Of b mb E g → w'.heap[g]? = w.heap[g]?
  new : ∀ g, Of b mb E' g → Of b mb E g ∨ w.heap.size ≤ g
theorem DskC.trans {w w' w'' : World} {b mb : Nat} {E E' E'' : List Ent} (h : DskC w w' b mb E E') (k : DskC w' w'' b mb E' E'') : DskC w w'' b mb E E'' :=
  ⟨k.os.trans h.os, k.tape.trans h.tape, k.output.trans h.output, Nat.le_trans h.size k.size, fun g hg hn => (k.block g (Nat.lt_of_lt_of_le hg h.size) fun ho => (h.new g ho).elim hn (by omega)).trans (h.block g hg hn), fun g hg => by
    rcases k.new g hg with h1 | h1
    · exact h.new g h1
    · exact .inr (Nat.le_trans h.size h1)⟩
theorem DskC.of_only {w w' : World} {b mb : Nat} {E : List Ent} (h : Only b w w') : DskC w w' b mb E E :=
  ⟨h.os, h.tape, h.output, h.size, fun g hg hn => h.block g hg fun e => hn (.inl e), fun _ hg => .inl hg⟩
theorem DskC.of_add {w w' : World} {b mb : Nat} {E : List Ent} {e0 : Ent} (he : e0 ∈ E) {v : Value} {bs : List Int} {firm : Nat} (h : AddC e0.blk w w' e0.val v) : DskC w w' b mb E (setE E e0.name v bs firm) :=
  ⟨h.os, h.tape, h.output, h.size, fun g hg hn => h.block g hg (fun e => hn (.inr (.inr ⟨e0, he, .inl e⟩))) (fun e => hn (.inr (.inr ⟨e0, he, .inr e.symm⟩))), fun g hg => by
    rcases hg with hg | hg | ⟨e, hm, hg⟩
    · exact .inl (.inl hg)
    · exact .inl (.inr (.inl hg))
    · obtain ⟨e', he', rfl⟩ := List.mem_map.1 hm
      rw [setE_blk] at hg
      rcases hg with hg | hg
      · exact .inl (.inr (.inr ⟨e', he', .inl hg⟩))
      · split at hg
        · rcases h.new with h1 | ⟨g', h1, h2⟩
          · exact .inl (.inr (.inr ⟨e0, he, .inr (h1.symm.trans hg)⟩))
          · have hg2 : v.ownBlock = some g := hg
            rw [hg2] at h1
            injection h1 with h1
            exact .inr (by omega)
        · exact .inl (.inr (.inr ⟨e', he', .inr hg⟩))⟩

theorem Only.add {f : Nat} {w w' : World} {v v' : Value} (h : Only f w w') (hv : v'.ownBlock = v.ownBlock) : AddC f w w' v v' := ⟨h.os, h.tape, h.output, h.size, fun g hg h1 _ => h.block g hg h1, .inl hv⟩

theorem setE_sum_le {E : List Ent} {x : List UInt8} {v : Value} {bs : List Int} {firm : Nat} (h : ∀ e ∈ E, e.name = x → bs.length ≤ e.bs.length) : ((setE E x v bs firm).map fun e => e.bs.length).sum ≤ (E.map fun e => e.bs.length).sum := by
  induction E with
  | nil => exact Nat.le_refl _
  | cons e E ih =>
    have := ih fun e' he' => h e' (List.mem_cons_of_mem _ he')
    have h0 := h e List.mem_cons_self
    simp only [setE, List.map_cons, List.sum_cons] at this ⊢
    split
    · rename_i hn
      have := h0 hn
      simp only
      omega
    · omega

/-- What a change answers, and what it leaves. -/
def Did (w w' : World) (B b mb n : Nat) (D : DataW Unit) (p : Pw) (room : Nat) (E E' : List Ent) : Prop := Dsk w' B b mb n D p.spent room E' ∧ DskC w w' b mb E E'

section
variable (B b mb n : Nat) (D : DataW Unit) (p : Pw) (room : Nat) (E : List Ent) (s : ByteArray)

set_option maxHeartbeats 400000 in
theorem trim_down (z : Int) (w : World) (h : Dsk w B b mb n D p room E) (hd : p.spent.down = true) :
    Calls Try.prog 27 #[.pointer (some ⟨b, 0, none⟩), .string s, .int .i64 z] w fun e w' => e = .returned (.int .i64 9) ∧ Did w w' B b mb n D p room E E := by
  have hch := change_any b room mb p w h.blk h.ok
  have he : p.err = 9 := by simp [Pw.err, hd]
  rw [he] at hch
  have HC := Lib.hid hch
  have HD := Lib.hid h
  clear hch h he hd
  go_enter Try.func27, Try.ntmps27
  go_wp2_with fail
  refine (HC.out).mono ?_
  rintro e w' ⟨rfl, h1, h2⟩
  have HF : Hid (Did w w' B b mb n D p room E E) := ⟨HD.out.power h1 (Pw.spent_ok HD.out.ok) h2, .of_only h2⟩
  clear h1 h2
  go_wp2_with fail
  go_ret
  exact ⟨rfl, HF.out⟩

set_option maxHeartbeats 400000 in
theorem trim_none (z : Int) (w : World) (h : Dsk w B b mb n D p room E) (hd : p.spent.down = false) (hn : has D (.string s.data.toList) = false) (hs : s.size ≤ maxLen) :
    Calls Try.prog 27 #[.pointer (some ⟨b, 0, none⟩), .string s, .int .i64 z] w fun e w' => e = .returned (.int .i64 6) ∧ Did w w' B b mb n D p room E E := by
  have hch := change_any b room mb p w h.blk h.ok
  have he : p.err = 0 := by simp [Pw.err, hd]
  rw [he] at hch
  have HC := Lib.hid hch
  have HD := Lib.hid h
  clear hch h he hd
  go_enter Try.func27, Try.ntmps27
  go_wp2_with fail
  refine (HC.out).mono ?_
  rintro e w' ⟨rfl, h1, h2⟩
  have hD := HD.out.power h1 (Pw.spent_ok HD.out.ok) h2
  have HF : Hid (Did w w' B b mb n D p room E E) := ⟨hD, .of_only h2⟩
  obtain ⟨_, _, _, _, c4⟩ := hD.blk.cells
  have hrun := look_miss hD.map hs hn
  clear h1 h2 hD hn
  go_wp2_with fail
  go_ret
  exact ⟨rfl, HF.out⟩

set_option maxRecDepth 100000 in
set_option maxHeartbeats 1000000 in
theorem trim_arg (e0 : Ent) (z : Int) (w : World) (h : Dsk w B b mb n D p room E) (hd : p.spent.down = false) (he : e0 ∈ E) (hn : e0.name = s.data.toList) (hs : s.size ≤ maxLen) (hz : z < 0 ∨ (e0.bs.length : Int) < z) :
    Calls Try.prog 27 #[.pointer (some ⟨b, 0, none⟩), .string s, .int .i64 z] w fun e w' => e = .returned (.int .i64 1) ∧ Did w w' B b mb n D p room E E := by
  have hch := change_any b room mb p w h.blk h.ok
  have he' : p.err = 0 := by simp [Pw.err, hd]
  rw [he'] at hch
  have HC := Lib.hid hch
  have HD := Lib.hid h
  clear hch h he' hd
  go_enter Try.func27, Try.ntmps27
  go_wp2_with fail
  refine (HC.out).mono ?_
  rintro e w' ⟨rfl, h1, h2⟩
  have hD := HD.out.power h1 (Pw.spent_ok HD.out.ok) h2
  have HF : Hid (Did w w' B b mb n D p room E E) := ⟨hD, .of_only h2⟩
  obtain ⟨_, _, _, _, c4⟩ := hD.blk.cells
  have hl := hD.leads e0 he
  rw [hn] at hl
  have hrun := look_hit hD.map hs hl
  have hFl := hD.file e0 he
  have c0 := two_cell0 hFl.blk
  obtain ⟨A, c, hv, hc, _⟩ := hFl.form
  rw [hv] at c0
  clear h1 h2 hD hl hFl hv hn he
  by_cases i1 : z < 0
  · clear hz
    go_wp2_with fail
    go_ret
    exact ⟨rfl, HF.out⟩
  · have i2 : (e0.bs.length : Int) < z := by omega
    clear hz
    go_wp2_with fail
    go_ret
    exact ⟨rfl, HF.out⟩

set_option maxRecDepth 100000 in
set_option maxHeartbeats 1000000 in
theorem trim_ok (e0 : Ent) (z : Nat) (w : World) (h : Dsk w B b mb n D p room E) (hd : p.spent.down = false) (he : e0 ∈ E) (hn : e0.name = s.data.toList) (hs : s.size ≤ maxLen) (hz : z ≤ e0.bs.length) :
    Calls Try.prog 27 #[.pointer (some ⟨b, 0, none⟩), .string s, .int .i64 (z : Int)] w fun e w' => e = .returned (.int .i64 0) ∧ ∃ v, Did w w' B b mb n D p room E (setE E e0.name v (e0.bs.take z) (min e0.firm z)) := by
  have hch := change_any b room mb p w h.blk h.ok
  have he' : p.err = 0 := by simp [Pw.err, hd]
  rw [he'] at hch
  have HC := Lib.hid hch
  have HD := Lib.hid h
  clear hch h he' hd
  go_enter Try.func27, Try.ntmps27
  go_wp2_with fail
  refine (HC.out).mono ?_
  rintro e w' ⟨rfl, h1, h2⟩
  have hD := HD.out.power h1 (Pw.spent_ok HD.out.ok) h2
  have HF : Hid (Did w w' B b mb n D p room E E) := ⟨hD, .of_only h2⟩
  obtain ⟨_, _, _, _, c4⟩ := hD.blk.cells
  have hl := hD.leads e0 he
  rw [hn] at hl
  have hrun := look_hit hD.map hs hl
  have hFl := hD.file e0 he
  have c0 := two_cell0 hFl.blk
  obtain ⟨A, c, hv, hc, _⟩ := hFl.form
  rw [hv] at c0
  have HCU := Lib.hid (cut_any B e0.blk e0.firm z e0.val e0.bs w' hFl hz)
  have i1 : ¬ (z : Int) < 0 := by omega
  have i2 : ¬ (e0.bs.length : Int) < (z : Int) := by omega
  clear h1 h2 hD hl hFl hv hn
  have HE := Lib.hid he
  have HZ := Lib.hid hz
  clear he hz
  go_wp2_with fail
  refine (HCU.out).mono ?_
  rintro e w2 ⟨rfl, v', hf', ho', hy'⟩
  have HR : Hid (∃ v, Did w w2 B b mb n D p room E (setE E e0.name v (e0.bs.take z) (min e0.firm z))) :=
    ⟨v', HF.out.1.one HE.out hf' (hy'.add ho') (Nat.le_trans (setE_sum_le fun e he hn => by rw [once_eq HF.out.1.once he HE.out hn, List.length_take]; omega) HF.out.1.fits), HF.out.2.trans (.of_add HE.out (hy'.add ho'))⟩
  clear hf' ho' hy'
  go_wp2_with fail
  go_ret
  exact ⟨rfl, HR.out⟩

end

end Go.Proofs.Ytchedflfinkppaa
