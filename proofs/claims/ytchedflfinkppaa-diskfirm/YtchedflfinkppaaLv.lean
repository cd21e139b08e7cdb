/-
  A disk that a law has made: what each call on it leaves, told by names, bytes and how many are firm.
-/
import Derived.Test.YtchedflfinkppaaCrash2
import Derived.Test.YtchedflfinkppaaCuts
import Derived.Test.YtchedflfinkppaaFirm
import Derived.Test.YtchedflfinkppaaLoose
namespace Go.Proofs.Ytchedflfinkppaa
open Go.RowKit Go.Maps Go.Sort Go.Shelf

/-- All blocks of the disk are newer than w0's. -/
structure Lv (w0 w : World) (b mb : Nat) (p : Pw) (room : Nat) (E : List Ent) : Prop where
  dsk : ∃ D, Dsk w w0.heap.size b mb 16 D p room E
  bel : Below w0.heap.size w0 w
  own : ∀ g, Of b mb E g → w0.heap.size ≤ g
  len : (E.map Ent.name).length ≤ 16
  names : ∀ x ∈ E.map Ent.name, x.length ≤ 8

section
variable {w0 w w' : World} {b mb n : Nat} {p q : Pw} {room : Nat} {E E' : List Ent} {D : DataW Unit}

theorem Lv.step (h : Lv w0 w b mb p room E) (hd : Dsk w' w0.heap.size b mb n D q room E') (hc : DskC w w' b mb E E') (hl : (E'.map Ent.name).length ≤ 16) (hn : ∀ x ∈ E'.map Ent.name, x.length ≤ 8) : Lv w0 w' b mb q room E' := by
  have hs := h.bel.size
  refine ⟨⟨D, hd.tight (by simpa using hl)⟩, ⟨hc.os.trans h.bel.os, hc.tape.trans h.bel.tape, hc.output.trans h.bel.output, Nat.le_trans hs hc.size, fun g hg => ?_⟩, fun g hg => ?_, hl, hn⟩
  · rw [hc.block g (by omega) fun ho => by have := h.own g ho; omega]
    exact h.bel.block g hg
  · rcases hc.new g hg with h1 | h1
    · exact h.own g h1
    · omega
theorem Lv.below (h : Lv w0 w b mb p room E) (hb : Below w.heap.size w w') : Lv w0 w' b mb p room E := by
  obtain ⟨D, hD⟩ := h.dsk
  exact h.step (hD.below hb) (.of_only (Only.of_below hb)) h.len h.names
theorem Row.off (hc : DskC w w' b mb E E') {A : Option Addr} {xs : List Value} (hr : Row (fun g => ¬ Of b mb E g) w A xs) : Row (fun g => ¬ Of b mb E' g) w' A xs :=
  (Row.kept (S := fun g => ¬ Of b mb E g ∧ g < w.heap.size) (hr.mono fun g h1 h2 => ⟨h2, h1⟩) hc.size fun g hg s => hc.block g hg s.1).mono fun g _ s ho => by
    rcases hc.new g ho with h1 | h1
    · exact s.1 h1
    · have := s.2
      omega
/-- what lies in memory that the disk hasn't -/
theorem Lv.low (h : Lv w0 w b mb p room E) {A : Option Addr} {xs : List Value} (hr : Row (fun g => g < w0.heap.size) w A xs) : Row (fun g => ¬ Of b mb E g) w A xs := hr.mono fun g _ s ho => by
  have := h.own g ho
  omega
theorem Lv.new {v : World} (h : Lv w0 v b mb p room E) {A : Option Addr} {xs : List Value} (hr : Row (fun g => v.heap.size ≤ g) w A xs) : Row (fun g => ¬ Of b mb E g) w A xs := hr.mono fun g _ s ho => by
  obtain ⟨D, hD⟩ := h.dsk
  have := hD.of_lt ho
  omega

def firm1A (A : List AFile) (x : List UInt8) : List AFile := A.map fun a => if a.1 = x then (a.1, a.2.1, a.2.1.length) else a
def firmA (A : List AFile) (ns : List ByteArray) : List AFile := ns.foldl (fun A s => firm1A A s.data.toList) A
theorem abs_firm1 (E : List Ent) (x : List UInt8) : abs (firm1 E x) = firm1A (abs E) x := by
  simp only [abs, firm1, firm1A, List.map_map]
  refine List.map_congr_left fun e _ => ?_
  simp only [Function.comp, Ent.a]
  split <;> simp_all
theorem abs_firmN : ∀ (ns : List ByteArray) (E : List Ent), abs (firmN E ns) = firmA (abs E) ns
  | [], _ => rfl
  | s :: ns, E => by
    have := abs_firmN ns (firm1 E s.data.toList)
    rw [abs_firm1] at this
    exact this
theorem firmN_names : ∀ (ns : List ByteArray) (E : List Ent), (firmN E ns).map Ent.name = E.map Ent.name
  | [], _ => rfl
  | s :: ns, E => by
    refine (firmN_names ns (firm1 E s.data.toList)).trans ?_
    rw [firm1, List.map_map]
    refine List.map_congr_left fun e _ => ?_
    simp only [Function.comp]
    split <;> rfl
theorem setE_names (E : List Ent) (x : List UInt8) (v : Value) (bs : List Int) (firm : Nat) : (setE E x v bs firm).map Ent.name = E.map Ent.name := by
  rw [setE, List.map_map]
  exact List.map_congr_left fun e _ => setE_name e x v bs firm
theorem mem_abs {a : AFile} (h : a ∈ abs E) : ∃ e ∈ E, e.a = a := List.mem_map.1 h
theorem not_abs {x : List UInt8} (h : ∀ a ∈ abs E, a.1 ≠ x) : ∀ e ∈ E, e.name ≠ x := fun e he => h e.a (List.mem_map.2 ⟨e, he, rfl⟩)
def srtA (A : List AFile) : List (List UInt8) := (A.map Prod.fst).mergeSort leB
theorem srt_abs (E : List Ent) : srt E = srtA (abs E) := by rw [srtA, abs_names]; rfl
def crashA (A : List AFile) (keep : List Int) : List AFile := crT A (srtA A) keep A.length
theorem abs_len (E : List Ent) : (abs E).length = E.length := List.length_map _

theorem name_len {s : ByteArray} (h : IsName s) : s.data.toList.length ≤ 8 := by
  have := h.2.1
  have e : s.size = s.data.toList.length := by rw [Array.length_toList]; rfl
  omega
theorem name_max {s : ByteArray} (h : IsName s) : s.size ≤ maxLen := by
  have := h.2.1
  unfold maxLen
  omega

/-- What a change leaves. -/
def LvTo (w0 w w' : World) (b mb : Nat) (q : Pw) (room : Nat) (E : List Ent) (A' : List AFile) : Prop := ∃ E', Lv w0 w' b mb q room E' ∧ DskC w w' b mb E E' ∧ abs E' = A'
end

section
variable (w0 w : World) (b mb : Nat) (p : Pw) (room : Nat) (E : List Ent) (s t : ByteArray) (A : Option Addr) (c : Nat)

theorem new_lv (hw : Below w0.heap.size w0 w) (hr : room ≤ 1048576) :
    Calls Try.prog 11 #[.int .i64 (room : Int)] w fun e w' => e = .returned (.tuple #[.pointer (some ⟨w.heap.size + 1, 0, none⟩), .int .i64 0]) ∧ Lv w0 w' (w.heap.size + 1) w.heap.size Pw.fresh room [] ∧ Below w.heap.size w w' := by
  refine (new_any room w hr).mono ?_
  rintro e w' ⟨rfl, h1, h2, h3⟩
  have hs := hw.size
  refine ⟨rfl, ⟨⟨.map [], ⟨h1, (fun hx => Bool.noConfusion (show false = true from hx)), ?_, List.Pairwise.nil, List.Pairwise.nil, ?_, ?_, ?_, ?_, Nat.zero_le _, hr⟩⟩, hw.trans (h3.mono hs), ?_, by simp, by simp⟩, h3⟩
  · obtain ⟨es, cl, g1, g2, g3, g4⟩ := w.ownsMap_made Try.prog 9 rdP
    rw [heap_alloc_new] at g1
    injection g1 with g1
    injection g1 with e1 e2
    subst e1 e2
    exact ⟨#[], 0, h2, g2, by simp, g4⟩
  · intro x hx
    simp [has] at hx
  · intro e he
    cases he
  · intro e he
    cases he
  · intro e he
    cases he
  · rintro g (rfl | rfl | ⟨e, he, _⟩)
    · omega
    · exact hs
    · cases he

theorem wnew_lv (ts : List (List Int)) (h : Lv w0 w b mb p room E) (hd : p.spent.down = false) (hn : IsName s) (hT : TxtAt (fun g => ¬ Of b mb E g) w A ts) (hl : ts.length ≤ 1000000) (hv : ∀ t ∈ ts, t.length ≤ 1000000) (hx : ∀ a ∈ abs E, a.1 ≠ s.data.toList) (h16 : (abs E).length < 16) (ho : sumA (abs E) + ts.flatten.length ≤ room) :
    Calls Try.prog 19 #[.pointer (some ⟨b, 0, none⟩), .string s, .slice A ts.length c] w fun e w' => e = .returned (.int .i64 0) ∧ LvTo w0 w w' b mb p.spent room E ((s.data.toList, ts.flatten, 0) :: abs E) := by
  obtain ⟨D, hD⟩ := h.dsk
  rw [abs_len] at h16
  rw [sumA_abs] at ho
  refine (write_new w0.heap.size b mb 16 D p room E s _ A c ts w hD hd (name_max hn) hn hT (fun _ _ h => h) hl hv (not_abs hx) h16 (by decide) h.bel.size ho).mono ?_
  rintro e w' ⟨rfl, f, v, D', hD', hC'⟩
  refine ⟨rfl, _, h.step hD' hC' (by simp only [List.map_cons, List.length_cons, List.length_map]; omega) ?_, hC', rfl⟩
  intro x hx
  rcases List.mem_cons.1 hx with rfl | hx
  · exact name_len hn
  · exact h.names x hx

theorem wadd_lv (ts : List (List Int)) (a : AFile) (h : Lv w0 w b mb p room E) (hd : p.spent.down = false) (hn : IsName s) (hT : TxtAt (fun g => ¬ Of b mb E g) w A ts) (hl : ts.length ≤ 1000000) (hv : ∀ t ∈ ts, t.length ≤ 1000000) (ha : a ∈ abs E) (hx : a.1 = s.data.toList) (ho : sumA (abs E) + ts.flatten.length ≤ room) :
    Calls Try.prog 19 #[.pointer (some ⟨b, 0, none⟩), .string s, .slice A ts.length c] w fun e w' => e = .returned (.int .i64 0) ∧ LvTo w0 w w' b mb p.spent room E (setA (abs E) a.1 (a.2.1 ++ ts.flatten) a.2.2) := by
  obtain ⟨D, hD⟩ := h.dsk
  obtain ⟨e0, he0, rfl⟩ := mem_abs ha
  rw [sumA_abs] at ho
  refine (write_add w0.heap.size b mb 16 D p room E s _ A c ts w hD hd (name_max hn) hn hT (fun _ _ h => h) hl hv e0 he0 hx h.bel.size ho).mono ?_
  rintro e w' ⟨rfl, v, hD', hC'⟩
  refine ⟨rfl, _, h.step hD' hC' (by rw [setE_names]; exact h.len) (by rw [setE_names]; exact h.names), hC', abs_setE _ _ _ _ _⟩

theorem firm_lv (ns : List ByteArray) (h : Lv w0 w b mb p room E) (hd : p.spent.down = false) (hr : Row (fun g => ¬ Of b mb E g) w A (strs ns)) (hl : ns.length ≤ 1000000) (hs : ∀ s ∈ ns, s.size ≤ maxLen) (hh : ∀ s ∈ ns, ∃ a ∈ abs E, a.1 = s.data.toList) :
    Calls Try.prog 16 #[.pointer (some ⟨b, 0, none⟩), .slice A ns.length c] w fun e w' => e = .returned (.int .i64 0) ∧ LvTo w0 w w' b mb p.spent room E (firmA (abs E) ns) := by
  obtain ⟨D, hD⟩ := h.dsk
  refine (firm_ok w0.heap.size b mb 16 D p room E _ A c ns w hD hd hr (fun _ _ h => h) hl hs (List.all_eq_true.2 fun s hm => ?_)).mono ?_
  · obtain ⟨a, ha, hx⟩ := hh s hm
    obtain ⟨e, he, rfl⟩ := mem_abs ha
    refine (hD.hasIff _).2 (List.mem_map.2 ⟨e, he, hx⟩)
  · rintro e w' ⟨rfl, hD', hC'⟩
    exact ⟨rfl, _, h.step hD' hC' (by rw [firmN_names]; exact h.len) (by rw [firmN_names]; exact h.names), hC', abs_firmN _ _⟩

theorem dropE_len_lt {E : List Ent} {x : List UInt8} (h : ∃ e ∈ E, e.name = x) : (dropE E x).length < E.length := by
  obtain ⟨e, he, hn⟩ := h
  exact List.length_filter_lt_length_iff_exists.2 ⟨e, he, by simpa using hn⟩
theorem dropE_len_le (E : List Ent) (x : List UInt8) : (dropE E x).length ≤ E.length := List.length_filter_le _ _

theorem swap_lv (a : AFile) (h : Lv w0 w b mb p room E) (hd : p.spent.down = false) (hn : IsName t) (hs : s.size ≤ maxLen) (ha : a ∈ abs E) (hx : a.1 = s.data.toList) :
    Calls Try.prog 26 #[.pointer (some ⟨b, 0, none⟩), .string s, .string t] w fun e w' => e = .returned (.int .i64 0) ∧ LvTo w0 w w' b mb p.spent room E ((t.data.toList, a.2.1.take a.2.2, a.2.2) :: dropA (dropA (abs E) s.data.toList) t.data.toList) := by
  obtain ⟨D, hD⟩ := h.dsk
  obtain ⟨e0, he0, rfl⟩ := mem_abs ha
  refine (swap_ok w0.heap.size b mb 16 D p room E s t e0 w hD hd (name_max hn) hn hs he0 hx (by decide)).mono ?_
  rintro e w' ⟨rfl, v, D', hD', hC'⟩
  refine ⟨rfl, _, h.step hD' hC' ?_ ?_, hC', ?_⟩
  · have h1 := dropE_len_lt (E := E) ⟨e0, he0, hx⟩
    have h2 := dropE_len_le (dropE E s.data.toList) t.data.toList
    have h3 := h.len
    simp only [List.map_cons, List.length_cons, List.length_map] at h3 ⊢
    omega
  · intro x hx'
    rcases List.mem_cons.1 hx' with rfl | hx'
    · exact name_len hn
    · obtain ⟨e, he, rfl⟩ := List.mem_map.1 hx'
      exact h.names _ (List.mem_map.2 ⟨e, (mem_dropE.1 (mem_dropE.1 he).1).1, rfl⟩)
  · rw [← abs_dropE, ← abs_dropE]
    rfl

theorem crash_lv (keep : List Int) (h : Lv w0 w b mb p room E) (hr : Row (fun g => ¬ Of b mb E g) w A (i64s keep)) (hk : keep.length ≤ 9223372036854775807) :
    Calls Try.prog 20 #[.pointer (some ⟨b, 0, none⟩), .slice A keep.length c] w fun e w' => e = .returned (.tuple #[]) ∧ LvTo w0 w w' b mb Pw.fresh room E (crashA (abs E) keep) := by
  obtain ⟨D, hD⟩ := h.dsk
  have hl : E.length ≤ 16 := by simpa using h.len
  refine (crash_any w0.heap.size b mb 16 D p room E _ A c keep w hD hr (fun _ _ h => h) (by omega) (fun e he => by have := h.names _ (List.mem_map.2 ⟨e, he, rfl⟩); omega) hk).mono ?_
  rintro e w' ⟨rfl, E', hD', hC', hA'⟩
  have hn : E'.map Ent.name = E.map Ent.name := by rw [← abs_names, hA', crT_names, abs_names]
  refine ⟨rfl, E', h.step hD' hC' (by rw [hn]; exact h.len) (by rw [hn]; exact h.names), hC', ?_⟩
  rw [hA', crashA, srt_abs, abs_len]

theorem read_lv (a : AFile) (h : Lv w0 w b mb p room E) (hd : p.down = false) (hs : s.size ≤ maxLen) (ha : a ∈ abs E) (hx : a.1 = s.data.toList) :
    Calls Try.prog 17 #[.pointer (some ⟨b, 0, none⟩), .string s] w fun e w' => GivesR w a.2.1 0 e w' := by
  obtain ⟨D, hD⟩ := h.dsk
  obtain ⟨e0, he0, rfl⟩ := mem_abs ha
  exact read_hit w0.heap.size b mb 16 D p room E s e0 w hD hd he0 hx hs
theorem read_lv_none (h : Lv w0 w b mb p room E) (hd : p.down = false) (hs : s.size ≤ maxLen) (hx : ∀ a ∈ abs E, a.1 ≠ s.data.toList) :
    Calls Try.prog 17 #[.pointer (some ⟨b, 0, none⟩), .string s] w fun e w' => GivesR w [] 6 e w' := by
  obtain ⟨D, hD⟩ := h.dsk
  exact read_miss w0.heap.size b mb 16 D p room E s w hD hd (hD.hasNot (not_abs hx)) hs
theorem used_lv (h : Lv w0 w b mb p room E) :
    Calls Try.prog 25 #[.pointer (some ⟨b, 0, none⟩)] w fun e w' => e = .returned (.int .i64 (sumA (abs E) : Nat)) ∧ Below w.heap.size w w' := by
  obtain ⟨D, hD⟩ := h.dsk
  have h1 := hD.fits
  have h2 := hD.most
  have := used_any b room mb 16 p D (E.map entOf) w hD.blk hD.map hD.ents (by rw [total_ents]; omega)
  rw [total_ents, ← sumA_abs] at this
  exact this
end

end Go.Proofs.Ytchedflfinkppaa
