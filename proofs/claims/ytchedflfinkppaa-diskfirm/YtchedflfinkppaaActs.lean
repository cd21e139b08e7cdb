/-
  Each change of a disk that a law has made, whatever it answers: told by names, bytes and how many are firm.
-/
import Derived.Test.YtchedflfinkppaaAwake
import Derived.Test.YtchedflfinkppaaDrop
namespace Go.Proofs.Ytchedflfinkppaa
open Go.RowKit Go.Maps Go.Sort Go.Shelf

/-- the file of a name -/
def findA (A : List AFile) (x : List UInt8) : Option AFile := A.find? fun a => decide (a.1 = x)
theorem findA_some {A : List AFile} {x : List UInt8} {a : AFile} (h : findA A x = some a) : a ∈ A ∧ a.1 = x :=
  ⟨List.mem_of_find?_eq_some h, by simpa using List.find?_some h⟩
theorem findA_none {A : List AFile} {x : List UInt8} (h : findA A x = none) : ∀ a ∈ A, a.1 ≠ x := fun a ha => by
  have := List.find?_eq_none.1 h a ha
  simpa using this

open Classical in
/-- Write: what it answers, what it leaves. -/
noncomputable def writeA (p : Pw) (room : Nat) (A : List AFile) (s : ByteArray) (bs : List Int) : Int × List AFile :=
  if p.spent.down = true then (9, A) else if ¬ IsName s then (4, A) else
  match findA A s.data.toList with
  | none => if 16 ≤ A.length ∨ room < sumA A + bs.length then (8, A) else (0, (s.data.toList, bs, 0) :: A)
  | some a => if room < sumA A + bs.length then (8, A) else (0, setA A a.1 (a.2.1 ++ bs) a.2.2)
def allA (A : List AFile) (ns : List ByteArray) : Bool := ns.all fun s => (findA A s.data.toList).isSome
def firmAll (p : Pw) (A : List AFile) (ns : List ByteArray) : Int × List AFile :=
  if p.spent.down = true then (9, A) else if allA A ns = true then (0, firmA A ns) else (6, A)
def dropsA (A : List AFile) (ns : List ByteArray) : List AFile := ns.foldl (fun A s => dropA A s.data.toList) A
def dropAll (p : Pw) (A : List AFile) (ns : List ByteArray) : Int × List AFile :=
  if p.spent.down = true then (9, A) else if allA A ns = true then (0, dropsA A ns) else (6, A)
open Classical in
noncomputable def swapA (p : Pw) (A : List AFile) (s t : ByteArray) : Int × List AFile :=
  if p.spent.down = true then (9, A) else if ¬ IsName t then (4, A) else
  match findA A s.data.toList with
  | none => (6, A)
  | some a => (0, (t.data.toList, a.2.1.take a.2.2, a.2.2) :: dropA (dropA A s.data.toList) t.data.toList)
def trimA (p : Pw) (A : List AFile) (s : ByteArray) (z : Int) : Int × List AFile :=
  if p.spent.down = true then (9, A) else
  match findA A s.data.toList with
  | none => (6, A)
  | some a => if z < 0 ∨ (a.2.1.length : Int) < z then (1, A) else (0, setA A a.1 (a.2.1.take z.toNat) (min a.2.2 z.toNat))

theorem abs_dropN : ∀ (ns : List ByteArray) (E : List Ent), abs (dropN E ns) = dropsA (abs E) ns
  | [], _ => rfl
  | s :: ns, E => by
    have := abs_dropN ns (dropE E s.data.toList)
    rw [abs_dropE] at this
    exact this
theorem dropN_sub : ∀ (ns : List ByteArray) (E : List Ent), (∀ e ∈ dropN E ns, e ∈ E) ∧ (dropN E ns).length ≤ E.length
  | [], _ => ⟨fun _ h => h, Nat.le_refl _⟩
  | s :: ns, E => by
    obtain ⟨h1, h2⟩ := dropN_sub ns (dropE E s.data.toList)
    exact ⟨fun e he => (mem_dropE.1 (h1 e he)).1, Nat.le_trans h2 (dropE_len_le E _)⟩

section
variable {w0 w w' : World} {b mb n : Nat} {p : Pw} {room : Nat} {E : List Ent} {D : DataW Unit}

theorem Lv.did (h : Lv w0 w b mb p room E) (hd : Did w w' w0.heap.size b mb n D p room E E) : LvTo w0 w w' b mb p.spent room E (abs E) :=
  ⟨E, h.step hd.1 hd.2 h.len h.names, hd.2, rfl⟩
theorem Dsk.allB {m : Nat} (h : Dsk w n b mb m D p room E) (ns : List ByteArray) : ns.all (hasB D) = allA (abs E) ns := by
  unfold allA
  congr 1
  funext s
  cases hf : findA (abs E) s.data.toList with
  | none => exact h.hasNot (not_abs (findA_none hf))
  | some a =>
    obtain ⟨h1, h2⟩ := findA_some hf
    obtain ⟨e, he, rfl⟩ := mem_abs h1
    exact (h.hasIff _).2 (List.mem_map.2 ⟨e, he, h2⟩)
end

section
variable (w0 w : World) (b mb : Nat) (p : Pw) (room : Nat) (E : List Ent) (s t : ByteArray) (A : Option Addr) (c : Nat)

theorem write_lv (ts : List (List Int)) (h : Lv w0 w b mb p room E) (hs : s.size ≤ maxLen) (hT : TxtAt (fun g => ¬ Of b mb E g) w A ts) (hl : ts.length ≤ 1000000) (hv : ∀ t ∈ ts, t.length ≤ 1000000) :
    Calls Try.prog 19 #[.pointer (some ⟨b, 0, none⟩), .string s, .slice A ts.length c] w fun e w' => e = .returned (.int .i64 (writeA p room (abs E) s ts.flatten).1) ∧ LvTo w0 w w' b mb p.spent room E (writeA p room (abs E) s ts.flatten).2 := by
  obtain ⟨D, hD⟩ := h.dsk
  unfold writeA
  by_cases h1 : p.spent.down = true
  · rw [if_pos h1]
    refine (write_down w0.heap.size b mb 16 D p room E s A ts.length c w hD h1).mono ?_
    rintro e w' ⟨rfl, hd⟩
    exact ⟨rfl, h.did hd⟩
  rw [if_neg h1]
  have h1' : p.spent.down = false := by simpa using h1
  by_cases h2 : ¬ IsName s
  · rw [if_pos h2]
    refine (write_form w0.heap.size b mb 16 D p room E s A ts.length c w hD h1' hs h2).mono ?_
    rintro e w' ⟨rfl, hd⟩
    exact ⟨rfl, h.did hd⟩
  rw [if_neg h2]
  have h2 := Classical.not_not.1 h2
  cases hf : findA (abs E) s.data.toList with
  | none =>
    have hx := findA_none hf
    by_cases h3 : 16 ≤ (abs E).length
    · rw [if_pos (.inl h3)]
      refine (write_most w0.heap.size b mb 16 D p room E s A ts.length c w hD h1' hs h2 (not_abs hx) (by rw [abs_len] at h3; exact h3)).mono ?_
      rintro e w' ⟨rfl, hd⟩
      exact ⟨rfl, h.did hd⟩
    by_cases h4 : room < sumA (abs E) + ts.flatten.length
    · rw [if_pos (.inr h4)]
      refine (write_over w0.heap.size b mb 16 D p room E s _ A c ts w hD h1' hs h2 hT (fun _ _ h => h) hl hv (not_abs hx) (by rw [abs_len] at h3; omega) (by rw [sumA_abs] at h4; omega)).mono ?_
      rintro e w' ⟨rfl, hd⟩
      exact ⟨rfl, h.did hd⟩
    · rw [if_neg (by omega)]
      exact wnew_lv w0 w b mb p room E s A c ts h h1' h2 hT hl hv hx (by omega) (by omega)
  | some a =>
    obtain ⟨ha, hx⟩ := findA_some hf
    by_cases h4 : room < sumA (abs E) + ts.flatten.length
    · simp only [if_pos h4]
      obtain ⟨e0, he0, rfl⟩ := mem_abs ha
      refine (write_over2 w0.heap.size b mb 16 D p room E s _ A c ts w hD h1' hs h2 hT (fun _ _ h => h) hl hv e0 he0 hx (by rw [sumA_abs] at h4; omega)).mono ?_
      rintro e w' ⟨rfl, hd⟩
      exact ⟨rfl, h.did hd⟩
    · simp only [if_neg h4]
      exact wadd_lv w0 w b mb p room E s A c ts a h h1' h2 hT hl hv ha hx (by omega)

theorem firmAll_lv (ns : List ByteArray) (h : Lv w0 w b mb p room E) (hr : Row (fun g => ¬ Of b mb E g) w A (strs ns)) (hl : ns.length ≤ 1000000) (hs : ∀ s ∈ ns, s.size ≤ maxLen) :
    Calls Try.prog 16 #[.pointer (some ⟨b, 0, none⟩), .slice A ns.length c] w fun e w' => e = .returned (.int .i64 (firmAll p (abs E) ns).1) ∧ LvTo w0 w w' b mb p.spent room E (firmAll p (abs E) ns).2 := by
  obtain ⟨D, hD⟩ := h.dsk
  unfold firmAll
  by_cases h1 : p.spent.down = true
  · rw [if_pos h1]
    refine (firm_down w0.heap.size b mb 16 D p room E A ns.length c w hD h1).mono ?_
    rintro e w' ⟨rfl, hd⟩
    exact ⟨rfl, h.did hd⟩
  rw [if_neg h1]
  have h1' : p.spent.down = false := by simpa using h1
  have hall := hD.allB ns
  by_cases h2 : allA (abs E) ns = true
  · rw [if_pos h2]
    rw [h2] at hall
    refine (firm_ok w0.heap.size b mb 16 D p room E _ A c ns w hD h1' hr (fun _ _ h => h) hl hs hall).mono ?_
    rintro e w' ⟨rfl, hD', hC'⟩
    exact ⟨rfl, _, h.step hD' hC' (by rw [firmN_names]; exact h.len) (by rw [firmN_names]; exact h.names), hC', abs_firmN _ _⟩
  · rw [if_neg h2]
    rw [Bool.not_eq_true] at h2
    rw [h2] at hall
    refine (firm_none w0.heap.size b mb 16 D p room E _ A c ns w hD h1' hr (fun _ _ h => h) hl hs hall).mono ?_
    rintro e w' ⟨rfl, hd⟩
    exact ⟨rfl, h.did hd⟩

theorem dropAll_lv (ns : List ByteArray) (h : Lv w0 w b mb p room E) (hr : Row (fun g => ¬ Of b mb E g) w A (strs ns)) (hl : ns.length ≤ 1000000) (hs : ∀ s ∈ ns, s.size ≤ maxLen) :
    Calls Try.prog 28 #[.pointer (some ⟨b, 0, none⟩), .slice A ns.length c] w fun e w' => e = .returned (.int .i64 (dropAll p (abs E) ns).1) ∧ LvTo w0 w w' b mb p.spent room E (dropAll p (abs E) ns).2 := by
  obtain ⟨D, hD⟩ := h.dsk
  unfold dropAll
  by_cases h1 : p.spent.down = true
  · rw [if_pos h1]
    refine (drop_down w0.heap.size b mb 16 D p room E A ns.length c w hD h1).mono ?_
    rintro e w' ⟨rfl, hd⟩
    exact ⟨rfl, h.did hd⟩
  rw [if_neg h1]
  have h1' : p.spent.down = false := by simpa using h1
  have hall := hD.allB ns
  by_cases h2 : allA (abs E) ns = true
  · rw [if_pos h2]
    rw [h2] at hall
    refine (drop_ok w0.heap.size b mb 16 D p room E _ A c ns w hD h1' hr (fun _ _ h => h) hl hs hall).mono ?_
    rintro e w' ⟨rfl, hD', hC'⟩
    obtain ⟨hm, hle⟩ := dropN_sub ns E
    have hln := h.len
    rw [List.length_map] at hln
    exact ⟨rfl, _, h.step hD' hC' (by rw [List.length_map]; omega) (fun x hx => by
      obtain ⟨e, he, rfl⟩ := List.mem_map.1 hx
      exact h.names _ (List.mem_map.2 ⟨e, hm e he, rfl⟩)), hC', abs_dropN _ _⟩
  · rw [if_neg h2]
    rw [Bool.not_eq_true] at h2
    rw [h2] at hall
    refine (drop_none w0.heap.size b mb 16 D p room E _ A c ns w hD h1' hr (fun _ _ h => h) hl hs hall).mono ?_
    rintro e w' ⟨rfl, hd⟩
    exact ⟨rfl, h.did hd⟩

theorem swapAll_lv (h : Lv w0 w b mb p room E) (ht : t.size ≤ maxLen) (hs : s.size ≤ maxLen) :
    Calls Try.prog 26 #[.pointer (some ⟨b, 0, none⟩), .string s, .string t] w fun e w' => e = .returned (.int .i64 (swapA p (abs E) s t).1) ∧ LvTo w0 w w' b mb p.spent room E (swapA p (abs E) s t).2 := by
  obtain ⟨D, hD⟩ := h.dsk
  unfold swapA
  by_cases h1 : p.spent.down = true
  · rw [if_pos h1]
    refine (swap_down w0.heap.size b mb 16 D p room E s t w hD h1).mono ?_
    rintro e w' ⟨rfl, hd⟩
    exact ⟨rfl, h.did hd⟩
  rw [if_neg h1]
  have h1' : p.spent.down = false := by simpa using h1
  by_cases h2 : ¬ IsName t
  · rw [if_pos h2]
    refine (swap_form w0.heap.size b mb 16 D p room E s t w hD h1' ht h2).mono ?_
    rintro e w' ⟨rfl, hd⟩
    exact ⟨rfl, h.did hd⟩
  rw [if_neg h2]
  have h2 := Classical.not_not.1 h2
  cases hf : findA (abs E) s.data.toList with
  | none =>
    refine (swap_none w0.heap.size b mb 16 D p room E s t w hD h1' ht h2 hs (not_abs (findA_none hf))).mono ?_
    rintro e w' ⟨rfl, hd⟩
    exact ⟨rfl, h.did hd⟩
  | some a =>
    obtain ⟨ha, hx⟩ := findA_some hf
    exact swap_lv w0 w b mb p room E s t a h h1' h2 hs ha hx

theorem trim_lv (z : Int) (h : Lv w0 w b mb p room E) (hs : s.size ≤ maxLen) :
    Calls Try.prog 27 #[.pointer (some ⟨b, 0, none⟩), .string s, .int .i64 z] w fun e w' => e = .returned (.int .i64 (trimA p (abs E) s z).1) ∧ LvTo w0 w w' b mb p.spent room E (trimA p (abs E) s z).2 := by
  obtain ⟨D, hD⟩ := h.dsk
  unfold trimA
  by_cases h1 : p.spent.down = true
  · rw [if_pos h1]
    refine (trim_down w0.heap.size b mb 16 D p room E s z w hD h1).mono ?_
    rintro e w' ⟨rfl, hd⟩
    exact ⟨rfl, h.did hd⟩
  rw [if_neg h1]
  have h1' : p.spent.down = false := by simpa using h1
  cases hf : findA (abs E) s.data.toList with
  | none =>
    refine (trim_none w0.heap.size b mb 16 D p room E s z w hD h1' (hD.hasNot (not_abs (findA_none hf))) hs).mono ?_
    rintro e w' ⟨rfl, hd⟩
    exact ⟨rfl, h.did hd⟩
  | some a =>
    obtain ⟨ha, hx⟩ := findA_some hf
    obtain ⟨e0, he0, rfl⟩ := mem_abs ha
    by_cases h4 : z < 0 ∨ (e0.a.2.1.length : Int) < z
    · simp only [if_pos h4]
      refine (trim_arg w0.heap.size b mb 16 D p room E s e0 z w hD h1' he0 hx hs h4).mono ?_
      rintro e w' ⟨rfl, hd⟩
      exact ⟨rfl, h.did hd⟩
    · simp only [if_neg h4]
      have h5 : z.toNat ≤ e0.bs.length := by have : e0.a.2.1 = e0.bs := rfl; rw [this] at h4; omega
      have := trim_ok w0.heap.size b mb 16 D p room E s e0 z.toNat w hD h1' he0 hx hs h5
      rw [show ((z.toNat : Nat) : Int) = z by omega] at this
      refine this.mono ?_
      rintro e w' ⟨rfl, v, hD', hC'⟩
      exact ⟨rfl, _, h.step hD' hC' (by rw [setE_names]; exact h.len) (by rw [setE_names]; exact h.names), hC', abs_setE _ _ _ _ _⟩

theorem arm_lv (z : Int) (h : Lv w0 w b mb p room E) (hz : z ≤ 9223372036854775807) :
    Calls Try.prog 24 #[.pointer (some ⟨b, 0, none⟩), .int .i64 z] w fun e w' => e = .returned (.tuple #[]) ∧ LvTo w0 w w' b mb (p.arm z) room E (abs E) := by
  obtain ⟨D, hD⟩ := h.dsk
  refine (arm_any b room mb p z w hD.blk).mono ?_
  rintro e w' ⟨rfl, h1, h2⟩
  have hd := hD.power (q := p.arm z) h1 (by
    intro ha
    have : 0 ≤ z := by simpa [Pw.arm] using ha
    exact ⟨this, hz⟩) h2
  exact ⟨rfl, E, h.step hd (.of_only h2) h.len h.names, .of_only h2, rfl⟩

theorem up_lv (h : Lv w0 w b mb p room E) :
    Calls Try.prog 29 #[.pointer (some ⟨b, 0, none⟩)] w fun e w' => e = .returned (.bool (!p.down)) ∧ w = w' := by
  obtain ⟨D, hD⟩ := h.dsk
  exact up_any b room mb p w hD.blk

/-- New names, that read as l. -/
def GivesN (w : World) (l : List ByteArray) (e : Ending) (w' : World) : Prop :=
  ∃ A c, e = .returned (.slice A l.length c) ∧ l.length ≤ c ∧ Row (fun g => w.heap.size ≤ g) w' A (strs l) ∧ Below w.heap.size w w'
def namesA (A : List AFile) : List ByteArray := (srtA A).map keyB
theorem namesA_len (A : List AFile) : (namesA A).length = A.length := by simp [namesA, srtA]
theorem names_lv (h : Lv w0 w b mb p room E) :
    Calls Try.prog 15 #[.pointer (some ⟨b, 0, none⟩)] w fun e w' => GivesN w (namesA (abs E)) e w' := by
  obtain ⟨D, hD⟩ := h.dsk
  have hl : E.length ≤ 16 := by simpa using h.len
  refine (names_srt w0.heap.size b mb 16 D p room E w hD (by omega)).mono ?_
  rintro e w' ⟨A, c, rfl, h1, h2, h3⟩
  rw [srt_abs] at h2
  exact ⟨A, c, by rw [namesA_len, abs_len], by rw [namesA_len, abs_len]; exact h1, h2, h3⟩

def looseA (A : List AFile) (x : List UInt8) : Nat := match findA A x with | none => 0 | some a => a.2.1.length - a.2.2
theorem loose_lv (h : Lv w0 w b mb p room E) (hs : s.size ≤ maxLen) :
    Calls Try.prog 23 #[.pointer (some ⟨b, 0, none⟩), .string s] w fun e w' => e = .returned (.int .i64 (looseA (abs E) s.data.toList : Nat)) ∧ ∃ n, w' = w.drewN n := by
  obtain ⟨D, hD⟩ := h.dsk
  unfold looseA
  cases hf : findA (abs E) s.data.toList with
  | none =>
    refine (looseD_none w0.heap.size b mb 16 D p room E s w hD (hD.hasNot (not_abs (findA_none hf))) hs).mono ?_
    rintro e w' ⟨rfl, rfl⟩
    exact ⟨rfl, 0, rfl⟩
  | some a =>
    obtain ⟨ha, hx⟩ := findA_some hf
    obtain ⟨e0, he0, rfl⟩ := mem_abs ha
    exact looseD_some w0.heap.size b mb 16 D p room E s e0 w hD he0 hx hs

theorem Lv.fits (h : Lv w0 w b mb p room E) : sumA (abs E) ≤ room ∧ room ≤ 1048576 ∧ (abs E).length ≤ 16 := by
  obtain ⟨D, hD⟩ := h.dsk
  refine ⟨by rw [sumA_abs]; exact hD.fits, hD.most, ?_⟩
  have := h.len
  rw [List.length_map] at this
  rw [abs_len]
  exact this
end

end Go.Proofs.Ytchedflfinkppaa
