/-
  A disk in memory: its block, its map, its files. The contract of Read.
-/
import Derived.Test.YtchedflfinkppaaClone
import Derived.Test.YtchedflfinkppaaUsed
import Derived.Test.YtchedflfinkppaaHas
namespace Go.Proofs.Ytchedflfinkppaa
open Go.RowKit Go.Maps

/-- An entry of the map: a name, its file's block, the file's value and bytes, how many are firm. -/
structure Ent where
  name : List UInt8
  blk : Nat
  val : Value
  bs : List Int
  firm : Nat

/-- A disk. -/
structure Dsk (w : World) (B b mb n : Nat) (D : DataW Unit) (p : Pw) (room : Nat) (E : List Ent) : Prop where
  blk : Blk w b p room mb
  ok : p.ok
  map : w.ownsMap Try.prog 9 rdP mb n D
  once : E.Pairwise fun x y => x.name ≠ y.name
  apart : E.Pairwise fun x y => x.blk ≠ y.blk ∧ ∀ g, x.val.ownBlock = some g → y.val.ownBlock ≠ some g
  all : ∀ x, has D (.string x) = true → ∃ e ∈ E, e.name = x
  here : ∀ e ∈ E, has D (.string e.name) = true
  leads : ∀ e ∈ E, D.atKey (.string e.name) none9 = .lit (.int .i64 (e.blk : Int))
  file : ∀ e ∈ E, Fil w B e.blk e.val e.bs e.firm
  fits : (E.map fun e => e.bs.length).sum ≤ room
  most : room ≤ 1048576

theorem Dsk.Leads {w : World} {B b mb n : Nat} {D : DataW Unit} {p : Pw} {room : Nat} {E : List Ent} (h : Dsk w B b mb n D p room E) : Leads D := fun x hx => by
  obtain ⟨e, he, rfl⟩ := h.all x hx
  exact ⟨e.blk, h.leads e he⟩
def entOf (e : Ent) : List UInt8 × Nat × Nat := (e.name, e.blk, e.bs.length)
theorem Dsk.ents {w : World} {B b mb n : Nat} {D : DataW Unit} {p : Pw} {room : Nat} {E : List Ent} (h : Dsk w B b mb n D p room E) : Ents w D (E.map entOf) where
  once := by
    rw [List.pairwise_map]
    exact h.once
  all x hx := by
    obtain ⟨e, he, rfl⟩ := h.all x hx
    exact ⟨_, _, List.mem_map.2 ⟨e, he, rfl⟩⟩
  here x f m hm := by
    obtain ⟨e, he, hx⟩ := List.mem_map.1 hm
    cases hx
    exact h.here e he
  leads x f m hm := by
    obtain ⟨e, he, hx⟩ := List.mem_map.1 hm
    cases hx
    exact h.leads e he
  file x f m hm := by
    obtain ⟨e, he, hx⟩ := List.mem_map.1 hm
    cases hx
    obtain ⟨A, c, hv, _, _⟩ := (h.file e he).form
    exact ⟨A, c, by rw [two_cell0 (h.file e he).blk, hv]⟩
theorem total_ents (E : List Ent) : total (E.map entOf) = (E.map fun e => e.bs.length).sum := by simp [total, entOf, Function.comp_def]
theorem le_sum {E : List Ent} {e : Ent} (h : e ∈ E) : e.bs.length ≤ (E.map fun e => e.bs.length).sum := by
  induction E with
  | nil => cases h
  | cons x E ih =>
    rw [List.map_cons, List.sum_cons]
    rcases List.mem_cons.1 h with rfl | h
    · omega
    · have := ih h
      omega

/-- What Read answers: new bytes, and an error's number. -/
def GivesR (w : World) (bs : List Int) (er : Int) (e : Ending) (w' : World) : Prop :=
  ∃ A c, e = .returned (.tuple #[.slice A bs.length c, .int .i64 er]) ∧ bs.length ≤ c ∧ Row (fun g => w.heap.size ≤ g) w' A (u8s bs) ∧ Below w.heap.size w w'

set_option maxRecDepth 100000 in
set_option maxHeartbeats 1000000 in
theorem read_hit (B b mb n : Nat) (D : DataW Unit) (p : Pw) (room : Nat) (E : List Ent) (s : ByteArray) (e0 : Ent) (w : World) (h : Dsk w B b mb n D p room E) (hd : p.down = false) (he : e0 ∈ E) (hn : e0.name = s.data.toList) (hs : s.size ≤ maxLen) :
    Calls Try.prog 17 #[.pointer (some ⟨b, 0, none⟩), .string s] w fun e w' => GivesR w e0.bs 0 e w' := by
  have hup := powerUp_any b room mb p w h.blk
  rw [hd] at hup
  have HP := Lib.hid hup
  obtain ⟨_, _, _, _, c4⟩ := h.blk.cells
  have hl := h.leads e0 he
  rw [hn] at hl
  have hrun := look_hit h.map hs hl
  have hF := h.file e0 he
  have c0 := two_cell0 hF.blk
  obtain ⟨A, c, hv, hc, _⟩ := hF.form
  rw [hv] at c0
  have hle := le_sum he
  have hft := h.fits
  have hmo := h.most
  have hrow := Row.of_own hF.row
  obtain ⟨A1, c1, hv1, _, _, hr1⟩ := hrow
  rw [hv] at hv1
  injection hv1 with e1 e2 e3
  subst e1 e3
  have HC := Lib.hid (clone_any _ A e0.bs.length c e0.bs w rfl hr1 (by omega))
  clear hup h hl hF hv hr1 hle hft hmo
  generalize e0.bs = bs at *
  generalize e0.blk = f at *
  go_enter Try.func17, Try.ntmps17
  go_wp2_with fail
  refine (HP.out).mono ?_
  rintro e w' ⟨rfl, rfl⟩
  go_wp2_with fail
  refine (HC.out).mono ?_
  rintro e w' ⟨A2, c2, rfl, hc2, hr2, hb2⟩
  have H2 := Lib.hid hr2
  have H3 := Lib.hid hb2
  clear hr2 hb2
  rw [u8s_len] at hc2
  go_wp2_with fail
  go_ret2
  exact ⟨A2, c2, rfl, hc2, H2.out, H3.out⟩

set_option maxHeartbeats 400000 in
theorem read_down (B b mb n : Nat) (D : DataW Unit) (p : Pw) (room : Nat) (E : List Ent) (s : ByteArray) (w : World) (h : Dsk w B b mb n D p room E) (hd : p.down = true) :
    Calls Try.prog 17 #[.pointer (some ⟨b, 0, none⟩), .string s] w fun e w' => GivesR w [] 9 e w' := by
  have hup := powerUp_any b room mb p w h.blk
  rw [hd] at hup
  have HP := Lib.hid hup
  clear hup h
  go_enter Try.func17, Try.ntmps17
  go_wp2_with fail
  refine (HP.out).mono ?_
  rintro e w' ⟨rfl, rfl⟩
  go_wp2_with fail
  go_ret2
  exact ⟨none, 0, rfl, Nat.le_refl _, Row.nil, Below.refl _ _⟩

set_option maxHeartbeats 400000 in
theorem read_miss (B b mb n : Nat) (D : DataW Unit) (p : Pw) (room : Nat) (E : List Ent) (s : ByteArray) (w : World) (h : Dsk w B b mb n D p room E) (hd : p.down = false) (hn : has D (.string s.data.toList) = false) (hs : s.size ≤ maxLen) :
    Calls Try.prog 17 #[.pointer (some ⟨b, 0, none⟩), .string s] w fun e w' => GivesR w [] 6 e w' := by
  have hup := powerUp_any b room mb p w h.blk
  rw [hd] at hup
  have HP := Lib.hid hup
  obtain ⟨_, _, _, _, c4⟩ := h.blk.cells
  have hrun := look_miss h.map hs hn
  clear hup h hn
  go_enter Try.func17, Try.ntmps17
  go_wp2_with fail
  refine (HP.out).mono ?_
  rintro e w' ⟨rfl, rfl⟩
  go_wp2_with fail
  go_ret2
  exact ⟨none, 0, rfl, Nat.le_refl _, Row.nil, Below.refl _ _⟩

end Go.Proofs.Ytchedflfinkppaa
