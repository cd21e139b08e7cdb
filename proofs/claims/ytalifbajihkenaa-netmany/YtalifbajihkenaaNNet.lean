/-
  A net in memory. What only reads, and Split, Heal.
-/
import Derived.Test.YtalifbajihkenaaNMap
import Derived.Deep.AppendLies
import Derived.Deep.RegionHeld3
import Derived.Deep.RegionLaw
import Derived.Deep.QuietTactic
import Derived.BigQuiet
import Derived.WalkSpells
import Derived.Laws.AppendOwn
namespace Go.Proofs.Ytalifbajihkenaa
open Go.RowKit Go.Maps
set_option linter.unusedSimpArgs false
set_option linter.unusedVariables false

/-- a slice that reads as the cells xs -/
def Row (w : World) (A : Option Addr) (xs : List Value) : Prop :=
  ∀ j, j < xs.length → ∃ ad, A = some ad ∧ ad.block < w.heap.size ∧ w.cell? (ad.add j) = xs[j]?
theorem block_add (a : Addr) (n : Nat) : (a.add n).block = a.block := by unfold Addr.add; split <;> rfl
theorem add_add (a : Addr) (i j : Nat) : (a.add i).add j = a.add (i + j) := by
  unfold Addr.add
  by_cases hi : i = 0 <;> by_cases hj : j = 0 <;> simp [hi, hj, Nat.add_assoc]
def bs (l : List Int) : List Value := l.map fun (n : Int) => Value.int .u8 n
theorem bs_len (l : List Int) : (bs l).length = l.length := by simp [bs]
theorem bs_one (l : List Int) : ∀ u ∈ bs l, u.oneCell' = true := fun u hu => by obtain ⟨x, _, rfl⟩ := List.mem_map.1 hu; rfl
theorem Row.kept {w w' : World} {A : Option Addr} {xs : List Value} (h : Row w A xs) (hs : w.heap.size ≤ w'.heap.size) (hk : ∀ ad, A = some ad → ad.block < w.heap.size → w'.heap[ad.block]? = w.heap[ad.block]?) : Row w' A xs :=
  fun j hj => by
    obtain ⟨ad, e, lt, c⟩ := h j hj
    exact ⟨ad, e, by omega, (World.cell?_of_block (by rw [block_add]; exact hk ad e lt)).trans c⟩
theorem Row.nil {w : World} {A : Option Addr} : Row w A [] := fun j hj => by simp at hj
theorem Row.below {w w' : World} {A : Option Addr} {xs : List Value} (h : Row w A xs) (hb : Below w.heap.size w w') : Row w' A xs := h.kept hb.size fun ad _ hg => hb.block _ hg

/-- a letter: from, to, the body -/
abbrev L3 := Int × Int × List Int
/-- a slice that reads as letters; none of their bodies lies in a block of X's -/
def Lts (X : Nat → Prop) (w : World) (A : Option Addr) (ls : List L3) : Prop :=
  ∀ j (hj : j < ls.length), ∃ ad, A = some ad ∧ ad.block < w.heap.size ∧ w.cell? (ad.add (j * 3)) = some (.int .i64 (ls[j]'hj).1) ∧ w.cell? ⟨(ad.add (j * 3)).block, (ad.add (j * 3)).off + 1, none⟩ = some (.int .i64 (ls[j]'hj).2.1) ∧
    ∃ (Y : Option Addr) (cy : Nat), w.cell? ⟨(ad.add (j * 3)).block, (ad.add (j * 3)).off + 2, none⟩ = some (.slice Y (ls[j]'hj).2.2.length cy) ∧ (ls[j]'hj).2.2.length ≤ cy ∧ Row w Y (bs (ls[j]'hj).2.2) ∧ ∀ a, Y = some a → ¬ X a.block ∧ a.block < w.heap.size
theorem Lts.kept {X : Nat → Prop} {w w' : World} {A : Option Addr} {ls : List L3} (h : Lts X w A ls) (hs : w.heap.size ≤ w'.heap.size) (hk : ∀ ad, A = some ad → w'.heap[ad.block]? = w.heap[ad.block]?) (hx : ∀ g, g < w.heap.size → ¬ X g → w'.heap[g]? = w.heap[g]?) : Lts X w' A ls := fun j hj => by
  obtain ⟨ad, e, lt, c0, c1, Y, cy, c2, h3, h4, h5⟩ := h j hj
  have hbk : w'.heap[(ad.add (j * 3)).block]? = w.heap[(ad.add (j * 3)).block]? := by rw [block_add]; exact hk ad e
  exact ⟨ad, e, Nat.lt_of_lt_of_le lt hs, (World.cell?_of_block hbk).trans c0, (World.cell?_of_block (a := ⟨(ad.add (j * 3)).block, (ad.add (j * 3)).off + 1, none⟩) hbk).trans c1, Y, cy,
    (World.cell?_of_block (a := ⟨(ad.add (j * 3)).block, (ad.add (j * 3)).off + 2, none⟩) hbk).trans c2, h3, h4.kept hs (fun a ea hl => hx _ hl (h5 a ea).1), fun a ea => ⟨(h5 a ea).1, Nat.lt_of_lt_of_le (h5 a ea).2 hs⟩⟩

/-- the blocks that a net writes to -/
def NB (b mb : Nat) (v : Value) (g : Nat) : Prop := g = b ∨ g = mb ∨ v.ownBlock = some g

def thereB (nodes x : Int) : Bool := decide (0 ≤ x) && decide (x < nodes)
def apartB (nodes x y : Int) : Bool := thereB nodes x && thereB nodes y && !(x == y)

/-- a net: how many nodes, its letters (at v), which pairs are split -/
structure Nt (w : World) (B b mb n : Nat) (nodes : Int) (v : Value) (ls : List L3) (sp : Int → Int → Bool) : Prop where
  blk : w.heap[b]? = some (.cells #[.int .i64 nodes, v, .map (some mb)] 67 (0, 0))
  map : SpM w mb n sp
  form : ∃ A c, v = .slice A ls.length c ∧ ls.length ≤ c ∧ c ≤ maxLen ∧ Lts (NB b mb v) w A ls
  row : ∀ g, v.ownBlock = some g → ∃ cur, w.heap[g]? = some (.cells cur 37 (0, 0))
  low : B ≤ b ∧ B ≤ mb ∧ ∀ g, v.ownBlock = some g → B ≤ g
  ok : (1 ≤ nodes ∧ nodes ≤ 16) ∧ ∀ l ∈ ls, apartB nodes l.1 l.2.1 = true

section
variable {w w' : World} {B b mb n : Nat} {nodes x y i : Int} {v : Value} {ls : List L3} {sp : Int → Int → Bool}
theorem Nt.cells (h : Nt w B b mb n nodes v ls sp) : w.cell? ⟨b, 0, none⟩ = some (.int .i64 nodes) ∧ w.cell? ⟨b, 1, none⟩ = some v ∧ w.cell? ⟨b, 2, none⟩ = some (.map (some mb)) := by
  simp [World.cell?, h.blk]
theorem Nt.free (h : Nt w B b mb n nodes v ls sp) (k : Nat) : w.frozen? ⟨b, k, none⟩ = false := by simp [World.frozen?, h.blk]
theorem Nt.below (h : Nt w B b mb n nodes v ls sp) (hb : Below w.heap.size w w') : Nt w' B b mb n nodes v ls sp where
  blk := (hb.block b (lt_of_block h.blk)).trans h.blk
  map := h.map.kept (hb.block mb h.map.lt)
  form := by
    obtain ⟨A, c, e, h1, h2, h3⟩ := h.form
    refine ⟨A, c, e, h1, h2, h3.kept hb.size (fun ad ea => ?_) fun g hg _ => hb.block g hg⟩
    obtain ⟨cur, hc⟩ := h.row ad.block (by rw [e, ea]; rfl)
    exact hb.block _ (lt_of_block hc)
  row g hg := by
    obtain ⟨cur, hc⟩ := h.row g hg
    exact ⟨cur, (hb.block g (lt_of_block hc)).trans hc⟩
  low := h.low
  ok := h.ok

/-- what a call leaves that only turns the net -/
structure Did (B b mb : Nat) (v : Value) (w w' : World) : Prop where
  below : Below B w w'
  same : ∀ g, g < w.heap.size → ¬ NB b mb v g → w'.heap[g]? = w.heap[g]?

set_option maxRecDepth 100000 in
set_option maxHeartbeats 1000000 in
theorem there_any (h : Nt w B b mb n nodes v ls sp) (x : Int) : Calls Try.prog 37 #[.pointer (some ⟨b, 0, none⟩), .int .i64 x] w fun e w' => e = .returned (.bool (thereB nodes x)) ∧ w' = w := by
  have c0 := h.cells.1
  by_cases h0 : 0 ≤ x
  · by_cases h1 : x < nodes
    · have HV : Hid (thereB nodes x = true) := by show _ = _; simp [thereB, h0, h1]
      rw [HV.out]
      go_enter Try.func37, Try.ntmps37
      go_wp2_with fail
      go_ret
      exact ⟨rfl, rfl⟩
    · have HV : Hid (thereB nodes x = false) := by show _ = _; simp [thereB, h1]
      rw [HV.out]
      go_enter Try.func37, Try.ntmps37
      go_wp2_with fail
      go_ret
      exact ⟨rfl, rfl⟩
  · have HV : Hid (thereB nodes x = false) := by show _ = _; simp [thereB, h0]
    rw [HV.out]
    go_enter Try.func37, Try.ntmps37
    go_wp2_with fail
    go_ret
    exact ⟨rfl, rfl⟩

set_option maxRecDepth 100000 in
set_option maxHeartbeats 1000000 in
theorem apart_any (h : Nt w B b mb n nodes v ls sp) (x y : Int) : Calls Try.prog 33 #[.pointer (some ⟨b, 0, none⟩), .int .i64 x, .int .i64 y] w fun e w' => e = .returned (.bool (apartB nodes x y)) ∧ w' = w := by
  have HX := Lib.hid (there_any h x)
  have HY := Lib.hid (there_any h y)
  have HV : Hid (apartB nodes x y = (thereB nodes x && thereB nodes y && !(x == y))) := rfl
  rw [HV.out]
  clear h
  cases h1 : thereB nodes x <;> cases h2 : thereB nodes y <;> cases h3 : (x == y)
  all_goals
    rw [h1] at HX
    rw [h2] at HY
    have h4 : (x != y) = !(x == y) := rfl
    rw [h3] at h4
    simp only [Bool.not_true, Bool.not_false] at h4
    go_enter Try.func33, Try.ntmps33
    go_wp2_with (first | (go_at_call 37; with_reducible refine Calls.mono (HX.out) ?_; rintro e w' ⟨rfl, rfl⟩; clear HX) | (go_at_call 37; with_reducible refine Calls.mono (HY.out) ?_; rintro e w' ⟨rfl, rfl⟩))
    go_ret
    exact ⟨rfl, rfl⟩

def fliesB (i : Int) (n : Nat) : Bool := decide (0 ≤ i) && decide (i < (n : Int))
set_option maxRecDepth 100000 in
set_option maxHeartbeats 1000000 in
theorem flies_any (h : Nt w B b mb n nodes v ls sp) (i : Int) : Calls Try.prog 32 #[.pointer (some ⟨b, 0, none⟩), .int .i64 i] w fun e w' => e = .returned (.bool (fliesB i ls.length)) ∧ w' = w := by
  have c1 := h.cells.2.1
  obtain ⟨A, c, rfl, _⟩ := h.form
  by_cases h0 : 0 ≤ i
  · by_cases h1 : i < (ls.length : Int)
    · have HV : Hid (fliesB i ls.length = true) := by show _ = _; simp [fliesB, h0, h1]
      rw [HV.out]
      go_enter Try.func32, Try.ntmps32
      go_wp2_with fail
      go_ret
      exact ⟨rfl, rfl⟩
    · have HV : Hid (fliesB i ls.length = false) := by show _ = _; simp [fliesB, h1]
      rw [HV.out]
      go_enter Try.func32, Try.ntmps32
      go_wp2_with fail
      go_ret
      exact ⟨rfl, rfl⟩
  · have HV : Hid (fliesB i ls.length = false) := by show _ = _; simp [fliesB, h0]
    rw [HV.out]
    go_enter Try.func32, Try.ntmps32
    go_wp2_with fail
    go_ret
    exact ⟨rfl, rfl⟩

set_option maxHeartbeats 1000000 in
theorem len_any (h : Nt w B b mb n nodes v ls sp) : Calls Try.prog 26 #[.pointer (some ⟨b, 0, none⟩)] w fun e w' => e = .returned (.int .i64 ls.length) ∧ w' = w := by
  have c1 := h.cells.2.1
  obtain ⟨A, c, rfl, _⟩ := h.form
  go_enter Try.func26, Try.ntmps26
  go_wp2_with fail
  go_ret
  exact ⟨rfl, rfl⟩

set_option maxHeartbeats 1000000 in
theorem pairOf_any (x y : Int) (w : World) : Calls Try.prog 34 #[.int .i64 x, .int .i64 y] w fun e w' => e = .returned (pairV (min x y) (max x y)) ∧ Below w.heap.size w w' := by
  have HB : Hid (∀ o, Below w.heap.size w (w.alloc o)) := fun o => (Below.refl _ _).alloc (Nat.le_refl _) _
  rcases Int.lt_trichotomy x y with h | rfl | h
  · have h2 : x ≤ y := by omega
    have h3 : ¬ y ≤ x := by omega
    have HV : Hid (pairV (min x y) (max x y) = .agg #[.int .i64 x, .int .i64 y]) := by show _ = _; rw [Int.min_eq_left h2, Int.max_eq_right h2]; rfl
    rw [HV.out]
    go_enter Try.func34, Try.ntmps34
    go_wp2_with fail
    all_goals first
      | exact bodyPost_ret (v := .agg #[.int .i64 x, .int .i64 y]) (by simp [results, Try.results34, go_sem]) rfl ⟨rfl, HB.out _⟩
      | omega
  · have HV : Hid (pairV (min x x) (max x x) = .agg #[.int .i64 x, .int .i64 x]) := by show _ = _; rw [Int.min_eq_left (Int.le_refl x), Int.max_eq_right (Int.le_refl x)]; rfl
    rw [HV.out]
    go_enter Try.func34, Try.ntmps34
    go_wp2_with fail
    all_goals first
      | exact bodyPost_ret (v := .agg #[.int .i64 x, .int .i64 x]) (by simp [results, Try.results34, go_sem]) rfl ⟨rfl, HB.out _⟩
      | omega
  · have h2 : y ≤ x := by omega
    have h3 : ¬ x ≤ y := by omega
    have HV : Hid (pairV (min x y) (max x y) = .agg #[.int .i64 y, .int .i64 x]) := by show _ = _; rw [Int.min_eq_right h2, Int.max_eq_left h2]; rfl
    rw [HV.out]
    go_enter Try.func34, Try.ntmps34
    go_wp2_with fail
    all_goals first
      | exact bodyPost_ret (v := .agg #[.int .i64 y, .int .i64 x]) (by simp [results, Try.results34, go_sem]) rfl ⟨rfl, HB.out _⟩
      | omega
end

end Go.Proofs.Ytalifbajihkenaa
