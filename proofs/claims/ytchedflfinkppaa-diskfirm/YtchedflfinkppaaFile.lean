/-
  A file in memory; the contracts of settle, cut, loose, kept.
-/
import Derived.Test.YtchedflfinkppaaPowA
namespace Go.Proofs.Ytchedflfinkppaa
open Go.RowKit

/-- A file: its block, its bytes in a row of its own, how many of them are firm. -/
structure Fil (w : World) (B f : Nat) (v : Value) (bs : List Int) (firm : Nat) : Prop where
  blk : w.heap[f]? = some (.cells #[v, .int .i64 (firm : Int)] 92 (0, 0))
  row : w.ownsRow B 5 1 v bs.length (u8s bs)
  le : firm ≤ bs.length
theorem two_cell0 {w : World} {b : Nat} {x y : Value} {t : TypeId} (h : w.heap[b]? = some (.cells #[x, y] t (0, 0))) : w.cell? ⟨b, 0, none⟩ = some x := by simp [World.cell?, h]
theorem two_cell1 {w : World} {b : Nat} {x y : Value} {t : TypeId} (h : w.heap[b]? = some (.cells #[x, y] t (0, 0))) : w.cell? ⟨b, 1, none⟩ = some y := by simp [World.cell?, h]
theorem two_free {w : World} {b k : Nat} {x y : Value} {t : TypeId} (h : w.heap[b]? = some (.cells #[x, y] t (0, 0))) : w.frozen? ⟨b, k, none⟩ = false := by simp [World.frozen?, h]
theorem two_set0 {w : World} {b : Nat} {x y a : Value} {t : TypeId} (h : w.heap[b]? = some (.cells #[x, y] t (0, 0))) : (w.setCell ⟨b, 0, none⟩ a).heap[b]? = some (.cells #[a, y] t (0, 0)) := by simp [World.setCell, Array.getElem?_modify, h]
theorem two_set1 {w : World} {b : Nat} {x y a : Value} {t : TypeId} (h : w.heap[b]? = some (.cells #[x, y] t (0, 0))) : (w.setCell ⟨b, 1, none⟩ a).heap[b]? = some (.cells #[x, a] t (0, 0)) := by simp [World.setCell, Array.getElem?_modify, h]
theorem own_lt {w : World} {B e s n g : Nat} {v : Value} {xs : List Value} (h : w.ownsRow B e s v n xs) (hv : v.ownBlock = some g) : B ≤ g ∧ g < w.heap.size := by
  rcases h.2 with ⟨rfl, _⟩ | ⟨g', cap, cur, rfl, hb, hh, r⟩
  · simp [Value.ownBlock] at hv
  · obtain rfl : g' = g := by simpa [Value.ownBlock] using hv
    exact ⟨hb, lt_of_block hh⟩
theorem Fil.off {w : World} {B f : Nat} {v : Value} {bs : List Int} {firm : Nat} (h : Fil w B f v bs firm) : v.ownBlock ≠ some f := fun e => by
  rcases h.row.2 with ⟨rfl, _⟩ | ⟨g', cap, cur, rfl, hb, hh, _, _, hcs, _⟩
  · simp [Value.ownBlock] at e
  · obtain rfl : g' = f := by simpa [Value.ownBlock] using e
    rw [h.blk] at hh
    injection hh with hh
    injection hh with h1 h2 h3
    cases h2
theorem Fil.form {w : World} {B f : Nat} {v : Value} {bs : List Int} {firm : Nat} (h : Fil w B f v bs firm) : ∃ A c, v = .slice A bs.length c ∧ bs.length ≤ c ∧ c ≤ 9223372036854775807 := by
  rcases h.row.2 with ⟨rfl, e⟩ | ⟨g', cap, cur, rfl, hb, hh, h1, h2, _⟩
  · exact ⟨none, 0, by rw [e], by omega, by decide⟩
  · exact ⟨_, cap, rfl, h1, by unfold maxLen at h2; omega⟩
/-- the first few of a row of the call's own -/
theorem own_cut {w : World} {B e n k c : Nat} {A : Option Addr} {xs : List Value} (h : w.ownsRow B e 1 (.slice A n c) n xs) (hk : k ≤ n) : w.ownsRow B e 1 (.slice A k c) k (xs.take k) := by
  have hl : xs.length = n := by simpa using h.1
  refine ⟨by rw [List.length_take]; omega, ?_⟩
  rcases h.2 with ⟨e0, e1⟩ | ⟨g, cap, cur, e0, hb, hh, h1, h2, h3, h4⟩
  · injection e0 with e0 e2 e3
    subst e0 e3
    obtain rfl : k = 0 := by omega
    exact .inl ⟨rfl, rfl⟩
  · injection e0 with e0 e2 e3
    subst e0 e3
    refine .inr ⟨g, c, cur, rfl, hb, hh, by omega, h2, h3, ?_⟩
    rw [← h4, List.take_take]
    congr 1
    omega

set_option maxHeartbeats 400000 in
theorem settle_any (B f firm : Nat) (v : Value) (bs : List Int) (w : World) (h : Fil w B f v bs firm) :
    Calls Try.prog 45 #[.pointer (some ⟨f, 0, none⟩)] w fun e w' => e = .returned (.tuple #[]) ∧ Fil w' B f v bs bs.length ∧ Only f w w' := by
  have c0 := two_cell0 h.blk
  have c1 := two_cell1 h.blk
  have f1 := two_free (k := 1) h.blk
  have HF : Hid (Fil (w.setCell ⟨f, 1, none⟩ (.int .i64 (bs.length : Int))) B f v bs bs.length) := ⟨two_set1 h.blk, ownsRow_setCell_other h.row (by simpa using h.off) _, Nat.le_refl _⟩
  obtain ⟨A, c, rfl, _, _⟩ := h.form
  clear h
  go_enter Try.func45, Try.ntmps45
  go_wp2_with fail
  go_end0
  exact ⟨rfl, HF.out, (Only.refl _ _).set _ _⟩

set_option maxHeartbeats 400000 in
theorem cut_any (B f firm size : Nat) (v : Value) (bs : List Int) (w : World) (h : Fil w B f v bs firm) (hs : size ≤ bs.length) :
    Calls Try.prog 52 #[.pointer (some ⟨f, 0, none⟩), .int .i64 (size : Int)] w fun e w' => e = .returned (.tuple #[]) ∧ ∃ v', Fil w' B f v' (bs.take size) (min firm size) ∧ v'.ownBlock = v.ownBlock ∧ Only f w w' := by
  have c0 := two_cell0 h.blk
  have c1 := two_cell1 h.blk
  have f0 := two_free (k := 0) h.blk
  have f1 := two_free (k := 1) h.blk
  obtain ⟨A, c, rfl, hc, hc9⟩ := h.form
  have hlt : (bs.take size).length = size := by rw [List.length_take]; omega
  have hfin : Fil ((w.setCell ⟨f, 0, none⟩ (.slice A size c)).setCell ⟨f, 1, none⟩ (.int .i64 ((min firm size : Nat) : Int))) B f (.slice A size c) (bs.take size) (min firm size) := by
    have h1 := own_cut h.row hs
    have e1 : (u8s bs).take size = u8s (bs.take size) := by simp [u8s]
    rw [e1] at h1
    have hoff : (Value.slice A size c).ownBlock ≠ some f := fun e => h.off (by rw [← e]; cases A <;> rfl)
    refine ⟨two_set1 (two_set0 h.blk), ?_, by rw [hlt]; omega⟩
    rw [hlt]
    exact ownsRow_setCell_other (ownsRow_setCell_other h1 (by simpa using hoff) _) (by simpa using hoff) _
  have hob : (Value.slice A size c).ownBlock = (Value.slice A bs.length c).ownBlock := by cases A <;> rfl
  have i1 : (size : Int) ≤ (c : Int) := by omega
  clear h
  by_cases hm : size < firm
  · rw [Nat.min_eq_right (by omega)] at hfin ⊢
    have HF := Lib.hid hfin
    have i2 : (size : Int) < (firm : Int) := by omega
    have HOB := Lib.hid hob
    clear hfin hob
    go_enter Try.func52, Try.ntmps52
    go_wp2_with fail
    go_end0
    exact ⟨rfl, _, HF.out, HOB.out, ((Only.refl _ _).set _ _).set _ _⟩
  · rw [Nat.min_eq_left (by omega)] at hfin ⊢
    have HF := Lib.hid hfin
    have i2 : ¬ (size : Int) < (firm : Int) := by omega
    have HOB := Lib.hid hob
    clear hfin hob
    go_enter Try.func52, Try.ntmps52
    go_wp2_with fail
    go_end0
    exact ⟨rfl, _, HF.out, HOB.out, ((Only.refl _ _).set _ _).set _ _⟩

set_option maxHeartbeats 400000 in
theorem loose_any (B f firm : Nat) (v : Value) (bs : List Int) (w : World) (h : Fil w B f v bs firm) :
    Calls Try.prog 54 #[.pointer (some ⟨f, 0, none⟩)] w fun e w' => e = .returned (.int .i64 ((bs.length - firm : Nat) : Int)) ∧ ∃ n, w' = w.drewN n := by
  have c0 := two_cell0 h.blk
  have c1 := two_cell1 h.blk
  have hle := h.le
  obtain ⟨A, c, rfl, hc, hc9⟩ := h.form
  have i1 : IntKind.i64.wrap ((bs.length : Int) - (firm : Int)) = (bs.length : Int) - (firm : Int) := by rw [IntKind.wrap_i64]; omega
  have HE := Lib.hid (show ((bs.length - firm : Nat) : Int) = (bs.length : Int) - (firm : Int) by omega)
  clear h
  go_enter Try.func54, Try.ntmps54
  go_wp2_with fail
  go_quiet (fail)
  go_wp2_with fail
  go_ret
  exact ⟨by rw [HE.out]; rfl, _, rfl⟩

def i64s (l : List Int) : List Value := l.map fun (n : Int) => Value.int .i64 n
theorem i64s_at {xs : List Int} {k : Nat} (h : k < xs.length) : (i64s xs)[k]? = some (.int .i64 xs[k]) := by simp [i64s, h]
theorem i64s_len (xs : List Int) : (i64s xs).length = xs.length := by simp [i64s]
/-- how many loose bytes the i-th file keeps -/
def keptN (i : Nat) (keep : List Int) (loose : Nat) : Nat := match keep[i]? with | some x => if x < 0 then 0 else x.toNat % (loose + 1) | none => 0
theorem keptN_le (i : Nat) (keep : List Int) (loose : Nat) : keptN i keep loose ≤ loose := by
  unfold keptN
  split
  · split
    · omega
    · rename_i x _ _
      have := Nat.mod_lt x.toNat (show 0 < loose + 1 by omega)
      omega
  · omega

set_option maxHeartbeats 400000 in
theorem kept_any (S : Nat → Prop) (i loose : Nat) (A : Option Addr) (c : Nat) (keep : List Int) (w : World) (hr : Row S w A (i64s keep)) (hi : i ≤ 1000000) (hl : loose ≤ 1000000000) (hk : keep.length ≤ 9223372036854775807) :
    Calls Try.prog 53 #[.int .i64 (i : Int), .slice A keep.length c, .int .i64 (loose : Int)] w fun e w' => e = .returned (.int .i64 (keptN i keep loose : Nat)) ∧ w = w' := by
  by_cases h1 : i < keep.length
  · obtain ⟨ad, rfl, _, _, hc⟩ := hr i (by rw [i64s_len]; exact h1)
    rw [i64s_at h1] at hc
    have j1 : ¬ (keep.length : Int) ≤ (i : Int) := by omega
    have j2 : (i : Int) < (keep.length : Int) := by omega
    by_cases h2 : keep[i] < 0
    · have HK : Hid (keptN i keep loose = 0) := by show _ = _; unfold keptN; rw [List.getElem?_eq_getElem h1]; simp [h2]
      generalize keep[i] = x at *
      clear hr
      go_enter Try.func53, Try.ntmps53
      go_wp2_with fail
      go_ret
      exact ⟨by rw [HK.out]; rfl, rfl⟩
    · have HK : Hid ((keptN i keep loose : Nat) = (keep[i]).toNat % (loose + 1)) := by show _ = _; unfold keptN; rw [List.getElem?_eq_getElem h1]; simp [h2]
      obtain ⟨x, hx⟩ : ∃ x : Nat, keep[i] = (x : Int) := ⟨(keep[i]).toNat, by omega⟩
      rw [hx] at hc HK
      rw [Int.toNat_natCast] at HK
      have t1 : Int.tmod (x : Int) ((loose : Int) + 1) = ((x % (loose + 1) : Nat) : Int) := by
        rw [Int.tmod_eq_emod_of_nonneg (by omega), Int.natCast_emod, Int.natCast_add]
        rfl
      have t2 : (x : Int) % ((loose : Int) + 1) = ((x % (loose + 1) : Nat) : Int) := by rw [Int.natCast_emod, Int.natCast_add]; rfl
      have t3 : ¬ (x : Int) < 0 := by omega
      clear hr hx h2
      generalize x % (loose + 1) = y at *
      go_enter Try.func53, Try.ntmps53
      go_wp2_with fail
      go_ret
      exact ⟨by rw [HK.out]; rfl, rfl⟩
  · have HK : Hid (keptN i keep loose = 0) := by show _ = _; unfold keptN; rw [List.getElem?_eq_none (by omega)]
    have j1 : (keep.length : Int) ≤ (i : Int) := by omega
    clear hr
    go_enter Try.func53, Try.ntmps53
    go_wp2_with fail
    go_ret
    exact ⟨by rw [HK.out]; rfl, rfl⟩

end Go.Proofs.Ytchedflfinkppaa
