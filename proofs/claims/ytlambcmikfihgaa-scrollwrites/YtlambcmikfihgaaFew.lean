/-
  The contract of few.
-/
import Derived.Test.YtlambcmikfihgaaFew0
namespace Go.Proofs.Ytlambcmikfihgaa
open Go.RowKit

theorem five_cell0 {w : World} {b : Nat} {x y z u v : Value} {t : TypeId} (h : w.heap[b]? = some (.cells #[x, y, z, u, v] t (0, 0))) : w.cell? ⟨b, 0, none⟩ = some x := by simp [World.cell?, h]
theorem five_cell1 {w : World} {b : Nat} {x y z u v : Value} {t : TypeId} (h : w.heap[b]? = some (.cells #[x, y, z, u, v] t (0, 0))) : w.cell? ⟨b, 1, none⟩ = some y := by simp [World.cell?, h]
theorem five_cell2 {w : World} {b : Nat} {x y z u v : Value} {t : TypeId} (h : w.heap[b]? = some (.cells #[x, y, z, u, v] t (0, 0))) : w.cell? ⟨b, 2, none⟩ = some z := by simp [World.cell?, h]
theorem five_cell3 {w : World} {b : Nat} {x y z u v : Value} {t : TypeId} (h : w.heap[b]? = some (.cells #[x, y, z, u, v] t (0, 0))) : w.cell? ⟨b, 3, none⟩ = some u := by simp [World.cell?, h]
theorem five_cell4 {w : World} {b : Nat} {x y z u v : Value} {t : TypeId} (h : w.heap[b]? = some (.cells #[x, y, z, u, v] t (0, 0))) : w.cell? ⟨b, 4, none⟩ = some v := by simp [World.cell?, h]
theorem five_free {w : World} {b k : Nat} {x y z u v : Value} {t : TypeId} (h : w.heap[b]? = some (.cells #[x, y, z, u, v] t (0, 0))) : w.frozen? ⟨b, k, none⟩ = false := by simp [World.frozen?, h]
theorem five_set0 {w : World} {b : Nat} {x y z u v a : Value} {t : TypeId} (h : w.heap[b]? = some (.cells #[x, y, z, u, v] t (0, 0))) : (w.setCell ⟨b, 0, none⟩ a).heap[b]? = some (.cells #[a, y, z, u, v] t (0, 0)) := by
  simp [World.setCell, Array.getElem?_modify, h]
theorem five_set4 {w : World} {b : Nat} {x y z u v a : Value} {t : TypeId} (h : w.heap[b]? = some (.cells #[x, y, z, u, v] t (0, 0))) : (w.setCell ⟨b, 4, none⟩ a).heap[b]? = some (.cells #[x, y, z, u, a] t (0, 0)) := by
  simp [World.setCell, Array.getElem?_modify, h]
theorem five_set1 {w : World} {b : Nat} {x y z u v a : Value} {t : TypeId} (h : w.heap[b]? = some (.cells #[x, y, z, u, v] t (0, 0))) : (w.setCell ⟨b, 1, none⟩ a).heap[b]? = some (.cells #[x, a, z, u, v] t (0, 0)) := by
  simp [World.setCell, Array.getElem?_modify, h]
theorem five_set2 {w : World} {b : Nat} {x y z u v a : Value} {t : TypeId} (h : w.heap[b]? = some (.cells #[x, y, z, u, v] t (0, 0))) : (w.setCell ⟨b, 2, none⟩ a).heap[b]? = some (.cells #[x, y, a, u, v] t (0, 0)) := by
  simp [World.setCell, Array.getElem?_modify, h]
theorem five_set3 {w : World} {b : Nat} {x y z u v a : Value} {t : TypeId} (h : w.heap[b]? = some (.cells #[x, y, z, u, v] t (0, 0))) : (w.setCell ⟨b, 3, none⟩ a).heap[b]? = some (.cells #[x, y, z, a, v] t (0, 0)) := by
  simp [World.setCell, Array.getElem?_modify, h]
theorem new_at {w : World} {o : Obj} {g : Nat} (h : w.heap.size = g) : (w.alloc o).heap[g]? = some o := by subst h; exact heap_alloc_new w o
theorem own_empty (w : World) {B e : Nat} (h : B ≤ w.heap.size) : (w.alloc (.cells #[] e)).ownsRow B e 1 (.slice (some ⟨w.heap.size, 0, none⟩) 0 0) 0 [] :=
  ⟨rfl, .inr ⟨w.heap.size, 0, #[], rfl, h, heap_alloc_new w _, Nat.le_refl _, Nat.zero_le _, rfl, rfl⟩⟩
theorem u64s_len (xs : List Nat) : (u64s xs).length = xs.length := by simp [u64s]

theorem texts_kept {S S' : Nat → Prop} {w w' : World} {A : Option Addr} {ts : List (List Int)} (h : Texts S w A ts) (hs : w.heap.size ≤ w'.heap.size) (hk : ∀ g, g < w.heap.size → S g → w'.heap[g]? = w.heap[g]? ∧ S' g) : Texts S' w' A ts := by
  have kr : ∀ {A : Option Addr} {xs : List Value}, Row S w A xs → Row S' w' A xs := fun r => ((r.mono fun g hg s => (⟨s, (hk g hg s).2⟩ : S g ∧ S' g)).kept hs fun g hg s => (hk g hg s.1).1).mono fun g _ s => s.2
  obtain ⟨cells, h1, h2, h3⟩ := h
  refine ⟨cells, h1, kr h2, fun k hk' => ?_⟩
  obtain ⟨A', c, e, r⟩ := h3 k hk'
  exact ⟨A', c, e, kr r⟩
theorem rows_kept {S S' : Nat → Prop} {w w' : World} {A : Option Addr} {ts : List (List Int)} (h : Rows S w A ts) (hs : w.heap.size ≤ w'.heap.size) (hk : ∀ g, g < w.heap.size → S g → w'.heap[g]? = w.heap[g]? ∧ S' g) : Rows S' w' A ts := by
  have kr : ∀ {A : Option Addr} {xs : List Value}, Row S w A xs → Row S' w' A xs := fun r => ((r.mono fun g hg s => (⟨s, (hk g hg s).2⟩ : S g ∧ S' g)).kept hs fun g hg s => (hk g hg s.1).1).mono fun g _ s => s.2
  obtain ⟨cells, h1, h2, h3⟩ := h
  refine ⟨cells, h1, kr h2, fun k hk' => ?_⟩
  obtain ⟨A', c, e, r⟩ := h3 k hk'
  exact ⟨A', c, e, kr r⟩
theorem set_os (w : World) (a : Addr) (v : Value) : (w.setCell a v).os = w.os := rfl
theorem set_tape (w : World) (a : Addr) (v : Value) : (w.setCell a v).tape = w.tape := rfl
theorem set_output (w : World) (a : Addr) (v : Value) : (w.setCell a v).output = w.output := rfl
theorem set_size (w : World) (a : Addr) (v : Value) : (w.setCell a v).heap.size = w.heap.size := by simp [World.setCell]
theorem set7 {w : World} {b g : Nat} {v2 v3 a0 a1 a2 a3 a4 : Value} (h1 : g ≠ b) (h2 : g ≠ b + 1) : (((((((w.setCell ⟨b, 2, none⟩ v2).setCell ⟨b, 3, none⟩ v3).setCell ⟨b + 1, 0, none⟩ a0).setCell ⟨b + 1, 1, none⟩ a1).setCell ⟨b + 1, 2, none⟩ a2).setCell ⟨b + 1, 3, none⟩ a3).setCell ⟨b + 1, 4, none⟩ a4).heap[g]? = w.heap[g]? := by
  rw [Below.heap_setCell _ _ _ _ h2, Below.heap_setCell _ _ _ _ h2, Below.heap_setCell _ _ _ _ h2, Below.heap_setCell _ _ _ _ h2, Below.heap_setCell _ _ _ _ h2, Below.heap_setCell _ _ _ _ h1, Below.heap_setCell _ _ _ _ h1]

def GaveFew (w : World) (d m : Value) (xs : List Nat) (ts vs : List (List Int)) (e : Ending) (w' : World) : Prop :=
  ∃ A1 c1 A2 c2 A3 c3, e = .returned (.agg #[d, .slice A1 xs.length c1, .slice A2 ts.length c2, .slice A3 vs.length c3, m]) ∧ Row (fun g => w.heap.size ≤ g) w' A1 (u64s xs) ∧ Texts (fun g => w.heap.size ≤ g) w' A2 ts ∧ Rows (fun g => w.heap.size ≤ g) w' A3 vs ∧ Below w.heap.size w w'

set_option maxRecDepth 100000 in
set_option maxHeartbeats 600000 in
theorem few_any (S : Nat → Prop) (A1 A2 A3 : Option Addr) (c1 c2 c3 : Nat) (d m : Int) (xs : List Nat) (ts vs : List (List Int)) (w : World) (h1 : Row S w A1 (u64s xs)) (hc1 : xs.length ≤ c1) (hl1 : xs.length ≤ 9223372036854775807)
    (h2 : RowsC u8s w A2 ts) (hl2 : ts.length ≤ 9223372036854775807) (h3 : RowsC i32s w A3 vs) (hl3 : vs.length ≤ 9223372036854775807) :
    Calls Try.prog 6 #[.agg #[.int .u8 d, .slice A1 xs.length c1, .slice A2 ts.length c2, .slice A3 vs.length c3, .int .i64 m]] w fun e w' => GaveFew w (.int .u8 d) (.int .i64 m) (xs.take 5) (cutR 40 ts ts.length) (cutR 12 vs vs.length) e w' := by
  obtain ⟨i0, hi0, hz0, hz1, hz2⟩ := info_parts Try.info35
  obtain ⟨j0, hj0, hy0, hy1, hy2⟩ := info_parts Try.info25
  obtain ⟨k0, hk0, hx0, hx1, hx2⟩ := info_parts Try.info40
  obtain ⟨z, hz⟩ : ∃ z, min xs.length 5 = z := ⟨_, rfl⟩
  have hzA : (if (5 : Int) < (xs.length : Int) then (5 : Int) else (xs.length : Int)) = (z : Int) := by split <;> omega
  have hzB : (if (xs.length : Int) < 5 then (xs.length : Int) else (5 : Int)) = (z : Int) := by split <;> omega
  have hz5 : z ≤ 5 := by omega
  have g1 : (z : Int) ≤ (c1 : Int) := by omega
  have g0 : (0 : Int) ≤ (z : Int) := by omega
  have hzl : (xs.take 5).length = z := by rw [List.length_take]; omega
  have HZL := Lib.hid hzl
  clear hz hzl
  obtain ⟨wa, hwa⟩ : ∃ x, x = (w.alloc (.cells #[.int .u8 d, .slice A1 xs.length c1, .slice A2 ts.length c2, .slice A3 vs.length c3, .int .i64 m] 32)).alloc (.cells #[.int .u8 0, .slice none 0 0, .slice none 0 0, .slice none 0 0, .int .i64 0] 32) := ⟨_, rfl⟩
  have hsa : wa.heap.size = w.heap.size + 2 := by rw [hwa]; simp
  have hXa : wa.heap[w.heap.size]? = some (.cells #[.int .u8 d, .slice A1 xs.length c1, .slice A2 ts.length c2, .slice A3 vs.length c3, .int .i64 m] 32 (0, 0)) := by
    rw [hwa, Below.heap_alloc _ _ _ (by simp)]; exact heap_alloc_new w _
  have hYa : wa.heap[w.heap.size + 1]? = some (.cells #[.int .u8 0, .slice none 0 0, .slice none 0 0, .slice none 0 0, .int .i64 0] 32 (0, 0)) := by
    rw [hwa]; exact new_at (by simp)
  have hba : Below w.heap.size w wa := by rw [hwa]; exact ((Below.refl _ _).alloc (Nat.le_refl _) _).alloc (by simp) _
  have hwb : wa.alloc (.cells #[] 35) = ((w.alloc (.cells #[.int .u8 d, .slice A1 xs.length c1, .slice A2 ts.length c2, .slice A3 vs.length c3, .int .i64 m] 32)).alloc (.cells #[.int .u8 0, .slice none 0 0, .slice none 0 0, .slice none 0 0, .int .i64 0] 32)).alloc (.cells #[] 35) := by rw [hwa]
  have HWB := Lib.hid hwb
  have hob : (wa.alloc (.cells #[] 35)).ownsRow w.heap.size 35 1 (.slice (some ⟨w.heap.size + 2, 0, none⟩) 0 0) 0 [] := by rw [← hsa]; exact own_empty wa (by omega)
  have hrb : Row S (wa.alloc (.cells #[] 35)) A1 (u64s (xs.take 5)) := by
    have := (h1.below hba).alloc (.cells #[] 35)
    have := this.take 5
    simpa [u64s] using this
  clear hwb hwa h1
  go_enter Try.func6, Try.ntmps6
  have hu28 := Try.underlying28
  have hone : ∀ u ∈ u64s (xs.take 5), u.oneCell' = true := by intro u hu; obtain ⟨x, _, rfl⟩ := List.mem_map.1 hu; rfl
  have hlen : (u64s (xs.take 5)).length = z := by rw [u64s_len]; exact HZL.out
  have HLEN := Lib.hid hlen
  clear hlen
  have hsb : (wa.alloc (.cells #[] 35)).heap.size = w.heap.size + 3 := by simp [hsa]
  have hXb : (wa.alloc (.cells #[] 35)).heap[w.heap.size]? = _ := (Below.heap_alloc wa _ _ (by omega)).trans hXa
  have hYb : (wa.alloc (.cells #[] 35)).heap[w.heap.size + 1]? = _ := (Below.heap_alloc wa _ _ (by omega)).trans hYa
  have hbb : Below w.heap.size w (wa.alloc (.cells #[] 35)) := hba.alloc (by omega) _
  have HB1 := Lib.hid hXb
  have HB2 := Lib.hid hYb
  clear hXa hYa hba hsa hXb hYb
  go_wp2_with (at_builtin; rw [← HWB.out]; refine wpList_append_row _ rfl (.tmp 9) (.tmp 16) 28 rfl w.heap.size 35 i0 (.int .u64 0) 8 Try.underlying28 hi0 hz0 hz1 hz2 rfl (.slice (some ⟨w.heap.size + 2, 0, none⟩) 0 0) 0 [] rfl hob S A1 z c1 (u64s (xs.take 5)) rfl HLEN.out hrb hone ?e1 ?e2 ?e3 ?_; rotate_right; intro A4 c4 w4 hown4 hgrow4 hat4; rw [Nat.zero_add] at hown4 hat4 ⊢; have hX4 : w4.heap[w.heap.size]? = _ := (hgrow4.block _ (by omega) (by simp [Value.ownBlock])).trans HB1.out; have hf4 := five_free (k := 1) hX4; have q1 := five_cell1 hX4; have q2 := five_cell2 hX4; have q3 := five_cell3 hX4)
  case e1 => unfold maxLen; omega
  case e2 => omega
  case e3 => omega
  have hY4 : w4.heap[w.heap.size + 1]? = _ := (hgrow4.block _ (by omega) (by simp [Value.ownBlock])).trans HB2.out
  have hs4 : w.heap.size + 3 ≤ w4.heap.size := by have := hgrow4.size; omega
  have hb4 : Below w.heap.size w w4 := hbb.grown hgrow4 (by omega) (fun g hg => by simp [Value.ownBlock] at hg; omega)
  obtain ⟨A4', c4', e4, hc4, _, r4⟩ := Row.of_own hown4
  injection e4 with e41 _ e43
  subst e41 e43
  obtain ⟨w5, hw5⟩ : ∃ x, x = w4.setCell ⟨w.heap.size, 1, none⟩ (.slice A4 z c4) := ⟨_, rfl⟩
  have r4' : Row (fun g => w.heap.size + 2 ≤ g) w4 A4 (u64s (xs.take 5)) := r4.mono fun g _ s => by
    have s2 := s.2
    rcases hat4 with e | e
    · rw [e] at s2; simp [Value.ownBlock] at s2; omega
    · rw [e] at s2; injection s2 with s2; omega
  have hX5 : w5.heap[w.heap.size]? = some (.cells #[.int .u8 d, .slice A4 z c4, .slice A2 ts.length c2, .slice A3 vs.length c3, .int .i64 m] 32 (0, 0)) := by rw [hw5]; exact five_set1 hX4
  have hY5 : w5.heap[w.heap.size + 1]? = some (.cells #[.int .u8 0, .slice none 0 0, .slice none 0 0, .slice none 0 0, .int .i64 0] 32 (0, 0)) := by rw [hw5]; exact (Below.heap_setCell _ _ _ _ (by simp)).trans hY4
  have hs5 : w5.heap.size = w4.heap.size := by rw [hw5]; simp [World.setCell]
  have hb5 : Below w.heap.size w w5 := by
    rw [hw5]
    exact ⟨hb4.os, hb4.tape, hb4.output, by have := hb4.size; simp [World.setCell]; omega, fun k hk => (Below.heap_setCell _ _ _ _ (by simp; omega)).trans (hb4.block k hk)⟩
  have r5 : Row (fun g => w.heap.size + 2 ≤ g) w5 A4 (u64s (xs.take 5)) := by
    rw [hw5]
    exact r4'.kept (by simp [World.setCell]) fun g _ s => Below.heap_setCell _ _ _ _ (by simp; omega)
  rw [← hw5]
  have h25 := h2.below hb5
  have h35 := h3.below hb5
  have HX5 := Lib.hid hX5
  have HY5 := Lib.hid hY5
  have hb3 : w.heap.size + 3 ≤ w5.heap.size := by omega
  clear hw5 hX5 hY5 hX4 hY4 hb4 r4 r4' hown4 hgrow4 hat4 hf4 q1 q2 q3 hbb hrb hob hs5 HB1 HB2 HWB h2 h3 hsb
  clear hs4
  go_loopw [3, 4, 5, 22] (fun v _ _ i wr => ∃ k : Nat, k ≤ ts.length ∧ i = .int .i64 k ∧ OwnR u8s 25 wr w5.heap.size v (cutR 40 ts k) ∧ Below w5.heap.size w5 wr) (fun _ _ _ i _ => ts.length - (intOf i).toNat)
  case atStart => exact ⟨0, Nat.zero_le _, rfl, by simpa [cutR] using OwnR.start _ _ _ _, Below.refl _ _⟩
  case round =>
    obtain ⟨k, hk, rfl, hO, hbl⟩ := hrel
    have hsz := hbl.size
    by_cases hlt : k < ts.length
    · have i1 : (k : Int) < (ts.length : Int) := by omega
      obtain ⟨ad, At, ct, rfl, _, hcell, hct, htl, hrt⟩ := (h25.below hbl) k hlt
      by_cases h6 : k < 4
      · have i2 : (k : Int) < 4 := by omega
        have HT := Lib.hid (cutR_succ (n := 40) hlt h6)
        have hb6 := cutR_len 40 ts k
        have HC := Lib.hid (cut_any _ At ct 40 ts[k] wr hrt hct htl (by decide))
        obtain ⟨cs, hcs, hce⟩ := hO
        have HCE := Lib.hid hce
        have HG4 : Hid (∀ g, u3.ownBlock = some g → w5.heap.size ≤ g ∧ g < wr.heap.size) := fun g hg => own_lt hcs hg
        generalize ts[k] = t0 at *
        generalize t0.take 40 = t at *
        generalize cutR 40 ts k = us at *
        have HTL := Lib.hid (u8s_len t)
        clear hce h25 h35 hrt
        go_wp2_with fail
        refine (HC.out).mono ?_
        rintro e w6 ⟨A6, c6, rfl, hc6, r6, hb6'⟩
        rw [HTL.out] at hc6 ⊢
        have hs6 : wr.heap.size ≤ w6.heap.size := hb6'.size
        have hcs6 := (own_below hcs hb6').alloc (.cells #[.slice A6 t.length c6] 25)
        have hn6 : Row (fun _ => True) (w6.alloc (.cells #[.slice A6 t.length c6] 25)) (some ⟨w6.heap.size, 0, none⟩) [.slice A6 t.length c6] := Row.of_block (heap_alloc_new w6 _) trivial
        go_wp2_with (at_builtin; refine wpList_append_row _ rfl (.tmp 29) (.tmp 32) 29 rfl w5.heap.size 25 j0 (.slice none 0 0) 24 Try.underlying29 hj0 hy0 hy1 hy2 rfl u3 us.length cs rfl hcs6 (fun _ => True) (some ⟨w6.heap.size, 0, none⟩) 1 1 [.slice A6 t.length c6] rfl rfl hn6 ?k1 ?k2 ?k3 ?k4 ?_; rotate_right; intro A7 c7 w7 hown7 hgrow7 hat7)
        case k1 => simp [Value.oneCell']
        case k2 => unfold maxLen; omega
        case k3 => omega
        case k4 => simp; omega
        have h2 : CellsR u8s (fun g => w5.heap.size ≤ g ∧ some g ≠ u3.ownBlock) w6 cs us := HCE.out.kept hs6 fun g hg s => ⟨hb6'.block g hg, s⟩
        have h3 : CellsR u8s (fun g => w5.heap.size ≤ g ∧ some g ≠ u3.ownBlock) w6 [.slice A6 t.length c6] [t] :=
          CellsR.one (r6.mono fun g hg1 hg => ⟨by omega, fun e => by have := (HG4.out g e.symm).2; omega⟩)
        have HO := Lib.hid (OwnR.step (us := [t]) h2 h3 hown7 hgrow7 (by simpa using hat7))
        have hbA : Below w5.heap.size w5 w7 := ((hbl.trans (hb6'.mono hsz)).alloc (by omega) _).grown hgrow7 (by simp; omega) (fun g hg => (HG4.out g hg).1)
        clear hown7 hgrow7 hat7 h2 h3 hcs6 hn6 r6 hb6' hcs
        go_wp2_with fail
        go_roundw
        case rel => exact ⟨k + 1, by omega, by go_num, by rw [HT.out]; exact HO.out, hbA⟩
        case measure => simp [intOf]; omega
      · have i2 : ¬ (k : Int) < 4 := by omega
        have HE := Lib.hid (cutR_over (n := 40) (ts := ts) h6)
        clear h25 h35 hrt
        go_wp2_with fail
        go_roundw
        case rel => exact ⟨k + 1, by omega, by go_num, by rw [HE.out]; exact hO, hbl⟩
        case measure => simp [intOf]; omega
    · have i1 : ¬ (k : Int) < (ts.length : Int) := by omega
      obtain rfl : k = ts.length := by omega
      have hlu := cutR_len 40 ts ts.length
      have HX6 := Lib.hid ((hbl.block _ (by omega)).trans HX5.out)
      have HY6 := Lib.hid ((hbl.block _ (by omega)).trans HY5.out)
      have q3 := five_cell3 HX6.out
      have r6 := r5.below hbl
      have h36 := h35.below hbl
      have hb6 : Below w.heap.size w wr := hb5.trans (hbl.mono hb5.size)
      have HO1 := Lib.hid hO
      clear h25 h35 r5 hO HX5 HY5 hk
      have hs56 : w.heap.size + 3 ≤ wr.heap.size := by omega
      obtain ⟨wo, hwo⟩ : ∃ x, x = wr := ⟨_, rfl⟩
      subst hwo
      go_wp2_with fail
      go_loopw [6, 7, 8, 38] (fun v _ _ i wx => ∃ k : Nat, k ≤ vs.length ∧ i = .int .i64 k ∧ OwnR i32s 40 wx wo.heap.size v (cutR 12 vs k) ∧ Below wo.heap.size wo wx) (fun _ _ _ i _ => vs.length - (intOf i).toNat)
      case atStart => exact ⟨0, Nat.zero_le _, rfl, by simpa [cutR] using OwnR.start _ _ _ _, Below.refl _ _⟩
      case round =>
        obtain ⟨k, hk, rfl, hO, hbx⟩ := hrel
        have hsx := hbx.size
        by_cases hlt : k < vs.length
        · have i1 : (k : Int) < (vs.length : Int) := by omega
          obtain ⟨ad, At, ct, rfl, _, hcell, hct, htl, hrt⟩ := (h36.below hbx) k hlt
          by_cases h6 : k < 4
          · have i2 : (k : Int) < 4 := by omega
            have HT := Lib.hid (cutR_succ (n := 12) hlt h6)
            have hb6v := cutR_len 12 vs k
            have HC := Lib.hid (cutVec_any _ At ct 12 vs[k] wr hrt hct htl (by decide))
            obtain ⟨cs, hcs, hce⟩ := hO
            have HCE := Lib.hid hce
            have HG4 : Hid (∀ g, u6.ownBlock = some g → wo.heap.size ≤ g ∧ g < wr.heap.size) := fun g hg => own_lt hcs hg
            generalize vs[k] = t0 at *
            generalize t0.take 12 = t at *
            generalize cutR 12 vs k = us at *
            have HTL := Lib.hid (i32s_len t)
            clear hce h36 hrt
            go_wp2_with fail
            refine (HC.out).mono ?_
            rintro e w6 ⟨A6, c6, rfl, hc6, r6', hb6'⟩
            rw [HTL.out] at hc6 ⊢
            have hs6 : wr.heap.size ≤ w6.heap.size := hb6'.size
            have hcs6 := (own_below hcs hb6').alloc (.cells #[.slice A6 t.length c6] 40)
            have hn6 : Row (fun _ => True) (w6.alloc (.cells #[.slice A6 t.length c6] 40)) (some ⟨w6.heap.size, 0, none⟩) [.slice A6 t.length c6] := Row.of_block (heap_alloc_new w6 _) trivial
            go_wp2_with (at_builtin; refine wpList_append_row _ rfl (.tmp 45) (.tmp 48) 30 rfl wo.heap.size 40 k0 (.slice none 0 0) 24 Try.underlying30 hk0 hx0 hx1 hx2 rfl u6 us.length cs rfl hcs6 (fun _ => True) (some ⟨w6.heap.size, 0, none⟩) 1 1 [.slice A6 t.length c6] rfl rfl hn6 ?m1 ?m2 ?m3 ?m4 ?_; rotate_right; intro A7 c7 w7 hown7 hgrow7 hat7)
            case m1 => simp [Value.oneCell']
            case m2 => unfold maxLen; omega
            case m3 => omega
            case m4 => simp; omega
            have h2 : CellsR i32s (fun g => wo.heap.size ≤ g ∧ some g ≠ u6.ownBlock) w6 cs us := HCE.out.kept hs6 fun g hg s => ⟨hb6'.block g hg, s⟩
            have h3 : CellsR i32s (fun g => wo.heap.size ≤ g ∧ some g ≠ u6.ownBlock) w6 [.slice A6 t.length c6] [t] :=
              CellsR.one (r6'.mono fun g hg1 hg => ⟨by omega, fun e => by have := (HG4.out g e.symm).2; omega⟩)
            have HO := Lib.hid (OwnR.step (us := [t]) h2 h3 hown7 hgrow7 (by simpa using hat7))
            have hbA : Below wo.heap.size wo w7 := ((hbx.trans (hb6'.mono hsx)).alloc (by omega) _).grown hgrow7 (by simp; omega) (fun g hg => (HG4.out g hg).1)
            clear hown7 hgrow7 hat7 h2 h3 hcs6 hn6 r6' hb6' hcs
            go_wp2_with fail
            go_roundw
            case rel => exact ⟨k + 1, by omega, by go_num, by rw [HT.out]; exact HO.out, hbA⟩
            case measure => simp [intOf]; omega
          · have i2 : ¬ (k : Int) < 4 := by omega
            have HE := Lib.hid (cutR_over (n := 12) (ts := vs) h6)
            clear h36 hrt
            go_wp2_with fail
            go_roundw
            case rel => exact ⟨k + 1, by omega, by go_num, by rw [HE.out]; exact hO, hbx⟩
            case measure => simp [intOf]; omega
        · have i1 : ¬ (k : Int) < (vs.length : Int) := by omega
          obtain rfl : k = vs.length := by omega
          have hX7 := (hbx.block _ (by omega)).trans HX6.out
          have hY7 := (hbx.block _ (by omega)).trans HY6.out
          obtain ⟨B2, e2, rfl, he2, t2⟩ := HO1.out.texts
          obtain ⟨B3, e3, rfl, he3, t3⟩ := hO.rows
          have x0 := five_cell0 hX7
          have x1 := five_cell1 hX7
          have x2 := five_cell2 hX7
          have x3 := five_cell3 hX7
          have x4 := five_cell4 hX7
          have f2 := five_free (k := 2) hX7
          have f3 := five_free (k := 3) hX7
          have y0 := five_cell0 hY7
          have y1 := five_cell1 hY7
          have y2 := five_cell2 hY7
          have y3 := five_cell3 hY7
          have y4 := five_cell4 hY7
          have p0 := five_free (k := 0) hY7
          have p1 := five_free (k := 1) hY7
          have p2 := five_free (k := 2) hY7
          have p3 := five_free (k := 3) hY7
          have p4 := five_free (k := 4) hY7
          have HY7 := Lib.hid hY7
          clear q3 hX7 hY7
          go_wp2_with fail
          obtain ⟨w9, hw9⟩ : ∃ x, x = ((((((wr.setCell ⟨w.heap.size, 2, none⟩ (.slice B2 (cutR 40 ts ts.length).length e2)).setCell ⟨w.heap.size, 3, none⟩ (.slice B3 (cutR 12 vs vs.length).length e3)).setCell ⟨w.heap.size + 1, 0, none⟩ (.int .u8 d)).setCell ⟨w.heap.size + 1, 1, none⟩ (.slice A4 z c4)).setCell ⟨w.heap.size + 1, 2, none⟩ (.slice B2 (cutR 40 ts ts.length).length e2)).setCell ⟨w.heap.size + 1, 3, none⟩ (.slice B3 (cutR 12 vs vs.length).length e3)).setCell ⟨w.heap.size + 1, 4, none⟩ (.int .i64 m) := ⟨_, rfl⟩
          have hs9 : w9.heap.size = wr.heap.size := by rw [hw9]; simp only [set_size]
          have hk9 : ∀ g, g ≠ w.heap.size → g ≠ w.heap.size + 1 → w9.heap[g]? = wr.heap[g]? := fun g g1 g2 => by rw [hw9]; exact set7 g1 g2
          have hb9 : Below w.heap.size w w9 := by
            have hb7 := hb6.trans (hbx.mono hb6.size)
            refine ⟨?_, ?_, ?_, by rw [hs9]; exact hb7.size, fun k hk => (hk9 k (by omega) (by omega)).trans (hb7.block k hk)⟩
            · rw [hw9]; simp only [set_os]; exact hb7.os
            · rw [hw9]; simp only [set_tape]; exact hb7.tape
            · rw [hw9]; simp only [set_output]; exact hb7.output
          have hr9 : Row (fun g => w.heap.size ≤ g) w9 A4 (u64s (xs.take 5)) := ((r6.below hbx).kept (by omega) fun g _ s => hk9 g (by omega) (by omega)).mono fun g _ s => by omega
          have ht9 : Texts (fun g => w.heap.size ≤ g) w9 B2 (cutR 40 ts ts.length) := texts_kept t2 (by omega) fun g hg s => ⟨(hk9 g (by omega) (by omega)).trans (hbx.block g hg), by omega⟩
          have hv9 : Rows (fun g => w.heap.size ≤ g) w9 B3 (cutR 12 vs vs.length) := rows_kept t3 (by omega) fun g hg s => ⟨hk9 g (by omega) (by omega), by omega⟩
          have HG := Lib.hid (show GaveFew w (.int .u8 d) (.int .i64 m) (xs.take 5) (cutR 40 ts ts.length) (cutR 12 vs vs.length) (.returned (.agg #[.int .u8 d, .slice A4 (xs.take 5).length c4, .slice B2 (cutR 40 ts ts.length).length e2, .slice B3 (cutR 12 vs vs.length).length e3, .int .i64 m])) w9 from ⟨A4, c4, B2, e2, B3, e3, rfl, hr9, ht9, hv9, hb9⟩)
          rw [HZL.out] at HG
          have hY9 : w9.heap[w.heap.size + 1]? = some (.cells #[.int .u8 d, .slice A4 z c4, .slice B2 (cutR 40 ts ts.length).length e2, .slice B3 (cutR 12 vs vs.length).length e3, .int .i64 m] 32 (0, 0)) := by
            rw [hw9]
            exact five_set4 (five_set3 (five_set2 (five_set1 (five_set0 ((Below.heap_setCell _ _ _ _ (by simp)).trans ((Below.heap_setCell _ _ _ _ (by simp)).trans HY7.out))))))
          have z0 := five_cell0 hY9
          have z1 := five_cell1 hY9
          have z2 := five_cell2 hY9
          have z3 := five_cell3 hY9
          have z4 := five_cell4 hY9
          rw [← hw9]
          clear hw9 hs9 hk9 hb9 hr9 ht9 hv9 t2 t3 r6 h36 hY9 x0 x1 x2 x3 x4 f2 f3 y0 y1 y2 y3 y4 p0 p1 p2 p3 p4
          refine bodyPost_ret (v := .agg #[.int .u8 d, .slice A4 z c4, .slice B2 (cutR 40 ts ts.length).length e2, .slice B3 (cutR 12 vs vs.length).length e3, .int .i64 m]) (by simp [results, Try.results6, go_sem, z0, z1, z2, z3, z4]) rfl ?_
          exact HG.out

end Go.Proofs.Ytlambcmikfihgaa
