/-
  The contract of the statements' whole: parts, not too many, not too long, and all of them together.
-/
import Derived.Test.YtaihemmnpliehaaDoorWhole
namespace Go.Proofs.YtaihemmnpliehaaDoor
open Go.RowKit

/-- Slices of bytes that came in. -/
def TextsC (w : World) (A : Option Addr) (ts : List (List Int)) : Prop :=
  ∀ k (h : k < ts.length), ∃ ad A' c, A = some ad ∧ ad.block < w.heap.size ∧ w.cell? (ad.add k) = some (.slice A' (ts[k]).length c) ∧ (ts[k]).length ≤ c ∧ (ts[k]).length ≤ 9223372036854775807 ∧ Row (fun _ => True) w A' (u8s ts[k])
theorem TextsC.below {w w' : World} {A : Option Addr} {ts : List (List Int)} (h : TextsC w A ts) (hb : Below w.heap.size w w') : TextsC w' A ts := fun k hk => by
  obtain ⟨ad, A', c, e, lt, hc, h1, h2, r⟩ := h k hk
  exact ⟨ad, A', c, e, by have := hb.size; omega, (hb.cell (p := ad.add k) (by rw [block_add]; exact lt)).trans hc, h1, h2, r.below hb⟩

theorem own_types {w : World} {B B' e e' s s' n n' : Nat} {v u : Value} {xs ys : List Value} (h : w.ownsRow B e s v n xs) (k : w.ownsRow B' e' s' u n' ys) (hne : e ≠ e') : ∀ g, v.ownBlock = some g → u.ownBlock ≠ some g := fun g hv hu => by
  rcases h.2 with ⟨rfl, _⟩ | ⟨g1, _, _, rfl, _, hh, _⟩
  · simp [Value.ownBlock] at hv
  · rcases k.2 with ⟨rfl, _⟩ | ⟨g2, _, _, rfl, _, hk, _⟩
    · simp [Value.ownBlock] at hu
    · obtain rfl : g1 = g := by simpa [Value.ownBlock] using hv
      obtain rfl : g2 = g1 := by simpa [Value.ownBlock] using hu
      rw [hh] at hk
      injection hk with hk
      injection hk with _ ht
      exact hne ht
theorem OwnT.grow {X X' : Nat → Prop} {w w' : World} {B : Nat} {v : Value} {ts : List (List Int)} {row : Option Nat} (h : OwnT X w B v ts) (hg : w.grownBy w' row) (hv : ∀ g, v.ownBlock = some g → row ≠ some g) (hX : ∀ g, g < w.heap.size → X g → some g ≠ row ∧ X' g) : OwnT X' w' B v ts := by
  obtain ⟨cs, h1, h2⟩ := h
  exact ⟨cs, own_kept h1 hg hv, h2.kept hg.size fun g hg' s => ⟨hg.block g hg' (hX g hg' s.2).1, s.1, (hX g hg' s.2).2⟩⟩

theorem Row.grow {S : Nat → Prop} {w w' : World} {A : Option Addr} {xs : List Value} {o : Obj} {row : Option Nat} (h : Row S w A xs) (hg : (w.alloc o).grownBy w' row) (hne : ∀ g, g < w.heap.size → S g → some g ≠ row) : Row S w' A xs :=
  h.kept (by have := hg.size; simp at this; omega) fun g hg' s => by rw [hg.block g (by simp; omega) (hne g hg' s), Below.heap_alloc _ _ _ hg']
theorem own_none (w : World) (B : Nat) : w.ownsRow B 5 1 (.slice none 0 0) 0 [] := ⟨by simp, .inl ⟨rfl, rfl⟩⟩

def cutT (ts : List (List Int)) (k : Nat) : List (List Int) := (ts.take (min k 6)).map (·.take 1000)
theorem cutT_succ {ts : List (List Int)} {k : Nat} (h : k < ts.length) (h6 : k < 6) : cutT ts (k + 1) = cutT ts k ++ [ts[k].take 1000] := by
  unfold cutT
  rw [show min (k + 1) 6 = k + 1 by omega, show min k 6 = k by omega, List.take_succ_eq_append_getElem h, List.map_append]; rfl
theorem cutT_bulk (ts : List (List Int)) (k : Nat) : (cutT ts k).length ≤ 6 ∧ (cutT ts k).flatten.length ≤ 6000 := by
  have h1 : (cutT ts k).length ≤ 6 := by unfold cutT; rw [List.length_map, List.length_take]; omega
  refine ⟨h1, ?_⟩
  have h2 : ∀ us : List (List Int), (∀ t ∈ us, t.length ≤ 1000) → us.flatten.length ≤ 1000 * us.length := fun us => by
    induction us with
    | nil => simp
    | cons t us ih =>
      intro h
      have h3 := h t (List.mem_cons_self ..)
      have h4 := ih fun x hx => h x (List.mem_cons_of_mem _ hx)
      rw [List.flatten_cons, List.length_append, List.length_cons]
      omega
  have h3 := h2 (cutT ts k) (fun t ht => by
    obtain ⟨x, _, rfl⟩ := List.mem_map.1 ht
    rw [List.length_take]; omega)
  omega

def GivesW (w : World) (ts : List (List Int)) (e : Ending) (w' : World) : Prop :=
  ∃ v va, e = .returned (.tuple #[v, va]) ∧ OwnT (fun _ => True) w' w.heap.size v ts ∧ w'.ownsRow w.heap.size 5 1 va ts.flatten.length (u8s ts.flatten) ∧ Below w.heap.size w w'

set_option maxRecDepth 100000 in
set_option maxHeartbeats 1600000 in
theorem whole_any (A : Option Addr) (c : Nat) (ts : List (List Int)) (w : World) (h : TextsC w A ts) (hl : ts.length ≤ 9223372036854775807) :
    Calls Tryd.prog 11 #[.slice A ts.length c] w fun e w' => GivesW w (cutT ts ts.length) e w' := by
  obtain ⟨i0, hi0, hz0, hz1, hz2⟩ := info_parts Tryd.info5
  obtain ⟨j0, hj0, hy0, hy1, hy2⟩ := info_parts Tryd.info24
  go_enter Tryd.func11, Tryd.ntmps11
  go_wp2_with fail
  go_loopw [4, 5, 6, 7, 10] (fun v va _ _ i wr => ∃ k : Nat, k ≤ ts.length ∧ i = .int .i64 k ∧ OwnT (fun g => some g ≠ va.ownBlock) wr w.heap.size v (cutT ts k) ∧ wr.ownsRow w.heap.size 5 1 va (cutT ts k).flatten.length (u8s (cutT ts k).flatten) ∧ Below w.heap.size w wr) (fun _ _ _ _ i _ => ts.length - (intOf i).toNat)
  case atStart => exact ⟨0, Nat.zero_le _, rfl, by simpa [cutT] using OwnT.start _ _ _, own_none w _, Below.refl _ _⟩
  case round =>
    obtain ⟨k, hk, rfl, hO, hA, hbl⟩ := hrel
    have hsz := hbl.size
    by_cases hlt : k < ts.length
    · have i1 : (k : Int) < (ts.length : Int) := by omega
      obtain ⟨ad, At, ct, rfl, _, hcell, hct, htl, hrt⟩ := (h.below hbl) k hlt
      by_cases h6 : k < 6
      · have i2 : (k : Int) < 6 := by omega
        have HT := Lib.hid (cutT_succ hlt h6)
        obtain ⟨hb6, hbf⟩ := cutT_bulk ts k
        have HC := Lib.hid (cut_any _ At ct 1000 ts[k] wr hrt hct htl (by decide))
        have htk : (ts[k].take 1000).length ≤ 1000 := by rw [List.length_take]; omega
        obtain ⟨cs, hcs, hce⟩ := hO
        have HCE := Lib.hid hce
        have HD : Hid (∀ g, u4.ownBlock = some g → u5.ownBlock ≠ some g) := own_types hcs hA (by decide)
        have HG4 : Hid (∀ g, u4.ownBlock = some g → w.heap.size ≤ g ∧ g < wr.heap.size) := fun g hg => own_lt hcs hg
        have HG5 : Hid (∀ g, u5.ownBlock = some g → w.heap.size ≤ g ∧ g < wr.heap.size) := fun g hg => own_lt hA hg
        generalize ts[k] = t0 at *
        generalize t0.take 1000 = t at *
        generalize cutT ts k = us at *
        generalize hfl : us.flatten = fl at *
        have HFL := Lib.hid hfl
        clear hfl
        have htl2 : (u8s t).length = t.length := u8s_len t
        have HTL := Lib.hid htl2
        clear hce h hrt htl2
        go_wp2_with fail
        refine (HC.out).mono ?_
        rintro e w1 ⟨A1, c1, rfl, hc1, r1, hb1⟩
        rw [HTL.out] at hc1 ⊢
        have hs1 : wr.heap.size ≤ w1.heap.size := hb1.size
        have hcs1 := (own_below hcs hb1).alloc (.cells #[.slice A1 t.length c1] 24)
        have hA1 := own_below hA hb1
        have hn1 : Row (fun _ => True) (w1.alloc (.cells #[.slice A1 t.length c1] 24)) (some ⟨w1.heap.size, 0, none⟩) [.slice A1 t.length c1] := Row.of_block (heap_alloc_new w1 _) trivial
        have HN4 : Hid (∀ g, g < w1.heap.size → wr.heap.size ≤ g → some g ≠ u4.ownBlock) := fun g _ hg e => by have := (HG4.out g e.symm).2; omega
        go_wp2_with (first
          | (at_builtin; refine wpList_append_row _ rfl (.tmp 19) (.tmp 21) 22 rfl w.heap.size 24 j0 (.slice none 0 0) 24 Tryd.underlying22 hj0 hy0 hy1 hy2 rfl u4 us.length cs rfl hcs1 (fun _ => True) (some ⟨w1.heap.size, 0, none⟩) 1 1 [.slice A1 t.length c1] rfl rfl hn1 ?k1 ?k2 ?k3 ?k4 ?_; rotate_right; intro A2 c2 w2 hown2 hgrow2 hat2; have hA2 := own_kept (hA1.alloc (.cells #[.slice A1 t.length c1] 24)) hgrow2 (fun g h5 h4 => HD.out g h4 h5); have hr2 := Row.grow r1 hgrow2 HN4.out; have hs2 : w1.heap.size + 1 ≤ w2.heap.size := by have := hgrow2.size; simpa using this)
          | (at_builtin; refine wpList_append_row _ rfl (.tmp 23) (.tmp 24) 24 rfl w.heap.size 5 i0 (.int .u8 0) 1 Tryd.underlying24 hi0 hz0 hz1 hz2 rfl u5 fl.length (u8s fl) rfl hA2 _ A1 t.length c1 (u8s t) rfl (u8s_len t) hr2 (u8s_one t) ?m1 ?m2 ?m3 ?_; rotate_right; intro A3 c3 w3 hown3 hgrow3 hat3))
        case k1 => simp [Value.oneCell']
        case k2 => unfold maxLen; omega
        case k3 => omega
        case k4 => simp; omega
        case m1 => unfold maxLen; omega
        case m2 => omega
        case m3 => omega
        have h2 : CellsT (fun g => (w.heap.size ≤ g ∧ some g ≠ u4.ownBlock) ∧ some g ≠ u5.ownBlock) w1 cs us := HCE.out.kept hs1 fun g hg s => ⟨hb1.block g hg, s⟩
        have h3 : CellsT (fun g => (w.heap.size ≤ g ∧ some g ≠ u4.ownBlock) ∧ some g ≠ u5.ownBlock) w1 [.slice A1 t.length c1] [t] :=
          CellsT.one (r1.mono fun g hg1 hg => ⟨⟨by omega, HN4.out g hg1 hg⟩, fun e => by have := (HG5.out g e.symm).2; omega⟩)
        have hO2 : OwnT (fun g => some g ≠ u5.ownBlock) w2 w.heap.size (.slice A2 (us.length + 1) c2) (us ++ [t]) := OwnT.step (us := [t]) h2 h3 hown2 hgrow2 (by simpa using hat2)
        have hO3 : OwnT (fun g => some g ≠ (Value.slice A3 (fl.length + t.length) c3).ownBlock) w3 w.heap.size (.slice A2 (us.length + 1) c2) (us ++ [t]) := by
          obtain ⟨cs2, q1, q2⟩ := hO2
          refine OwnT.grow ⟨cs2, q1, q2⟩ hgrow3 (own_types q1 hA2 (by decide)) fun g hg hX => ⟨hX, ?_⟩
          rcases hat3 with e | e
          · rw [e]; exact hX
          · rw [e]; intro e'; injection e' with e'; omega
        have hbA : Below w.heap.size w w2 := ((hbl.trans (hb1.mono hsz)).alloc (by omega) _).grown hgrow2 (by simp; omega) (fun g hg => (HG4.out g hg).1)
        have hbB : Below w.heap.size w w3 := hbA.grown hgrow3 hbA.size (fun g hg => (HG5.out g hg).1)
        have HO := Lib.hid hO3
        have HA := Lib.hid (show w3.ownsRow w.heap.size 5 1 (.slice A3 (fl.length + t.length) c3) (us ++ [t]).flatten.length (u8s (us ++ [t]).flatten) by
          rw [show (us ++ [t]).flatten = fl ++ t by rw [← HFL.out]; simp, List.length_append, show u8s (fl ++ t) = u8s fl ++ u8s t by simp [u8s]]; exact hown3)
        clear hown2 hgrow2 hat2 hown3 hgrow3 hat3 hO2 hO3 h2 h3 hA2 hr2 hA1 hcs1 hn1 r1 hb1 hcs hA
        go_wp2_with fail
        go_roundw
        case rel => exact ⟨k + 1, by omega, by go_num, by rw [HT.out]; exact HO.out, by rw [HT.out]; exact HA.out, hbB⟩
        case measure => simp [intOf]; omega
      · have i2 : ¬ (k : Int) < 6 := by omega
        have HE := Lib.hid (show cutT ts (k + 1) = cutT ts k by unfold cutT; rw [show min (k + 1) 6 = min k 6 by omega])
        clear h hrt
        go_wp2_with fail
        go_roundw
        case rel => exact ⟨k + 1, by omega, by go_num, by rw [HE.out]; exact hO, by rw [HE.out]; exact hA, hbl⟩
        case measure => simp [intOf]; omega
    · have i1 : ¬ (k : Int) < (ts.length : Int) := by omega
      have HK := Lib.hid (show k = ts.length by omega)
      have HO : Hid (OwnT (fun _ => True) wr w.heap.size u4 (cutT ts ts.length)) := by
        rw [HK.out] at hO
        obtain ⟨cs, q1, q2⟩ := hO
        exact ⟨cs, q1, q2.kept (Nat.le_refl _) fun g _ s => ⟨rfl, s.1, trivial⟩⟩
      have HA : Hid (wr.ownsRow w.heap.size 5 1 u5 (cutT ts ts.length).flatten.length (u8s (cutT ts ts.length).flatten)) := by rw [← HK.out]; exact hA
      clear hO hA h
      go_wp2_with fail
      go_ret2
      exact ⟨u4, u5, rfl, HO.out, HA.out, hbl⟩

end Go.Proofs.YtaihemmnpliehaaDoor
