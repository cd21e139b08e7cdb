/-
  The contracts of ref01's Same and Cut, and of awake.
-/
import Derived.Test.YtaihemmnpliehaaDoorFrame
import Derived.Laws.BytesArg
import Derived.Lib.SlBytesConst
namespace Go.Proofs.YtaihemmnpliehaaDoor
open Go.RowKit

def strOf (l : List Int) : ByteArray := ⟨(l.map fun (n : Int) => UInt8.ofNat n.toNat).toArray⟩

theorem run_str {S : Nat → Prop} {A : Option Addr} {l : List Int} {w : World} (c : Nat) (h : Row S w A (u8s l)) :
    (convert 24 9 (.slice A l.length c)).run Tryd.prog w = .ok (.string (strOf l)) w := by
  rw [run_convert_bytes_string w 24 9 5 A l.length c Tryd.underlying24 Tryd.underlying5 Tryd.underlying9]
  rcases A with _ | a
  · have hl : l = [] := by
      rcases Nat.eq_zero_or_pos l.length with h0 | h0
      · exact List.eq_nil_of_length_eq_zero h0
      · obtain ⟨ad, e, _⟩ := h 0 (by rw [u8s_len]; exact h0)
        cases e
    subst hl
    simp [Conv.bytesToString, strOf]
    rfl
  · have hl := run_loadCells_list (P := Tryd.prog) w a (l.map (Value.int .u8)) (fun j v hj => by
      have hj' : j < (u8s l).length := (List.getElem?_eq_some_iff.1 hj).1
      obtain ⟨ad, e, _, _, hc⟩ := h j hj'
      injection e with e
      subst e
      rw [hc]; exact hj)
    simp only [List.length_map] at hl
    rw [run_bytesToString w a l.length c l hl, foldl_push_bytes]
    simp [strOf, ByteArray.empty, ByteArray.emptyWithCapacity]
    rfl

theorem str_beq : ∀ (l m : List Int), Bytes8 l → Bytes8 m → ((strOf l).toList == (strOf m).toList) = (l == m) := by
  have h : ∀ l, (strOf l).toList = l.map fun (n : Int) => UInt8.ofNat n.toNat := fun l => by
    rw [ByteArray.toList_eq]
    simp [strOf]
  intro l m hl hm
  rw [h, h, Bool.eq_iff_iff, beq_iff_eq, beq_iff_eq]
  constructor
  · intro e
    induction l generalizing m with
    | nil => cases m with
      | nil => rfl
      | cons y m => simp at e
    | cons x l ih => cases m with
      | nil => simp at e
      | cons y m =>
        simp only [List.map_cons, List.cons.injEq] at e
        have hx := hl x (List.mem_cons_self ..)
        have hy := hm y (List.mem_cons_self ..)
        have e1 : x = y := by
          have := congrArg UInt8.toNat e.1
          simp only [UInt8.toNat_ofNat'] at this
          omega
        rw [e1, ih m (fun z hz => hl z (List.mem_cons_of_mem _ hz)) (fun z hz => hm z (List.mem_cons_of_mem _ hz)) e.2]
  · rintro rfl; rfl

set_option maxRecDepth 100000 in
set_option maxHeartbeats 400000 in
theorem same_any (S T : Nat → Prop) (A B : Option Addr) (c d : Nat) (l m : List Int) (w : World) (h1 : Row S w A (u8s l)) (h2 : Row T w B (u8s m)) (h8 : Bytes8 l) (k8 : Bytes8 m) :
    Calls Tryd.prog 16 #[.slice A l.length c, .slice B m.length d] w fun e w' => e = .returned (.bool (l == m)) ∧ w = w' := by
  have r1 := run_str c h1
  have r2 := run_str d h2
  have HE := Lib.hid (str_beq l m h8 k8)
  go_enter Tryd.func16, Tryd.ntmps16
  go_wp2
  go_ret
  exact ⟨by rw [← HE.out]; rfl, rfl⟩

set_option maxRecDepth 100000 in
set_option maxHeartbeats 400000 in
theorem cut_any (S : Nat → Prop) (A : Option Addr) (c n : Nat) (l : List Int) (w : World) (hrow : Row S w A (u8s l)) (hc : l.length ≤ c) (hl : l.length ≤ 9223372036854775807) (hn : n ≤ 70368744177664) :
    Calls Tryd.prog 17 #[.slice A l.length c, .int .i64 (n : Int)] w fun e w' => Gives w (u8s (l.take n)) e w' := by
  obtain ⟨i0, hi, hz0, hz1, hz2⟩ := info_parts Tryd.info5
  have h0 : (w.alloc (.cells #[] 5)).ownsRow w.heap.size 5 1 (.slice (some ⟨w.heap.size, 0, none⟩) 0 0) 0 [] := World.ownsRow_lit w #[] 0 (Nat.le_refl _) (by decide) rfl
  have hrow1 := (hrow.alloc (.cells #[] 5)).take n
  have htl : ((u8s l).take n).length = min n l.length := by rw [List.length_take, u8s_len]
  have hut : (u8s l).take n = u8s (l.take n) := by simp [u8s]
  rw [hut] at hrow1 htl
  have h1c := u8s_one (l.take n)
  unfold Gives
  generalize u8s (l.take n) = ys at *
  have fin : ∀ (v' : Value) (w' : World), w'.ownsRow w.heap.size 5 1 v' ys.length ys → (w.alloc (.cells #[] 5)).grownBy w' (some w.heap.size) →
      ∃ A c, Ending.returned v' = .returned (.slice A ys.length c) ∧ ys.length ≤ c ∧ Row (fun g => w.heap.size ≤ g) w' A ys ∧ Below w.heap.size w w' := by
    intro v' w' hown hgrow
    obtain ⟨A', c', rfl, hc', _, hr'⟩ := Row.of_own hown
    exact ⟨A', c', rfl, hc', hr'.mono fun g _ h => h.1, ((Below.refl _ _).alloc (Nat.le_refl _) _).grown hgrow (by simp) (fun k e => by injection e with e; omega)⟩
  clear hut
  by_cases h : l.length ≤ n
  · have hm : ys.length = l.length := by omega
    have HM := Lib.hid hm
    clear htl hm
    go_enter Tryd.func17, Tryd.ntmps17
    go_wp2_with (at_builtin; refine wpList_append_row _ rfl (.tmp 5) (.tmp 11) 24 rfl w.heap.size 5 i0 (.int .u8 0) 1 Tryd.underlying24 hi hz0 hz1 hz2 rfl _ 0 [] rfl h0 S A l.length c ys rfl HM.out hrow1 h1c ?c3 ?c4 ?c5 ?_; rotate_right; intro A' c' w' hown hgrow hat)
    case c3 => unfold maxLen; omega
    case c4 => omega
    case c5 => simp
    go_ret
    rw [Nat.zero_add] at hown
    exact fin _ w' (by rw [HM.out]; exact hown) hgrow
  · have hm : ys.length = n := by omega
    have HM := Lib.hid hm
    clear htl hm
    go_enter Tryd.func17, Tryd.ntmps17
    go_wp2_with (at_builtin; refine wpList_append_row _ rfl (.tmp 5) (.tmp 11) 24 rfl w.heap.size 5 i0 (.int .u8 0) 1 Tryd.underlying24 hi hz0 hz1 hz2 rfl _ 0 [] rfl h0 S A n c ys rfl HM.out hrow1 h1c ?d3 ?d4 ?d5 ?_; rotate_right; intro A' c' w' hown hgrow hat)
    case d3 => unfold maxLen; omega
    case d4 => omega
    case d5 => simp
    go_ret
    rw [Nat.zero_add] at hown
    exact fin _ w' (by rw [HM.out]; exact hown) hgrow

theorem ex_sum : sumOf [49, 50, 51, 52, 53, 54, 55, 56, 57] = 3421780262 := by decide +kernel
theorem ex_frame : frameOf [] = [255, 18, 217, 65, 0, 0] := by decide +kernel

set_option maxRecDepth 100000 in
set_option maxHeartbeats 800000 in
theorem awake_any (w : World) (hT : Rests w) (h0 : 0 < w.heap.size) : Calls Tryd.prog 10 #[] w fun e w' => e = .returned (.bool true) ∧ Below w.heap.size w w' := by
  have kc := fun (w : World) (C : Array Value) (n c : Nat) => Lib.run_convert_bytes_const (P := Tryd.prog) w 24 5 C n c Tryd.underlying24 Tryd.underlying5
  go_enter Tryd.func10, Tryd.ntmps10
  go_wp2_with fail
  refine (frame_good (fun _ => True) none 0 [] w hT ⟨[], rfl, Row.nil, fun k hk => by simp at hk⟩ (by simp) (by simp) (by simp) h0).mono ?_
  rintro e w1 ⟨A1, c1, rfl, hc1, hr1, hb1⟩
  rw [show ([] : List (List Int)).flatten = [] from rfl, ex_frame] at hc1 hr1 ⊢
  have kc2 : ∀ (o : Obj) (C : Array Value) (n c : Nat), (convert 24 24 (.slice (some ⟨w1.heap.size + 1, 0, none⟩) n c)).run Tryd.prog ((w1.alloc o).alloc (.cells C 5)) = .ok (.slice (some ⟨w1.heap.size + 1, 0, none⟩) n c) ((w1.alloc o).alloc (.cells C 5 (C.size, C.size + 1))) := fun o C n c => by
    have := kc (w1.alloc o) C n c
    simpa using this
  go_wp2_with fail
  obtain ⟨w2, hw2⟩ : ∃ x, x = ((w1.alloc (.cells #[.int .u8 49, .int .u8 50, .int .u8 51, .int .u8 52] 5 (4, 5))).alloc (.cells #[.int .u8 53, .int .u8 54, .int .u8 55, .int .u8 56, .int .u8 57] 5 (5, 6))).alloc (.cells #[.slice (some ⟨w1.heap.size, 0, none⟩) 4 4, .slice (some ⟨w1.heap.size + 1, 0, none⟩) 5 5] 24) := ⟨_, rfl⟩
  have hal : Below w1.heap.size w1 w2 := by rw [hw2]; exact (((Below.refl _ _).alloc (Nat.le_refl _) _).alloc (by simp) _).alloc (by simp; omega) _
  have hb2 : Below w.heap.size w w2 := hb1.trans (hal.mono hb1.size)
  have hT2 := hT.below hb2 h0
  have hr2 := hr1.below hal
  have hts : Texts (fun _ => True) w2 (some ⟨w1.heap.size + 1 + 1, 0, none⟩) [[49, 50, 51, 52], [53, 54, 55, 56, 57]] := by
    rw [hw2]
    refine ⟨[.slice (some ⟨w1.heap.size, 0, none⟩) 4 4, .slice (some ⟨w1.heap.size + 1, 0, none⟩) 5 5], rfl, Row.of_cells (new_at (by simp)) rfl trivial, fun k hk => ?_⟩
    have hk2 : k = 0 ∨ k = 1 := by simp at hk; omega
    rcases hk2 with rfl | rfl
    · exact ⟨_, 4, rfl, ((Row.of_cells (new_at rfl) rfl trivial).alloc _).alloc _⟩
    · exact ⟨_, 5, rfl, (Row.of_cells (new_at (by simp)) rfl trivial).alloc _⟩
  rw [← hw2]
  clear hw2 kc kc2 hal hr1 hb1
  refine (sum_any _ _ 2 [[49, 50, 51, 52], [53, 54, 55, 56, 57]] _ hT2 hts (by simp [Bytes8]) (by simp) (by simp)).mono ?_
  rintro e w3 ⟨rfl, rfl⟩
  rw [show sumOf [[49, 50, 51, 52], [53, 54, 55, 56, 57]].flatten = 3421780262 from ex_sum]
  clear hts hT2
  go_wp2_with fail
  refine (same_any _ (fun _ => True) _ _ c1 6 [255, 18, 217, 65, 0, 0] [255, 18, 217, 65, 0, 0] _ (hr2.alloc _) (Row.of_cells (new_at rfl) rfl trivial) (by simp [Bytes8]) (by simp [Bytes8])).mono ?_
  rintro e w3 ⟨rfl, rfl⟩
  rw [show ([255, 18, 217, 65, 0, 0] == ([255, 18, 217, 65, 0, 0] : List Int)) = true from rfl]
  go_wp2_with fail
  go_ret
  exact ⟨rfl, hb2.alloc hb2.size _⟩

end Go.Proofs.YtaihemmnpliehaaDoor
