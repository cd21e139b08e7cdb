/-
  The contracts of ref01's Cut and Same and of ref05's Ends.
-/
import Derived.Test.YtchedflfinkppaaFile
import Derived.Test.YtchedflfinkppaaParts
import Derived.Laws.BytesArg
namespace Go.Proofs.Ytchedflfinkppaa
open Go.RowKit

def Bytes8 (l : List Int) : Prop := ∀ x ∈ l, 0 ≤ x ∧ x < 256
def strOf (l : List Int) : ByteArray := ⟨(l.map fun (n : Int) => UInt8.ofNat n.toNat).toArray⟩

theorem run_str {S : Nat → Prop} {A : Option Addr} {l : List Int} {w : World} (c : Nat) (h : Row S w A (u8s l)) :
    (convert 41 9 (.slice A l.length c)).run Try.prog w = .ok (.string (strOf l)) w := by
  rw [run_convert_bytes_string w 41 9 5 A l.length c Try.underlying41 Try.underlying5 Try.underlying9]
  rcases A with _ | a
  · have hl : l = [] := by
      rcases Nat.eq_zero_or_pos l.length with h0 | h0
      · exact List.eq_nil_of_length_eq_zero h0
      · obtain ⟨ad, e, _⟩ := h 0 (by rw [u8s_len]; exact h0)
        cases e
    subst hl
    simp [Conv.bytesToString, strOf]
    rfl
  · have hl := run_loadCells_list (P := Try.prog) w a (l.map (Value.int .u8)) (fun j v hj => by
      have hj' : j < (u8s l).length := (List.getElem?_eq_some_iff.1 hj).1
      obtain ⟨ad, e, _, _, hc⟩ := h j hj'
      injection e with e
      subst e
      rw [hc]; exact hj)
    simp only [List.length_map] at hl
    rw [run_bytesToString w a l.length c l hl, foldl_push_bytes]
    simp [strOf, ByteArray.empty, ByteArray.emptyWithCapacity]
    rfl

theorem str_beq : ∀ (l m : List Int), Bytes8 l → Bytes8 m → ((strOf l).toList == (strOf m).toList) = (l == m) := by
  have h : ∀ l, (strOf l).toList = l.map fun (n : Int) => UInt8.ofNat n.toNat := fun l => by
    rw [ByteArray.toList_eq]
    simp [strOf]
  intro l m hl hm
  rw [h, h, Bool.eq_iff_iff, beq_iff_eq, beq_iff_eq]
  constructor
  · intro e
    induction l generalizing m with
    | nil => cases m with
      | nil => rfl
      | cons y m => simp at e
    | cons x l ih => cases m with
      | nil => simp at e
      | cons y m =>
        simp only [List.map_cons, List.cons.injEq] at e
        have hx := hl x (List.mem_cons_self ..)
        have hy := hm y (List.mem_cons_self ..)
        have e1 : x = y := by
          have := congrArg UInt8.toNat e.1
          simp only [UInt8.toNat_ofNat'] at this
          omega
        rw [e1, ih m (fun z hz => hl z (List.mem_cons_of_mem _ hz)) (fun z hz => hm z (List.mem_cons_of_mem _ hz)) e.2]
  · rintro rfl; rfl

set_option maxRecDepth 100000 in
set_option maxHeartbeats 400000 in
theorem same_any (S T : Nat → Prop) (A B : Option Addr) (c d : Nat) (l m : List Int) (w : World) (h1 : Row S w A (u8s l)) (h2 : Row T w B (u8s m)) (h8 : Bytes8 l) (k8 : Bytes8 m) :
    Calls Try.prog 22 #[.slice A l.length c, .slice B m.length d] w fun e w' => e = .returned (.bool (l == m)) ∧ w = w' := by
  have r1 := run_str c h1
  have r2 := run_str d h2
  have HE := Lib.hid (str_beq l m h8 k8)
  go_enter Try.func22, Try.ntmps22
  go_wp2
  go_ret
  exact ⟨by rw [← HE.out]; rfl, rfl⟩

set_option maxRecDepth 100000 in
set_option maxHeartbeats 400000 in
theorem rcut_any (S : Nat → Prop) (A : Option Addr) (c n : Nat) (l : List Int) (w : World) (hrow : Row S w A (u8s l)) (hc : l.length ≤ c) (hl : l.length ≤ 9223372036854775807) (hn : n ≤ 70368744177664) :
    Calls Try.prog 30 #[.slice A l.length c, .int .i64 (n : Int)] w fun e w' => Gives w (u8s (l.take n)) e w' := by
  obtain ⟨i0, hi, hz0, hz1, hz2⟩ := info_parts Try.info5
  have h0 : (w.alloc (.cells #[] 5)).ownsRow w.heap.size 5 1 (.slice (some ⟨w.heap.size, 0, none⟩) 0 0) 0 [] := World.ownsRow_lit w #[] 0 (Nat.le_refl _) (by decide) rfl
  have hrow1 := (hrow.alloc (.cells #[] 5)).take n
  have htl : ((u8s l).take n).length = min n l.length := by rw [List.length_take, u8s_len]
  have hut : (u8s l).take n = u8s (l.take n) := by simp [u8s]
  rw [hut] at hrow1 htl
  have h1c := u8s_one (l.take n)
  unfold Gives
  generalize u8s (l.take n) = ys at *
  have fin : ∀ (v' : Value) (w' : World), w'.ownsRow w.heap.size 5 1 v' ys.length ys → (w.alloc (.cells #[] 5)).grownBy w' (some w.heap.size) →
      ∃ A c, Ending.returned v' = .returned (.slice A ys.length c) ∧ ys.length ≤ c ∧ Row (fun g => w.heap.size ≤ g) w' A ys ∧ Below w.heap.size w w' := by
    intro v' w' hown hgrow
    obtain ⟨A', c', rfl, hc', _, hr'⟩ := Row.of_own hown
    exact ⟨A', c', rfl, hc', hr'.mono fun g _ h => h.1, ((Below.refl _ _).alloc (Nat.le_refl _) _).grown hgrow (by simp) (fun k e => by injection e with e; omega)⟩
  clear hut
  by_cases h : l.length ≤ n
  · have hm : ys.length = l.length := by omega
    have HM := Lib.hid hm
    clear htl hm
    go_enter Try.func30, Try.ntmps30
    go_wp2_with (at_builtin; refine wpList_append_row _ rfl (.tmp 5) (.tmp 11) 41 rfl w.heap.size 5 i0 (.int .u8 0) 1 Try.underlying41 hi hz0 hz1 hz2 rfl _ 0 [] rfl h0 S A l.length c ys rfl HM.out hrow1 h1c ?c3 ?c4 ?c5 ?_; rotate_right; intro A' c' w' hown hgrow hat)
    case c3 => unfold maxLen; omega
    case c4 => omega
    case c5 => simp
    go_ret
    rw [Nat.zero_add] at hown
    exact fin _ w' (by rw [HM.out]; exact hown) hgrow
  · have hm : ys.length = n := by omega
    have HM := Lib.hid hm
    clear htl hm
    go_enter Try.func30, Try.ntmps30
    go_wp2_with (at_builtin; refine wpList_append_row _ rfl (.tmp 5) (.tmp 11) 41 rfl w.heap.size 5 i0 (.int .u8 0) 1 Try.underlying41 hi hz0 hz1 hz2 rfl _ 0 [] rfl h0 S A n c ys rfl HM.out hrow1 h1c ?d3 ?d4 ?d5 ?_; rotate_right; intro A' c' w' hown hgrow hat)
    case d3 => unfold maxLen; omega
    case d4 => omega
    case d5 => simp
    go_ret
    rw [Nat.zero_add] at hown
    exact fin _ w' (by rw [HM.out]; exact hown) hgrow

theorem Try.info3 : (Try.prog.info? 3).map (fun i => (i.zero, i.size, i.bytes)) = some (some (.int .i64 0), 1, 8) := by kernel_rfl
theorem i64s_one (xs : List Int) : ∀ u ∈ i64s xs, u.oneCell' = true := ints_oneCell _ _

set_option maxRecDepth 100000 in
set_option maxHeartbeats 400000 in
theorem ends_any (S : Nat → Prop) (A : Option Addr) (c : Nat) (l : List Int) (w : World) (hrow : Row S w A (i64s l)) (hc : l.length ≤ c) (hl : l.length ≤ 9223372036854775807) :
    Calls Try.prog 21 #[.slice A l.length c] w fun e w' => Gives w (i64s (l.take 20)) e w' := by
  obtain ⟨i0, hi, hz0, hz1, hz2⟩ := info_parts Try.info3
  have h0 : (w.alloc (.cells #[] 3)).ownsRow w.heap.size 3 1 (.slice (some ⟨w.heap.size, 0, none⟩) 0 0) 0 [] := World.ownsRow_lit w #[] 0 (Nat.le_refl _) (by decide) rfl
  have hrow1 := (hrow.alloc (.cells #[] 3)).take 20
  have htl : ((i64s l).take 20).length = min 20 l.length := by rw [List.length_take, i64s_len]
  have hut : (i64s l).take 20 = i64s (l.take 20) := by simp [i64s]
  rw [hut] at hrow1 htl
  have h1c := i64s_one (l.take 20)
  unfold Gives
  generalize i64s (l.take 20) = ys at *
  have fin : ∀ (v' : Value) (w' : World), w'.ownsRow w.heap.size 3 1 v' ys.length ys → (w.alloc (.cells #[] 3)).grownBy w' (some w.heap.size) →
      ∃ A c, Ending.returned v' = .returned (.slice A ys.length c) ∧ ys.length ≤ c ∧ Row (fun g => w.heap.size ≤ g) w' A ys ∧ Below w.heap.size w w' := by
    intro v' w' hown hgrow
    obtain ⟨A', c', rfl, hc', _, hr'⟩ := Row.of_own hown
    exact ⟨A', c', rfl, hc', hr'.mono fun g _ h => h.1, ((Below.refl _ _).alloc (Nat.le_refl _) _).grown hgrow (by simp) (fun k e => by injection e with e; omega)⟩
  clear hut
  by_cases h : l.length ≤ 20
  · have hm : ys.length = l.length := by omega
    have HM := Lib.hid hm
    clear htl hm
    go_enter Try.func21, Try.ntmps21
    go_wp2_with (at_builtin; refine wpList_append_row _ rfl (.tmp 3) (.tmp 8) 32 rfl w.heap.size 3 i0 (.int .i64 0) 8 Try.underlying32 hi hz0 hz1 hz2 rfl _ 0 [] rfl h0 S A l.length c ys rfl HM.out hrow1 h1c ?c3 ?c4 ?c5 ?_; rotate_right; intro A' c' w' hown hgrow hat)
    case c3 => unfold maxLen; omega
    case c4 => omega
    case c5 => simp
    go_ret
    rw [Nat.zero_add] at hown
    exact fin _ w' (by rw [HM.out]; exact hown) hgrow
  · have hm : ys.length = 20 := by omega
    have HM := Lib.hid hm
    clear htl hm
    go_enter Try.func21, Try.ntmps21
    go_wp2_with (at_builtin; refine wpList_append_row _ rfl (.tmp 3) (.tmp 8) 32 rfl w.heap.size 3 i0 (.int .i64 0) 8 Try.underlying32 hi hz0 hz1 hz2 rfl _ 0 [] rfl h0 S A 20 c ys rfl HM.out hrow1 h1c ?d3 ?d4 ?d5 ?_; rotate_right; intro A' c' w' hown hgrow hat)
    case d3 => unfold maxLen; omega
    case d4 => omega
    case d5 => simp
    go_ret
    rw [Nat.zero_add] at hown
    exact fin _ w' (by rw [HM.out]; exact hown) hgrow

end Go.Proofs.Ytchedflfinkppaa
