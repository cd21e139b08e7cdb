/-
  Words for ScrollMany: Writers beside new blocks; ref01's Copy.
-/
import Derived.Test.YtlambcmikfihgaaFew
import Derived.Test.YtlambcmikfihgaaBytes
import Derived.Test.YtlambcmikfihgaaAwake
import Derived.Test.YtlambcmikfihgaaSame
namespace Go.Proofs.Ytlambcmikfihgaa
open Go.RowKit

theorem Fr.alloc (b : Nat) (o : Option Nat) (w : World) (x : Obj) : Fr b o w (w.alloc x) := ⟨rfl, rfl, rfl, by simp, fun k hk _ _ => Below.heap_alloc _ _ _ hk⟩
theorem Wr.below {w w' : World} {B b : Nat} {v : Value} {l : List Int} (h : Wr w B b v l) (hb : Below w.heap.size w w') : Wr w' B b v l :=
  ⟨(hb.block b (lt_of_block h.blk)).trans h.blk, own_below h.own hb, Nat.le_trans h.low hb.size⟩
theorem later_ne {w : World} {o : Option Nat} {g : Nat} (h : Later w none o) (hg : g < w.heap.size) : some g ≠ o := by
  rcases h with rfl | ⟨g', rfl, h'⟩
  · simp
  · intro e; injection e with e; omega
theorem Wr.offNew {w : World} {B b : Nat} {v : Value} {l : List Int} (h : Wr w B b v l) : OffW b v w.heap.size := by
  refine ⟨by have := lt_of_block h.blk; omega, fun e => ?_⟩
  have := (own_lt h.own e.symm).2
  omega
theorem Row.one_new {w : World} {B b : Nat} {v x : Value} {l : List Int} {t : TypeId} (h : Wr w B b v l) : Row (OffW b v) (w.alloc (.cells #[x] t)) (some ⟨w.heap.size, 0, none⟩) [x] :=
  Row.of_block (heap_alloc_new w _) h.offNew
theorem texts_one {w : World} {B b : Nat} {v : Value} {l t : List Int} {A : Option Addr} {c : Nat} {ty : TypeId} (h : Wr w B b v l) (hr : Row (OffW b v) w A (u8s t)) : Texts (OffW b v) (w.alloc (.cells #[.slice A t.length c] ty)) (some ⟨w.heap.size, 0, none⟩) [t] :=
  ⟨[.slice A t.length c], rfl, Row.one_new h, fun k hk => by obtain rfl : k = 0 := by simpa using hk
                                                             exact ⟨A, c, rfl, hr.alloc _⟩⟩
theorem rows_one {w : World} {B b : Nat} {v : Value} {l t : List Int} {A : Option Addr} {c : Nat} {ty : TypeId} (h : Wr w B b v l) (hr : Row (OffW b v) w A (i32s t)) : Rows (OffW b v) (w.alloc (.cells #[.slice A t.length c] ty)) (some ⟨w.heap.size, 0, none⟩) [t] :=
  ⟨[.slice A t.length c], rfl, Row.one_new h, fun k hk => by obtain rfl : k = 0 := by simpa using hk
                                                             exact ⟨A, c, rfl, hr.alloc _⟩⟩
/-- one more, behind a new block -/
theorem Wrote.next {B b : Nat} {v0 v1 : Value} {w0 w w2 : World} {l2 : List Int} {x : Obj} (f1 : Fr b v0.ownBlock w0 w) (t1 : Later w0 v0.ownBlock v1.ownBlock) (h : Wrote B b v1 (w.alloc x) l2 w2) : Wrote B b v0 w0 l2 w2 :=
  Wrote.more (f1.trans (Fr.alloc b v1.ownBlock w x) t1) t1 h
theorem flat_next {α : Type} {f : α → List Int} {xs : List α} {k : Nat} (h : k < xs.length) (l : List Int) : l ++ (xs.take (k + 1)).flatMap f = (l ++ (xs.take k).flatMap f) ++ [xs[k]].flatMap f := by
  rw [List.take_succ_eq_append_getElem h, List.flatMap_append, List.append_assoc]

set_option maxRecDepth 100000 in
set_option maxHeartbeats 400000 in
theorem copy_any (S : Nat → Prop) (A : Option Addr) (n c : Nat) (p : List Int) (w : World) (hn : p.length = n) (hrow : Row S w A (u8s p)) (hpl : p.length ≤ 70368744177664) :
    Calls Try.prog 22 #[.slice A n c] w fun e w' => ∃ A' c', e = .returned (.slice A' n c') ∧ n ≤ c' ∧ Row (fun g => w.heap.size ≤ g) w' A' (u8s p) ∧ Below w.heap.size w w' := by
  subst hn
  obtain ⟨i0, hi, hz0, hz1, hz2⟩ := info_parts Try.info5
  have h0 : (w.alloc (.cells #[] 5)).ownsRow w.heap.size 5 1 (.slice (some ⟨w.heap.size, 0, none⟩) 0 0) 0 [] := own_empty w (Nat.le_refl _)
  have hrow1 := hrow.alloc (.cells #[] 5)
  go_enter Try.func22, Try.ntmps22
  go_wp2_with (at_builtin; refine wpList_append_row _ rfl (.tmp 3) (.tmp 4) 25 rfl w.heap.size 5 i0 (.int .u8 0) 1 Try.underlying25 hi hz0 hz1 hz2 rfl _ 0 [] rfl h0 S A p.length c (u8s p) rfl (u8s_len p) hrow1 (u8s_one p) ?c3 ?c4 ?c5 ?_; rotate_right; intro A' c' w' hown hgrow hat)
  case c3 => unfold maxLen; omega
  case c4 => omega
  case c5 => simp
  go_ret
  rw [Nat.zero_add, List.nil_append] at hown
  have hgrow2 : (w.alloc (.cells #[] 5)).grownBy w' (some w.heap.size) := hgrow
  obtain ⟨A2, c2, hv, hc2, _, hr2⟩ := Row.of_own hown
  injection hv with hv1 _ hv3
  subst hv1 hv3
  exact ⟨A', c', by simp, hc2, hr2.mono fun g _ h => h.1, ((Below.refl _ _).alloc (Nat.le_refl _) _).grown hgrow2 (by simp) (fun k e => by injection e with e; omega)⟩

end Go.Proofs.Ytlambcmikfihgaa
