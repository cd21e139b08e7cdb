/-
  The contracts of fold and of (*Writer).num.
-/
import Derived.Test.YtlambcmikfihgaaChecked
import Derived.Test.YtlambcmikfihgaaMath
import Derived.Test.YtlambcmikfihgaaMem
import Derived.WalkLawsBesides
import Derived.WalkSpells
import Derived.Lib.Hide
namespace Go.Proofs.Ytlambcmikfihgaa
open Go.RowKit

theorem Try.info5 : (Try.prog.info? 5).map (fun i => (i.zero, i.size, i.bytes)) = some (some (.int .u8 0), 1, 1) := by kernel_rfl

set_option maxHeartbeats 400000 in
theorem fold_any (n : Int) (w : World) (h : I32 n) :
    Calls Try.prog 26 #[.int .i32 n] w fun e w' => e = .returned (.int .u64 (foldI n)) ∧ w = w' := by
  obtain ⟨h1, h2⟩ := h
  by_cases hn : n < 0
  · have hf : (-2 * n - 1 : Int) = (foldI n : Int) := by unfold foldI; rw [if_pos hn]; omega
    have HF := Lib.hid hf
    clear hf
    go_enter Try.func26, Try.ntmps26
    go_wp2
    go_ret
    exact ⟨by rw [← HF.out]; rfl, rfl⟩
  · have hf : (2 * n : Int) = (foldI n : Int) := by unfold foldI; rw [if_neg hn]; omega
    have HF := Lib.hid hf
    clear hf
    go_enter Try.func26, Try.ntmps26
    go_wp2
    go_ret
    exact ⟨by rw [← HF.out]; rfl, rfl⟩

theorem or128 (m : Nat) : bits BinOp.or IntKind.u8 ((m : Int) % 256) 128 = ((m % 128 + 128 : Nat) : Int) := by
  have h : ∀ k : Fin 256, bits BinOp.or IntKind.u8 (k.val : Int) 128 = ((k.val % 128 + 128 : Nat) : Int) := by decide +kernel
  have := h ⟨m % 256, by omega⟩
  simp only at this
  rw [show ((m : Int) % 256) = ((m % 256 : Nat) : Int) by omega, this]
  congr 1
  omega

set_option maxRecDepth 100000 in
set_option maxHeartbeats 400000 in
theorem num_any (B b n : Nat) (v : Value) (l : List Int) (w : World) (hw : Wr w B b v l) (hn : n < U64) (hl : l.length ≤ 70368744177664) :
    Calls Try.prog 25 #[.pointer (some ⟨b, 0, none⟩), .int .u64 n] w fun e w' => e = .returned (.tuple #[]) ∧ Wrote B b v w (l ++ vi n) w' := by
  have hlen := vi_len10 hn
  obtain ⟨i0, hi, hz0, hz1, hz2⟩ := info_parts Try.info5
  go_enter Try.func25, Try.ntmps25
  go_wp2
  go_loopw [1] (fun t wr => ∃ (m : Nat) (q : List Int) (u : Value), t = .int .u64 m ∧ m ≤ n ∧ q ++ vi m = l ++ vi n ∧ Wr wr B b u q ∧ Fr b v.ownBlock w wr ∧ Later w v.ownBlock u.ownBlock)
    (fun t _ => (intOf t).toNat)
  case atStart => exact ⟨n, l, v, rfl, Nat.le_refl _, rfl, hw, Fr.refl _ _ _, Later.refl _ _⟩
  case round =>
    obtain ⟨m, q, u, rfl, hmn, hpre, hu, hfr, hlt⟩ := hrel
    have hcell := cell_of_one hu.blk
    have hfree := free_of_one hu.blk
    have hql : q.length + (vi m).length = l.length + (vi n).length := by rw [← List.length_append, hpre, List.length_append]
    have hqb : q.length ≤ 70368744177674 := by omega
    have HP := Lib.hid hpre
    clear hpre hql
    have hlow := hu.low
    by_cases hm : (128 : Int) ≤ (m : Int)
    · go_wp2_with (at_builtin; refine wpList_append_lies _ rfl (.tmp 10) (.tmp 14) 25 rfl B 5 i0 (.int .u8 0) 1 1 Try.underlying25 hi hz0 hz1 hz2 rfl (by decide) u _ _ rfl (hu.own.alloc _) ⟨wr.heap.size, 0, none⟩ 1 1 [.int .u8 (bits BinOp.or IntKind.u8 (↑m % 256) 128)] rfl rfl ?c1 ?c2 ?c3 ?c4 ?c5 ?c6 (wr.heap.size + 1) ?c7 ?_; rotate_right; intro g cap w1 hown hgrow hat hglt; have hb1 := hu.after hgrow; have hc1 := cell_of_one hb1; have hf1 := free_of_one hb1; clear hb1)
      case c1 => exact cell_one_new _ _ _
      case c2 => intro u hu; simp at hu; subst hu; rfl
      case c3 => exact Nat.one_pos
      case c4 => unfold maxLen; omega
      case c5 => omega
      case c6 => simp; omega
      case c7 => simp
      rw [or128] at hown
      obtain ⟨s1, s2, s3⟩ := hu.step hown hgrow hat
      go_roundw
      case rel =>
        exact ⟨m / 128, q ++ [((m % 128 + 128 : Nat) : Int)], _, by go_num, by omega, by rw [← HP.out, vi_ge (n := m) (by omega)]; simp, s1, hfr.trans s2 hlt, hlt.trans s3 hfr.size⟩
      case measure => simp [intOf]; omega
    · go_wp2_with (at_builtin; refine wpList_append_lies _ rfl (.tmp 24) (.tmp 27) 25 rfl B 5 i0 (.int .u8 0) 1 1 Try.underlying25 hi hz0 hz1 hz2 rfl (by decide) u _ _ rfl (hu.own.alloc _) ⟨wr.heap.size, 0, none⟩ 1 1 [.int .u8 m] rfl rfl ?d1 ?d2 ?d3 ?d4 ?d5 ?d6 (wr.heap.size + 1) ?d7 ?_; rotate_right; intro g cap w1 hown hgrow hat hglt; have hb1 := hu.after hgrow; have hc1 := cell_of_one hb1; have hf1 := free_of_one hb1; clear hb1)
      case d2 => rfl
      case d4 => unfold maxLen; omega
      case d5 => omega
      case d6 => omega
      obtain ⟨s1, s2, s3⟩ := hu.step hown hgrow hat
      go_end0
      exact ⟨rfl, _, by rw [← HP.out, vi_lt (n := m) (by omega)]; exact s1, hfr.trans s2 hlt, hlt.trans s3 hfr.size⟩

end Go.Proofs.Ytlambcmikfihgaa
