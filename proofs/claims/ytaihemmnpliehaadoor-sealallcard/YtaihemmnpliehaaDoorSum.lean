/-
  The contract of Sum.
-/
import Derived.Test.YtaihemmnpliehaaDoorChecked
import Derived.Test.YtaihemmnpliehaaDoorMem
import Derived.Test.YtaihemmnpliehaaDoorCrc
import Derived.Laws.BitsAllLaws
namespace Go.Proofs.YtaihemmnpliehaaDoor
open Go.RowKit

/-- The table lies in block 0. -/
def Rests (w : World) : Prop := ∀ i, i < 16 → w.cell? ⟨0, i, none⟩ = some (.int .u32 ((tab.getD i 0 : Nat) : Int))
theorem Rests.below {B : Nat} {w w' : World} (h : Rests w) (hb : Below B w w') (hB : 0 < B) : Rests w' := fun i hi => (hb.cell hB).trans (h i hi)

/-- A slice of slices of bytes. -/
def Texts (S : Nat → Prop) (w : World) (A : Option Addr) (ts : List (List Int)) : Prop :=
  ∃ cells : List Value, cells.length = ts.length ∧ Row S w A cells ∧ ∀ k (h : k < ts.length), ∃ A' c, cells[k]? = some (.slice A' (ts[k]).length c) ∧ Row S w A' (u8s ts[k])

theorem Texts.at_ {S : Nat → Prop} {w : World} {A : Option Addr} {ts : List (List Int)} (h : Texts S w A ts) {k : Nat} (hk : k < ts.length) :
    ∃ ad A' c, A = some ad ∧ w.cell? (ad.add k) = some (.slice A' (ts[k]).length c) ∧ Row S w A' (u8s ts[k]) := by
  obtain ⟨cells, h1, h2, h3⟩ := h
  obtain ⟨A', c, e, r⟩ := h3 k hk
  obtain ⟨ad, rfl, _, _, hc⟩ := h2 k (by omega)
  exact ⟨ad, A', c, rfl, hc.trans e, r⟩

theorem flatten_take {ts : List (List Int)} {k : Nat} (h : k < ts.length) : (ts.take (k + 1)).flatten = (ts.take k).flatten ++ ts[k] := by
  rw [List.take_succ_eq_append_getElem h, List.flatten_append]; simp

/-- what one byte's round does, in the walk's words -/
theorem byte_step {w : World} (hT : Rests w) (c : Nat) (x : Int) (hc : c < 4294967296) (h1 : 0 ≤ x) (h2 : x < 256) :
    ∃ x1 i1 t1 x2 i2 t2 : Nat, bits BinOp.xor IntKind.u32 (c : Int) x = (x1 : Int) ∧ bits BinOp.and IntKind.u32 (x1 : Int) 15 = (i1 : Int) ∧ i1 < 16 ∧ w.cell? ⟨0, i1, none⟩ = some (.int .u32 (t1 : Int)) ∧
      bits BinOp.xor IntKind.u32 ((x1 : Int) / 16) (t1 : Int) = (x2 : Int) ∧ bits BinOp.and IntKind.u32 (x2 : Int) 15 = (i2 : Int) ∧ i2 < 16 ∧ w.cell? ⟨0, i2, none⟩ = some (.int .u32 (t2 : Int)) ∧
      bits BinOp.xor IntKind.u32 ((x2 : Int) / 16) (t2 : Int) = ((crcB c x : Nat) : Int) := by
  have hx1 : c ^^^ x.toNat < 4294967296 := Nat.xor_lt_two_pow (n := 32) (by omega) (by omega)
  have ht : ∀ i, i < 16 → tab.getD i 0 < 4294967296 := fun i hi => tab_lt ⟨i, hi⟩
  have hand : ∀ y : Nat, y < 4294967296 → bits BinOp.and IntKind.u32 (y : Int) 15 = ((y % 16 : Nat) : Int) := fun y hy => by
    rw [show (15 : Int) = ((15 : Nat) : Int) from rfl, u32_and_nat y 15 hy (by omega), show 15 = 2 ^ 4 - 1 from rfl, Nat.and_two_pow_sub_one_eq_mod]
  have hxor : ∀ y z : Nat, y < 4294967296 → z < 4294967296 → bits BinOp.xor IntKind.u32 ((y : Int) / 16) (z : Int) = ((y / 16 ^^^ z : Nat) : Int) := fun y z hy hz => by
    rw [show ((y : Int) / 16) = ((y / 16 : Nat) : Int) by omega, u32_xor_nat _ _ (by omega) hz]
  have h0 : bits BinOp.xor IntKind.u32 (c : Int) x = ((c ^^^ x.toNat : Nat) : Int) := by
    conv => lhs; rw [show x = ((x.toNat : Nat) : Int) by omega]
    exact u32_xor_nat _ _ hc (by omega)
  have e := crcB_tab c x
  generalize c ^^^ x.toNat = x1 at *
  have hx2 : x1 / 16 ^^^ tab.getD (x1 % 16) 0 < 4294967296 := Nat.xor_lt_two_pow (n := 32) (by omega) (by have := ht (x1 % 16) (by omega); omega)
  have hq := hxor x1 (tab.getD (x1 % 16) 0) hx1 (ht _ (by omega))
  generalize x1 / 16 ^^^ tab.getD (x1 % 16) 0 = x2 at *
  refine ⟨x1, x1 % 16, tab.getD (x1 % 16) 0, x2, x2 % 16, tab.getD (x2 % 16) 0, h0, hand x1 hx1, by omega, hT _ (by omega), hq, hand x2 hx2, by omega, hT _ (by omega), ?_⟩
  rw [e]
  exact hxor x2 _ hx2 (ht _ (by omega))

theorem not_u32 (c : Nat) (h : c < 4294967296) : bits BinOp.xor IntKind.u32 IntKind.u32.max (c : Int) = ((c ^^^ 4294967295 : Nat) : Int) := by
  rw [show IntKind.u32.max = ((4294967295 : Nat) : Int) by decide, u32_xor_nat _ _ (by omega) h, Nat.xor_comm]

set_option maxRecDepth 100000 in
set_option maxHeartbeats 800000 in
theorem sum_any (S : Nat → Prop) (A : Option Addr) (c : Nat) (ts : List (List Int)) (w : World) (hT : Rests w) (hr : Texts S w A ts) (h8 : ∀ t ∈ ts, Bytes8 t) (hl : ∀ t ∈ ts, t.length ≤ 70368744177664) (hn : ts.length ≤ 70368744177664) :
    Calls Tryd.prog 14 #[.slice A ts.length c] w fun e w' => e = .returned (.int .u32 ((sumOf ts.flatten : Nat) : Int)) ∧ w = w' := by
  go_enter Tryd.func14, Tryd.ntmps14
  go_wp2
  go_loop [3, 10] (fun s i => ∃ k : Nat, k ≤ ts.length ∧ i = .int .i64 k ∧ s = .int .u32 ((crc 4294967295 (ts.take k).flatten : Nat) : Int)) (fun _ i => ts.length - (intOf i).toNat)
  case atStart => exact ⟨0, Nat.zero_le _, rfl, rfl⟩
  case round =>
    obtain ⟨k, hk, rfl, rfl⟩ := hrel
    by_cases hlt : k < ts.length
    · obtain ⟨ad, A', c', rfl, hcell, hrow⟩ := hr.at_ hlt
      have h8k := h8 _ (List.getElem_mem hlt)
      have hlk := hl _ (List.getElem_mem hlt)
      have hft := flatten_take hlt
      have hcl : crc 4294967295 (ts.take k).flatten < 4294967296 := crc_lt _ _ (by omega) fun x hx => by
        obtain ⟨t, ht, hxt⟩ := List.mem_flatten.1 hx
        exact h8 t (List.mem_of_mem_take ht) x hxt
      generalize hcc : crc 4294967295 (ts.take k).flatten = cc at *
      generalize ts[k] = t at *
      have Hft := Lib.hid hft
      have HCC := Lib.hid hcc
      clear hft hcc
      go_wp2_with fail
      go_loop [3, 16] (fun s i => ∃ j : Nat, j ≤ t.length ∧ i = .int .i64 j ∧ s = .int .u32 ((crc cc (t.take j) : Nat) : Int)) (fun _ i => t.length - (intOf i).toNat)
      case atStart => exact ⟨0, Nat.zero_le _, rfl, rfl⟩
      case round =>
        obtain ⟨j, hj, rfl, rfl⟩ := hrel
        by_cases hjl : j < t.length
        · obtain ⟨ad', rfl, _, _, hcell'⟩ := hrow j (by rw [u8s_len]; exact hjl)
          rw [u8s_at hjl] at hcell'
          have hx := h8k _ (List.getElem_mem hjl)
          have hcl2 : crc cc (t.take j) < 4294967296 := crc_lt _ _ hcl fun x hx => h8k x (List.mem_of_mem_take hx)
          have hsn : crc cc (t.take (j + 1)) = crcB (crc cc (t.take j)) t[j] := by rw [List.take_succ_eq_append_getElem hjl, crc_snoc]
          generalize crc cc (t.take j) = c2 at *
          obtain ⟨x1, i1, t1, x2, i2, t2, q1, q2, q3, q4, q5, q6, q7, q8, q9⟩ := byte_step hT c2 t[j] hcl2 hx.1 hx.2
          rw [← hsn] at q9
          generalize hc3 : crc cc (t.take (j + 1)) = c3 at *
          have HC3 := Lib.hid hc3
          clear hsn hc3
          go_wp2_with fail
          go_round
          case rel => exact ⟨j + 1, by omega, by go_num, by rw [HC3.out]⟩
          case measure => simp [intOf]; omega
        · have HE := Lib.hid (show crc cc (t.take j) = crc 4294967295 (ts.take (k + 1)).flatten by
            rw [List.take_of_length_le (by omega), Hft.out, crc_append, HCC.out])
          go_wp2_with fail
          go_round
          case rel => exact ⟨k + 1, by omega, by go_num, by rw [HE.out]⟩
          case measure => simp [intOf]; omega
    · have HE := Lib.hid (show ts.take k = ts from List.take_of_length_le (by omega))
      have hcl : crc 4294967295 (ts.take k).flatten < 4294967296 := crc_lt _ _ (by omega) fun x hx => by
        obtain ⟨t, ht, hxt⟩ := List.mem_flatten.1 hx
        exact h8 t (List.mem_of_mem_take ht) x hxt
      go_wp2_with fail
      go_ret
      refine ⟨?_, rfl⟩
      show Ending.returned (Value.int .u32 (bits BinOp.xor .u32 IntKind.u32.max ((crc 4294967295 (ts.take k).flatten : Nat) : Int))) = _
      rw [not_u32 _ hcl, HE.out]
      rfl

end Go.Proofs.YtaihemmnpliehaaDoor
