/-
  The contracts of Letters and of the document's Same.
-/
import Derived.Test.YtalifbajihkenaaNLet
import Derived.BigQuiet
namespace Go.Proofs.Ytalifbajihkenaa
open Go.RowKit Go.Maps
set_option linter.unusedSimpArgs false
set_option linter.unusedVariables false

section
variable {w w' : World} {B b mb n : Nat} {nodes x y i : Int} {v : Value} {ls : List L3} {sp : Int → Int → Bool}
set_option maxRecDepth 100000 in
set_option maxHeartbeats 2000000 in
theorem letters_any (h : Nt w B b mb n nodes v ls sp) (hl : ls.length ≤ 100000) (hp : ∀ l ∈ ls, l.2.2.length ≤ 70368744177664) :
    Calls Try.prog 25 #[.pointer (some ⟨b, 0, none⟩)] w fun e w' => (∃ A' c', e = .returned (.slice A' ls.length c') ∧ ls.length ≤ c' ∧ LetIn w' A' ls) ∧ Below w.heap.size w w' := by
  have c1 := h.cells.2.1
  have hrw := h.row
  obtain ⟨A, c, rfl, _, _, hL⟩ := h.form
  have HL : Hid (∀ wr, Below w.heap.size w wr → Lts (NB b mb (.slice A ls.length c)) wr A ls) := fun wr hb => hL.kept hb.size (fun ad ea => by
    obtain ⟨cur, hc⟩ := hrw ad.block (by rw [ea]; rfl)
    exact hb.block _ (lt_of_block hc)) fun g hg _ => hb.block g hg
  have HC1 : Hid (∀ wr, Below w.heap.size w wr → wr.cell? ⟨b, 1, none⟩ = some (.slice A ls.length c)) := fun wr hb => (World.cell?_of_block (a := ⟨b, 1, none⟩) (hb.block b (lt_of_block h.blk))).trans c1
  have HP := Lib.hid hp
  obtain ⟨m, hn⟩ : ∃ n, n = ls.length := ⟨_, rfl⟩
  rw [← hn] at hl c1 HC1 ⊢
  have HN : Hid (ls.length = m) := hn.symm
  obtain ⟨i0, z0, hi, hz0, hz1, hz2, _⟩ := elem48.hi
  obtain ⟨wm, hm1, hm2, hm3⟩ := run_make_own (P := Try.prog) w w.heap.size 48 37 i0 z0 3 Try.underlying48 hi hz0 hz1 .i64 .i64 m (by rw [hz2]; omega) (by unfold maxLen; omega) (Nat.le_refl _)
  have HM : Hid (OwnL wm w.heap.size 37 (.slice (some ⟨w.heap.size, 0, none⟩) 0 m) []) := ⟨[], hm2, fun j hj => by simp at hj⟩
  have HBM : Hid (Below w.heap.size w wm) := (Below.refl _ _).grown hm3 (Nat.le_refl _) (fun g e => by cases e)
  have c2 := HC1.out wm HBM.out
  clear h hrw hL hp hn hi hz0 hz1 hz2 hm2 hm3
  go_enter Try.func25, Try.ntmps25
  go_wp2_with fail
  go_loopw [3, 19] (fun u i wr => ∃ k : Nat, k ≤ m ∧ i = .int .i64 k ∧ OwnL wr w.heap.size 37 u (ls.take k) ∧ Below w.heap.size w wr) (fun _ i _ => m - (intOf i).toNat)
  case atStart => exact ⟨0, Nat.zero_le _, rfl, HM.out, HBM.out⟩
  case round =>
    obtain ⟨k, hk, rfl, ho, hb⟩ := hrel
    clear hm1 HM
    by_cases hlt : k < m
    · have hlt' : k < ls.length := by rw [HN.out]; exact hlt
      obtain ⟨ad, rfl, _, q0, q1, Y, cy, q2, q3, q4, _⟩ := HL.out wr hb k hlt'
      have HTK : Hid (ls.take (k + 1) = ls.take k ++ [ls[k]'hlt']) := take_snoc ls k hlt'
      have HTL : Hid ((ls.take k).length = k) := by show _ = _; rw [List.length_take]; omega
      have hpl := HP.out _ (List.getElem_mem hlt')
      generalize ls[k]'hlt' = l at *
      obtain ⟨f, t, p⟩ := l
      simp only at q0 q1 q2 q3 q4 hpl
      obtain ⟨cs, ho1, ho2⟩ := ho
      rw [HTL.out] at ho1
      have i1 : (k : Int) < (m : Int) := by omega
      have i0 : (0 : Int) ≤ (k : Int) := by omega
      obtain ⟨w3, hw3⟩ : ∃ x, x = wr.alloc (.cells #[.int .i64 f, .int .i64 t, .slice Y p.length cy] 37) := ⟨_, rfl⟩
      have hb3 : Below wr.heap.size wr w3 := by rw [hw3]; exact (Below.refl _ _).alloc (Nat.le_refl _) _
      have HO := Lib.hid (own_any f t Y p.length cy p w3 rfl (q4.below hb3) hpl)
      have HW : Hid (∀ A' c' w5 A7 c7 w7, Fresh w3 w5 p A' c' → w7.ownsRow w.heap.size 37 3 (.slice A7 (k + 1) c7) (k + 1) (cs ++ [.int .i64 f, .int .i64 t, .slice A' p.length c']) → (w5.alloc (.cells #[.int .i64 f, .int .i64 t, .slice A' p.length c'] 37)).grownBy w7 u3.ownBlock → ((Value.slice A7 (k + 1) c7).ownBlock = u3.ownBlock ∨ (Value.slice A7 (k + 1) c7).ownBlock = some (w5.alloc (.cells #[.int .i64 f, .int .i64 t, .slice A' p.length c'] 37)).heap.size) → OwnL w7 w.heap.size 37 (.slice A7 (k + 1) c7) (ls.take (k + 1)) ∧ Below w.heap.size w w7) := fun A' c' w5 A7 c7 w7 hF k1 k2 k3 => by
        have hb5 : Below wr.heap.size wr w5 := hb3.trans (hF.2.2.2.mono hb3.size)
        have hb6 : Below wr.heap.size wr (w5.alloc (.cells #[.int .i64 f, .int .i64 t, .slice A' p.length c'] 37)) := hb5.alloc hb5.size _
        rw [HTK.out]
        refine ⟨OwnL.put (by rw [HTL.out]; exact own_below ho1 hb6) (ho2.kept (Nat.le_refl 1) hb6.size (fun g hg _ => hb6.block g hg) fun g _ z => z) hF.1 (hF.2.1.below ((Below.refl _ _).alloc (Nat.le_refl _) _)) (fun a ea h0 => ⟨fun z => ?_, ?_⟩) (by rw [HTL.out]; exact k1) k2 k3, (hb.trans (hb6.mono hb.size)).grown k2 (Nat.le_trans hb.size hb6.size) fun g e => (own_lt ho1 e).1⟩
        · have := (own_lt ho1 z).2; have := (hF.2.2.1 a ea).1; have := hb3.size; omega
        · have := (hF.2.2.1 a ea).2; simp; omega
      have HOR : Hid (∀ A' c' w5, Fresh w3 w5 p A' c' → (w5.alloc (.cells #[.int .i64 f, .int .i64 t, .slice A' p.length c'] 37)).ownsRow w.heap.size 37 3 u3 k cs ∧ w.heap.size ≤ (w5.alloc (.cells #[.int .i64 f, .int .i64 t, .slice A' p.length c'] 37)).heap.size) := fun A' c' w5 hF => by
        have hb5 : Below wr.heap.size wr w5 := hb3.trans (hF.2.2.2.mono hb3.size)
        have hb6 : Below wr.heap.size wr (w5.alloc (.cells #[.int .i64 f, .int .i64 t, .slice A' p.length c'] 37)) := hb5.alloc hb5.size _
        exact ⟨own_below ho1 hb6, Nat.le_trans hb.size hb6.size⟩
      clear ho1 ho2 hb3 hb q3 q4
      unfold letV at HO
      go_wp2_with fail
      rw [← hw3]
      refine (HO.out).mono ?_
      rintro e w5 ⟨A5, c5, rfl, hF⟩
      obtain ⟨ho6, hs6⟩ := HOR.out _ _ _ hF
      have HF := Lib.hid hF
      have HO6 := Lib.hid ho6
      have HX6 : Hid (∀ j u, [Value.int .i64 f, .int .i64 t, .slice A5 p.length c5][j]? = some u → ∃ ad, (some ⟨w5.heap.size, 0, none⟩ : Option Addr) = some ad ∧ (w5.alloc (.cells #[.int .i64 f, .int .i64 t, .slice A5 p.length c5] 37)).cell? (ad.add j) = some u) := news_three' (heap_alloc_new w5 _)
      clear hF ho6 HO hw3 q0 q1 q2
      go_wp2_with (at_builtin; refine wpList_append_el elem48 rfl (.tmp 23) (.tmp 26) rfl w.heap.size u3 k cs rfl HO6.out _ 1 1 [.int .i64 f, .int .i64 t, .slice A5 p.length c5] rfl rfl HX6.out (by simp [Value.oneCell']) (by unfold maxLen; omega) (by omega) hs6 ?_; intro A7 c7 w7 ho7 hg7 hv7; have HS7 := Lib.hid (HW.out _ _ _ _ _ _ HF.out ho7 hg7 hv7); clear ho7 hg7 hv7)
      go_roundw
      case rel => exact ⟨k + 1, by omega, by go_num, HS7.out.1, HS7.out.2⟩
      case measure => simp [intOf]; omega
    · have i1 : ¬ (k : Int) < (m : Int) := by omega
      have hkn : k = m := by omega
      have HF : Hid (ls.take k = ls) := List.take_of_length_le (by rw [HN.out]; omega)
      rw [HF.out] at ho
      obtain ⟨A', c', rfl, r1, r2⟩ := ho.letIn
      rw [HN.out] at r1 ⊢
      have HR := Lib.hid r2
      clear r2
      go_wp2_with fail
      go_ret
      exact ⟨⟨A', c', rfl, r1, HR.out⟩, hb⟩
end

theorem LetIn.drewN {w : World} {A : Option Addr} {ls : List L3} (h : LetIn w A ls) (n : Nat) : LetIn (w.drewN n) A ls := h
set_option maxRecDepth 100000 in
set_option maxHeartbeats 2000000 in
theorem same13_any (A B : Option Addr) (c d : Nat) (ls : List L3) (w : World) (h1 : LetIn w A ls) (h2 : LetIn w B ls) (h8 : ∀ l ∈ ls, Bytes8 l.2.2) (hl : ls.length ≤ 9223372036854775807) :
    Calls Try.prog 13 #[.slice A ls.length c, .slice B ls.length d] w fun e w' => e = .returned (.bool true) ∧ Below w.heap.size w w' := by
  obtain ⟨m, hn⟩ : ∃ n, n = ls.length := ⟨_, rfl⟩
  have H1 := Lib.hid h1
  have H2 := Lib.hid h2
  have H8 := Lib.hid h8
  rw [← hn] at hl ⊢
  have HN : Hid (ls.length = m) := hn.symm
  have hne' : ((m : Int) != (m : Int)) = false := by simp
  clear h1 h2 h8 hn
  go_enter Try.func13, Try.ntmps13
  go_wp2_with fail
  go_loopw [5, 13] (fun _ i wr => ∃ k : Nat, k ≤ m ∧ i = .int .i64 k ∧ Below w.heap.size w wr) (fun _ i _ => m - (intOf i).toNat)
  case atStart => exact ⟨0, Nat.zero_le _, rfl, Below.refl _ _⟩
  case round =>
    obtain ⟨k, hk, rfl, hbl⟩ := hrel
    by_cases hlt : k < m
    · have hlt' : k < ls.length := by rw [HN.out]; exact hlt
      obtain ⟨ad, rfl, a0, a1, X, cx, a2, _, ra, _⟩ := H1.out.at hbl k hlt'
      obtain ⟨bd, rfl, b0, b1, Y, cy, b2, _, rb, _⟩ := H2.out.at hbl k hlt'
      have h8 := H8.out _ (List.getElem_mem hlt')
      have i1 : (k : Int) < (m : Int) := by omega
      have i0 : (0 : Int) ≤ (k : Int) := by omega
      generalize ls[k]'hlt' = l at *
      obtain ⟨f, t, p⟩ := l
      simp only at a0 a1 a2 b0 b1 b2 ra rb h8
      have HS : Hid (∀ n, Calls Try.prog 23 #[.slice X p.length cx, .slice Y p.length cy] (wr.drewN n) fun e w' => e = .returned (.bool true) ∧ ∃ m, w' = wr.drewN m) := fun n => (rsame_any X Y cx cy p p (wr.drewN n) ra rb h8 h8).mono fun _ _ ⟨he, hm⟩ => ⟨by rw [he]; simp, n, hm⟩
      clear ra rb h8
      have hx' : (f != f) = false := by simp
      have hy' : (t != t) = false := by simp
      go_wp2_with fail
      go_quiet (first | (go_at_call 23; exact HS.out _))
      all_goals (go_wp2_with fail; go_roundw)
      case rel => exact ⟨k + 1, by omega, by go_num, hbl.trans ⟨rfl, rfl, rfl, Nat.le_refl _, fun _ _ => rfl⟩⟩
      case measure => simp [intOf]; omega
    · have i1 : ¬ (k : Int) < (m : Int) := by omega
      go_wp2_with fail
      go_ret
      exact ⟨rfl, hbl⟩

end Go.Proofs.Ytalifbajihkenaa
