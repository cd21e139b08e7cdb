/-
  The contract of awake: the document's example.
-/
import Derived.Test.YtalifbajihkenaaNPost
import Derived.Lib.SlBytesConst
namespace Go.Proofs.Ytalifbajihkenaa
open Go.RowKit Go.Maps
set_option linter.unusedSimpArgs false
set_option linter.unusedVariables false

theorem new_at {w : World} {o : Obj} {g : Nat} (h : w.heap.size = g) : (w.alloc o).heap[g]? = some o := by subst h; exact heap_alloc_new w o
theorem Row.one {w : World} {g : Nat} {x : Int} {t : TypeId} {fr : Nat × Nat} (h : w.heap[g]? = some (.cells #[.int .u8 x] t fr)) : Row w (some ⟨g, 0, none⟩) (bs [x]) := fun j hj => by
  have h0 : j = 0 := by simp [bs] at hj; omega
  subst h0
  refine ⟨_, rfl, lt_of_block h, ?_⟩
  simp [Addr.add, World.cell?, h, bs]
theorem run_str {A : Option Addr} {x : Int} {w : World} (c : Nat) (h : Row w A (bs [x])) : (convert 35 9 (.slice A 1 c)).run Try.prog w = .ok (.string ⟨#[UInt8.ofNat x.toNat]⟩) w := by
  rw [run_convert_bytes_string w 35 9 5 A 1 c Try.underlying35 Try.underlying5 Try.underlying9]
  obtain ⟨ad, rfl, _, hc⟩ := h 0 (by simp [bs])
  have hl := run_loadCells_list (P := Try.prog) w ad [.int .u8 x] (fun j v hj => by
    have h0 : j = 0 := by
      rcases j with _ | j
      · rfl
      · simp at hj
    subst h0
    rw [hc]; simpa [bs] using hj)
  simp only [List.length_cons, List.length_nil] at hl
  have := run_bytesToString w ad 1 c [x] hl
  rw [this]
  rfl

theorem Nt.fresh {w : World} {B b mb n : Nat} {nodes : Int} {v : Value} {ls : List L3} {sp : Int → Int → Bool} (h : Nt w B b mb n nodes v ls sp) : ∀ q, w.heap.size ≤ q → ¬ NB b mb v q := fun q hq e => by
  rcases e with e | e | e
  · have := lt_of_block h.blk; omega
  · have := h.map.lt; omega
  · obtain ⟨cur, hc⟩ := h.row q e
    have := lt_of_block hc; omega

set_option maxRecDepth 100000 in
set_option maxHeartbeats 2000000 in
theorem awake_any (w : World) : Calls Try.prog 8 #[] w fun e w' => e = .returned (.bool true) ∧ Below w.heap.size w w' := by
  have kc := fun (w : World) (C : Array Value) (n c : Nat) => Lib.run_convert_bytes_const (P := Try.prog) w 35 5 C n c Try.underlying35 Try.underlying5
  have HNEW := Lib.hid (new_any w 3 (by decide) (by decide))
  go_enter Try.func8, Try.ntmps8
  go_wp2_with fail
  refine (HNEW.out).mono ?_
  rintro e w1 ⟨rfl, hN1, hb1⟩
  have HN1 := Lib.hid hN1
  have HB1 := Lib.hid hb1
  clear hN1 hb1 HNEW
  have kc2 : ∀ (o : Obj) (C : Array Value) (n c : Nat), (convert 35 35 (.slice (some ⟨w1.heap.size + 1, 0, none⟩) n c)).run Try.prog ((w1.alloc o).alloc (.cells C 5)) = .ok (.slice (some ⟨w1.heap.size + 1, 0, none⟩) n c) ((w1.alloc o).alloc (.cells C 5 (C.size, C.size + 1))) := fun o C n c => by
    have := kc (w1.alloc o) C n c
    simpa using this
  go_wp2_with fail
  obtain ⟨w2, hw2⟩ : ∃ x, x = ((w1.alloc (.cells #[.int .u8 97] 5 (1, 2))).alloc (.cells #[.int .u8 98] 5 (1, 2))).alloc (.cells #[.int .i64 0, .int .i64 1, .slice (some ⟨w1.heap.size, 0, none⟩) 1 1, .int .i64 1, .int .i64 2, .slice (some ⟨w1.heap.size + 1, 0, none⟩) 1 1] 37) := ⟨_, rfl⟩
  have hal : Below w1.heap.size w1 w2 := by rw [hw2]; exact (((Below.refl _ _).alloc (Nat.le_refl _) _).alloc (by simp) _).alloc (by simp; omega) _
  have g0 : w2.heap[w1.heap.size]? = some (.cells #[.int .u8 97] 5 (1, 2)) := by
    rw [hw2, Below.heap_alloc _ _ _ (by simp; omega), Below.heap_alloc _ _ _ (by simp)]; exact heap_alloc_new _ _
  have g1 : w2.heap[w1.heap.size + 1]? = some (.cells #[.int .u8 98] 5 (1, 2)) := by
    rw [hw2, Below.heap_alloc _ _ _ (by simp)]; exact new_at (by simp)
  have g2 : w2.heap[w1.heap.size + 1 + 1]? = some (.cells #[.int .i64 0, .int .i64 1, .slice (some ⟨w1.heap.size, 0, none⟩) 1 1, .int .i64 1, .int .i64 2, .slice (some ⟨w1.heap.size + 1, 0, none⟩) 1 1] 37 (0, 0)) := by
    rw [hw2]; exact new_at (by simp)
  rw [← hw2]
  have h2 := HN1.out.below hal
  have hlt := lt_of_block HN1.out.blk
  have hmt := HN1.out.map.lt
  have hnb : ∀ q, w1.heap.size ≤ q → ¬ NB (w.heap.size + 1) w.heap.size (.slice none 0 0) q := fun q hq e => by
    rcases e with e | e | e
    · omega
    · omega
    · simp [Value.ownBlock] at e
  have hin : Lts (NB (w.heap.size + 1) w.heap.size (.slice none 0 0)) w2 (some ⟨w1.heap.size + 1 + 1, 0, none⟩) [(0, 1, [97]), (1, 2, [98])] := lts_of g2 fun j hj => by
    have hj2 : j = 0 ∨ j = 1 := by simp at hj; omega
    rcases hj2 with rfl | rfl
    · refine ⟨rfl, rfl, _, 1, rfl, Nat.le_refl _, Row.one g0, fun a ea => ?_⟩
      injection ea with ea
      subst ea
      exact ⟨hnb _ (Nat.le_refl _), lt_of_block g0⟩
    · refine ⟨rfl, rfl, _, 1, rfl, Nat.le_refl _, Row.one g1, fun a ea => ?_⟩
      injection ea with ea
      subst ea
      exact ⟨hnb _ (by show w1.heap.size ≤ w1.heap.size + 1; omega), lt_of_block g1⟩
  have HP := Lib.hid (post_any (c := 2) h2 (cs := []) (World.ownsRow_nil w2 _ 37 3) hin (fun a ea => by injection ea with ea; subst ea; exact hnb _ (by show w1.heap.size ≤ w1.heap.size + 1 + 1; omega)) (by simp) (by simp))
  have HB2 := Lib.hid (HB1.out.trans (hal.mono HB1.out.size))
  clear hw2 hal g0 g1 g2 h2 hlt hmt hnb hin kc kc2 HN1 HB1
  refine (HP.out).mono ?_
  rintro e w3 ⟨rfl, v3, cs3, hN3, hO3, hD3, hM3⟩
  rw [show [((0 : Int), (1 : Int), [(97 : Int)]), (1, 2, [98])].filter (postB 3) = [(0, 1, [97]), (1, 2, [98])] by decide] at hN3 hO3 ⊢
  have HB3 := Lib.hid (HB2.out.trans hD3.below)
  have HN3 := Lib.hid hN3
  clear hN3 hO3 hD3 hM3 HP HB2
  have HT := Lib.hid (take_in HN3.out HB3.out.size (k := 1) (by decide) (by decide) (by decide))
  go_wp2_with fail
  refine (HT.out).mono ?_
  rintro e w4 ⟨Y, cy, v4, rfl, hcy, hrow, hYn, hv4, hN4, hD4, _⟩
  have HB4 := Lib.hid (HB3.out.trans hD4.below)
  have HN4 := Lib.hid hN4
  have HR4 := Lib.hid hrow
  have HY4 : Hid (∀ a, Y = some a → ¬ NB (w.heap.size + 1) w.heap.size v4 a.block ∧ a.block < w4.heap.size) := fun a ea => by
    refine ⟨?_, Nat.lt_of_lt_of_le (hYn a ea).2 hD4.below.size⟩
    unfold NB
    rw [hv4]
    exact (hYn a ea).1
  clear hrow hYn hN4 hD4 HT HN3 HB3
  obtain ⟨w5, hw5⟩ : ∃ x, x = w4.alloc (.cells #[.int .i64 1, .int .i64 2, .slice Y 1 cy] 37) := ⟨_, rfl⟩
  have hb5 : Below w4.heap.size w4 w5 := by rw [hw5]; exact (Below.refl _ _).alloc (Nat.le_refl _) _
  have hX5 : w5.heap[w4.heap.size]? = some (.cells #[.int .i64 1, .int .i64 2, .slice Y 1 cy] 37 (0, 0)) := by rw [hw5]; exact heap_alloc_new w4 _
  have HX5 := Lib.hid hX5
  have HB5 := Lib.hid (HB4.out.trans (hb5.mono HB4.out.size))
  have HL5 : Hid (Below w4.heap.size w4 w5) := hb5
  have HS := Lib.hid (split_any (HN4.out.below hb5) (by decide) HB5.out.size 1 0 true)
  clear hX5 hb5
  simp only [letV, List.length_cons, List.length_nil]
  go_wp2_with fail
  rw [← hw5]
  refine (HS.out).mono ?_
  rintro e w6 ⟨rfl, hN6, hD6⟩
  rw [show apartB 3 1 0 = true by decide, if_pos rfl] at hN6
  have HN6 := Lib.hid hN6
  have HB6 := Lib.hid (HB5.out.trans hD6.below)
  have HX6 := Lib.hid ((hD6.same _ (lt_of_block HX5.out) (HN4.out.fresh _ (Nat.le_refl _))).trans HX5.out)
  have HR6 : Hid (Row w6 Y (bs [98])) := (HR4.out.below HL5.out).kept hD6.below.size fun a ea hl => hD6.same _ hl (HY4.out a ea).1
  have HT := Lib.hid (take_out HN6.out 0 (by decide))
  have hce : comesE (setS (fun _ _ => false) 1 0 true) ((([] : List L3) ++ [(0, 1, [97]), (1, 2, [98])]).eraseIdx 1) 0 = 10 := by decide
  rw [hce] at HT
  clear hce
  clear hN6 hD6 HS hw5
  go_wp2_with fail
  refine (HT.out).mono ?_
  rintro e w7 ⟨rfl, hb7⟩
  obtain ⟨w8, hw8⟩ : ∃ x, x = w7.alloc (.cells #[.int .i64 0, .int .i64 0, .slice none 0 0] 37) := ⟨_, rfl⟩
  have hb8 : Below w6.heap.size w6 w8 := by rw [hw8]; exact hb7.alloc hb7.size _
  have x2 := three_cell2 ((hb8.block _ (lt_of_block HX6.out)).trans HX6.out)
  have hcv : (convert 35 9 (.slice Y 1 cy)).run Try.prog w8 = .ok (.string ⟨#[98]⟩) w8 := run_str cy (HR6.out.below hb8)
  have HLEN := Lib.hid (len_any (HN6.out.below hb8))
  have HB8 := Lib.hid (HB6.out.trans (hb8.mono HB6.out.size))
  have x27 := three_cell2 ((hb7.block _ (lt_of_block HX6.out)).trans HX6.out)
  have hlt7 : w4.heap.size < w7.heap.size := Nat.lt_of_lt_of_le (lt_of_block HX6.out) hb7.size
  clear hb7 hb8 HT HN6 HX6 HR6 HY4 HN4 HR4 hcy HX5 HB5 HL5 HB6 hv4
  subst hw8
  simp only [letV]
  go_wp2_with fail
  refine (HLEN.out).mono ?_
  rintro e w9 ⟨rfl, hw⟩
  have hw := hw.symm
  subst hw
  have hl1 : ((((([] : List L3) ++ [(0, 1, [97]), (1, 2, [98])]).eraseIdx 1).length : Nat) : Int) = 1 := by decide
  rw [hl1]
  go_wp2_with fail
  go_ret
  exact ⟨rfl, HB8.out⟩

end Go.Proofs.Ytalifbajihkenaa
