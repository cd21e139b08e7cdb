/-
  The contract of (*Chain).Put.
-/
import Derived.Test.YtphcakhhjjdpiaaSteps
import Derived.Test.YtphcakhhjjdpiaaUpTo
import Derived.Test.YtphcakhhjjdpiaaRight
import Derived.Deep.CutBlock
import Derived.Deep.DeepCutAuto
namespace Go.Proofs.Ytphcakhhjjdpiaa
open Go.RowKit

/-- what Put answers -/
def putE (vs : List Ver) (h : Ver) : Int :=
  if h.1 < 1 ∨ 1099511627776 < h.1 then 1 else if goneB h.2 = false ∧ rightB h.2 = false then 4 else if h.1 ≤ lastS vs then 7 else 0
/-- what is there behind Put -/
def putV (vs : List Ver) (h : Ver) : List Ver := if putE vs h = 0 then vs ++ [h] else vs

/-- What Put leaves. -/
def PutGave (K : Nat → Prop) (w : World) (B b : Nat) (v : Value) (vs : List Ver) (h : Ver) (e : Ending) (w' : World) : Prop :=
  e = .returned (.int .i64 (putE vs h)) ∧ ∃ v', Chn K w' B b v' (putV vs h) ∧ Chg w w' b v v'
theorem putGave_no {K : Nat → Prop} {w w' : World} {B b : Nat} {v : Value} {vs : List Ver} {h : Ver} {k : Int} (L : Chn K w B b v vs) (hb : Below w.heap.size w w') (hk : putE vs h = k) (h0 : k ≠ 0) : PutGave K w B b v vs h (.returned (.int .i64 k)) w' := by
  subst hk
  refine ⟨rfl, v, ?_, Chg.of_below hb b v⟩
  unfold putV
  rw [if_neg h0]
  exact L.below hb

theorem putE_1 {vs : List Ver} {h : Ver} (h1 : h.1 < 1 ∨ 1099511627776 < h.1) : putE vs h = 1 := if_pos h1
theorem putE_4 {vs : List Ver} {h : Ver} (h1 : ¬ h.1 < 1) (h2 : ¬ 1099511627776 < h.1) (h3 : goneB h.2 = false) (h4 : rightB h.2 = false) : putE vs h = 4 := by
  unfold putE
  rw [if_neg (by omega), if_pos ⟨h3, h4⟩]
theorem putE_7 {vs : List Ver} {h : Ver} (h1 : ¬ h.1 < 1) (h2 : ¬ 1099511627776 < h.1) (h3 : goneB h.2 = true ∨ rightB h.2 = true) (h5 : h.1 ≤ lastS vs) : putE vs h = 7 := by
  unfold putE
  rw [if_neg (by omega), if_neg (by rintro ⟨a, b⟩; rcases h3 with h | h <;> simp_all), if_pos h5]
theorem putE_0 {vs : List Ver} {h : Ver} (h1 : ¬ h.1 < 1) (h2 : ¬ 1099511627776 < h.1) (h3 : goneB h.2 = true ∨ rightB h.2 = true) (h5 : ¬ h.1 ≤ lastS vs) : putE vs h = 0 := by
  unfold putE
  rw [if_neg (by omega), if_neg (by rintro ⟨a, b⟩; rcases h3 with h | h <;> simp_all), if_neg h5]

theorem put_fin {K : Nat → Prop} {w w1 w5 w9 : World} {B b c5 n : Nat} {v v9 : Value} {vs : List Ver} {h : Ver} {A5 : Option Addr} {cs : List Value} {o : Obj} (L : Chn K w B b v vs) (hb1 : Below w.heap.size w w1) (hb5 : Below w1.heap.size w1 w5) (hK : ∀ g, w1.heap.size ≤ g → K g)
    (hc5 : h.2.length ≤ c5) (hr5 : Row (fun g => w1.heap.size ≤ g) w5 A5 (i32s h.2)) (hce : Cells2 (fun g => (K g ∧ g ≠ b) ∧ some g ≠ v.ownBlock) w1 cs vs)
    (ho9 : w9.ownsRow B 41 2 v9 n (cs ++ [.int .u64 h.1, .slice A5 h.2.length c5])) (hn : n = vs.length + 1) (hg9 : (w5.alloc o).grownBy w9 v.ownBlock) (ha9 : v9.ownBlock = v.ownBlock ∨ v9.ownBlock = some (w5.alloc o).heap.size)
    (hE : putE vs h = 0) : PutGave K w B b v vs h (.returned (.int .i64 0)) (w9.setCell ⟨b, 0, none⟩ v9) := by
  have hne := L.ne
  have hlt := L.lt
  have hb15 : Below w.heap.size w w5 := hb1.trans (hb5.mono hb1.size)
  have hba : Below w5.heap.size w5 (w5.alloc o) := (Below.refl _ _).alloc (Nat.le_refl _) _
  have hb0 : Below w.heap.size w (w5.alloc o) := hb15.trans (hba.mono hb15.size)
  have hs9 := hg9.size
  have hs0 := hb0.size
  have hvl : ∀ g, v.ownBlock = some g → g < w.heap.size := fun g e => (L.low e).2
  have hsa : (w5.alloc o).heap.size = w5.heap.size + 1 := by simp
  have h9b : v9.ownBlock ≠ some b := fun e => by
    rcases ha9 with e' | e'
    · exact hne (e'.symm.trans e)
    · rw [e'] at e; injection e with e; omega
  have hrow : Own2 41 (fun g => K g ∧ g ≠ b) w9 B v9 (vs ++ [h]) := by
    refine Own2.step (K := fun g => K g ∧ g ≠ b) (w := w5) (m := (w5.alloc o).heap.size) hba (hce.kept hb5.size fun g hg s => ⟨hb5.block g hg, s⟩) (Cells2.one h A5 c5 hc5 (hr5.mono fun g _ s => ⟨⟨hK g s, ?_⟩, fun e => ?_⟩)) ho9 (by simp [hn]) hg9 ha9 (by omega)
    · have := hb1.size; omega
    · have := hvl g e.symm; have := hb1.size; omega
  have hblk9 : w9.heap[b]? = some (.cells #[v] 61 (0, 0)) := by
    rw [hg9.block b (by omega) (fun e => hne e.symm), hb0.block b hlt.1]; exact L.blk
  refine ⟨by rw [hE], v9, ?_, ?_⟩
  · unfold putV
    rw [if_pos hE]
    refine ⟨one_set hblk9, hrow.kept (by rw [set_size]; exact Nat.le_refl _) (fun g _ e => Below.heap_setCell _ _ _ _ (fun e' => h9b (by rw [← e, e']))) fun g _ s => ⟨Below.heap_setCell _ _ _ _ s.2, s⟩, L.lob⟩
  · refine ⟨?_, ?_, ?_, by rw [set_size]; omega, fun g hg h1 h2 => ?_, ?_⟩
    · rw [set_os]; exact hg9.os.trans hb0.os
    · rw [set_tape]; exact hg9.tape.trans hb0.tape
    · rw [set_output]; exact hg9.output.trans hb0.output
    · rw [Below.heap_setCell _ _ _ _ h1, hg9.block g (by omega) h2, hb0.block g hg]
    · rcases ha9 with e | e
      · exact .inl e
      · exact .inr ⟨_, e, hs0⟩

set_option maxHeartbeats 400000 in
theorem put_nil (h : Ver) (X : Option Addr) (c : Nat) (w : World) : Calls Try.prog 14 #[.pointer none, .agg #[.int .u64 h.1, .slice X h.2.length c]] w fun e w' => e = .returned (.int .i64 6) ∧ Below w.heap.size w w' := by
  go_enter Try.func14, Try.ntmps14
  go_wp2_with fail
  go_ret
  exact ⟨rfl, (Below.refl _ _).alloc (Nat.le_refl _) _⟩

set_option maxRecDepth 100000 in
set_option maxHeartbeats 1000000 in
theorem put_any (S K : Nat → Prop) (B b : Nat) (v : Value) (vs : List Ver) (h : Ver) (X : Option Addr) (c : Nat) (w : World) (L : Chn K w B b v vs) (hn : vs.length ≤ 900) (hr : Row S w X (i32s h.2)) (hl : h.2.length ≤ 1000) (hK : ∀ g, w.heap.size ≤ g → K g) :
    Calls Try.prog 14 #[.pointer (some ⟨b, 0, none⟩), .agg #[.int .u64 h.1, .slice X h.2.length c]] w fun e w' => PutGave K w B b v vs h e w' := by
  obtain ⟨w1, hw1⟩ : ∃ x, x = w.alloc (.cells #[.int .u64 h.1, .slice X h.2.length c] 41) := ⟨_, rfl⟩
  have hb1 : Below w.heap.size w w1 := by rw [hw1]; exact (Below.refl _ _).alloc (Nat.le_refl _) _
  have hq1 : w1.heap[w.heap.size]? = some (.cells #[.int .u64 h.1, .slice X h.2.length c] 41 (0, 0)) := by rw [hw1]; exact heap_alloc_new w _
  have KQ : Hid (∀ W, Below w1.heap.size w1 W → (W.cell? ⟨w.heap.size, 0, none⟩ = some (.int .u64 h.1) ∧ W.cell? ⟨w.heap.size, 1, none⟩ = some (.slice X h.2.length c) ∧ W.cell? ⟨b, 0, none⟩ = some v) ∧ Chn K W B b v vs ∧ Row S W X (i32s h.2) ∧ Below w.heap.size w W) := fun W hW => by
    have hbW := hb1.trans (hW.mono hb1.size)
    have hq := (hW.block _ (lt_of_block hq1)).trans hq1
    exact ⟨⟨two_cell0 hq, two_cell1 hq, (L.below hbW).cell⟩, L.below hbW, hr.below hbW, hbW⟩
  obtain ⟨⟨x0, x1, x2⟩, L1, r1, _⟩ := KQ.out w1 (Below.refl _ _)
  have HW1 := Lib.hid hw1
  have HNO : Hid (∀ W k, Below w1.heap.size w1 W → putE vs h = k → k ≠ 0 → PutGave K w B b v vs h (.returned (.int .i64 k)) W) := fun W k hW hk h0 => putGave_no L (hb1.trans (hW.mono hb1.size)) hk h0
  have HL := Lib.hid L
  have hsz1 : w.heap.size < w1.heap.size := lt_of_block hq1
  clear hw1 hr hb1 hq1 L
  by_cases g1 : h.1 < 1
  · have HE := Lib.hid (HNO.out w1 1 (Below.refl _ _) (putE_1 (.inl g1)) (by decide))
    clear HNO L1 r1
    go_enter Try.func14, Try.ntmps14
    go_wp2_with fail
    rw [← HW1.out]
    go_wp2_with fail
    go_ret
    exact HE.out
  by_cases g2 : 1099511627776 < h.1
  · have HE := Lib.hid (HNO.out w1 1 (Below.refl _ _) (putE_1 (.inr g2)) (by decide))
    clear HNO L1 r1
    go_enter Try.func14, Try.ntmps14
    go_wp2_with fail
    rw [← HW1.out]
    go_wp2_with fail
    go_ret
    exact HE.out
  have HG := Lib.hid (gone_any h.1 X h.2 c w1)
  have HR : Hid (∀ W, Below w1.heap.size w1 W → Calls Try.prog 27 #[.slice X h.2.length c] W fun e w' => e = .returned (.bool (rightB h.2)) ∧ W = w') := fun W hW => right_any S X c h.2 W (KQ.out W hW).2.2.1 (by omega)
  have HLA : Hid (∀ W n, Below w1.heap.size w1 W → Calls Try.prog 22 #[.pointer (some ⟨b, 0, none⟩)] (W.drewN n) fun e w' => e = .returned (.int .u64 (lastS vs)) ∧ ∃ m, w' = W.drewN m) := fun W n hW => (last_any K B b v vs (W.drewN n) (KQ.out _ (below_drewN hW n)).2.1 (by omega)).mono fun e w' ⟨e1, m, e2⟩ => ⟨e1, n + m, by rw [e2, World.drewN_drewN]⟩
  have HO : Hid (∀ W, Below w1.heap.size w1 W → Calls Try.prog 28 #[.agg #[.int .u64 h.1, .slice X h.2.length c]] W fun e w' => GaveVer W h e w') := fun W hW => own_any S h X c W (KQ.out W hW).2.2.1 hl
  have HH : Hid (goneB h.2 = false → rightB h.2 = false → putE vs h = 4) := fun a b => putE_4 g1 g2 a b
  have HH7 : Hid (goneB h.2 = true ∨ rightB h.2 = true → h.1 ≤ lastS vs → putE vs h = 7) := fun a b => putE_7 g1 g2 a b
  have HH0 : Hid (goneB h.2 = true ∨ rightB h.2 = true → ¬ h.1 ≤ lastS vs → putE vs h = 0) := fun a b => putE_0 g1 g2 a b
  obtain ⟨gb, hgb⟩ : ∃ x, x = goneB h.2 := ⟨_, rfl⟩
  obtain ⟨rb, hrb⟩ : ∃ x, x = rightB h.2 := ⟨_, rfl⟩
  rw [← hgb] at HG HH HH7 HH0
  rw [← hrb] at HR HH HH7 HH0
  clear hgb hrb L1 r1
  have HMID : Hid (∀ w2 , Below w1.heap.size w1 w2 → (gb = true ∨ rb = true) → h.1 ≤ lastS vs → PutGave K w B b v vs h (.returned (.int .i64 7)) w2) := fun w2 h2 a b => HNO.out w2 7 h2 (HH7.out a b) (by decide)
  have HKS : Hid (∀ w2, Below w1.heap.size w1 w2 → ∀ g, w2.heap.size ≤ g → K g) := fun w2 h2 g hg => hK g (by have := h2.size; omega)
  go_enter Try.func14, Try.ntmps14
  go_upto_region 1 with fail
  rw [← HW1.out]
  go_upto_region 5 with fail
  go_cut [17] (fun c wx => Below w1.heap.size w1 wx ∧ c = .bool (!gb && !rb))
  case first =>
    go_wp2_with fail
    refine (HG.out).mono ?_
    rintro e w2 ⟨rfl, hb2⟩
    obtain ⟨⟨y0, y1, y2⟩, _, _⟩ := KQ.out w2 hb2
    cases gb with
    | true =>
      go_wp2_with fail
      go_meet
      exact ⟨hb2, rfl⟩
    | false =>
      go_wp2_with fail
      refine (HR.out w2 hb2).mono ?_
      rintro e w3 ⟨rfl, rfl⟩
      cases rb <;> (go_wp2_with fail; go_meet; exact ⟨hb2, rfl⟩)
  case rest =>
    obtain ⟨hbc, rfl⟩ := hcut
    generalize wc = w2 at *
    have HOR : Hid ((!gb && !rb) = false → gb = true ∨ rb = true) := by show _ → _; cases gb <;> cases rb <;> simp
    have HAND : Hid ((!gb && !rb) = true → gb = false ∧ rb = false) := by show _ → _; cases gb <;> cases rb <;> simp
    generalize (!gb && !rb) = bb at *
    cases bb with
    | true =>
      have HE := Lib.hid (HNO.out w2 4 hbc (HH.out (HAND.out rfl).1 (HAND.out rfl).2) (by decide))
      go_wp2_with fail
      go_ret
      exact HE.out
    | false =>
      have hor := Lib.hid (HOR.out rfl)
      clear HOR HAND HR HG HH x0 x1 x2
      obtain ⟨⟨y0, y1, y2⟩, L2, r2, hbw2⟩ := KQ.out w2 hbc
      have HLA2 : Hid (∀ n, Calls Try.prog 22 #[.pointer (some ⟨b, 0, none⟩)] (w2.drewN n) fun e w' => e = .returned (.int .u64 (lastS vs)) ∧ ∃ m, w' = w2.drewN m) := fun n => HLA.out w2 n hbc
      have HMID2 := Lib.hid (fun n => HMID.out (w2.drewN n) (below_drewN hbc n) hor.out)
      have HZ := Lib.hid (HH0.out hor.out)
      clear HLA HMID HH7 HH0 hor L2 r2
      by_cases g3 : h.1 ≤ lastS vs
      · have HE := Lib.hid (fun n => HMID2.out n g3)
        clear HMID2
        generalize lastS vs = ls at *
        go_wp2_with fail
        go_quiet ((go_at_call 22; exact HLA2.out _))
        go_wp2_with fail
        go_ret
        exact HE.out _
      · have HE := Lib.hid (HZ.out g3)
        clear HMID2 HZ
        generalize lastS vs = ls at *
        go_wp2_with fail
        go_quiet ((go_at_call 22; exact HLA2.out _))
        obtain ⟨w3, hw3⟩ : ∃ x, x = w2.drewN nq := ⟨_, rfl⟩
        have hb3 : Below w1.heap.size w1 w3 := by rw [hw3]; exact below_drewN hbc nq
        rw [← hw3]
        clear hw3 y0 y1 y2 HLA2
        have hb3d : Below w1.heap.size w1 w3.drew := hb3.drew
        obtain ⟨⟨y0, y1, y2⟩, L3, r3, hb03⟩ := KQ.out w3 hb3
        obtain ⟨cs, hown, hce⟩ := L3.row
        have hne := L3.ne
        have hbl3 := L3.lt.1
        have HB := Lib.hid L3.blk
        obtain ⟨A3, ca3, hv3, hca3, _⟩ := L3.vers
        have ho3 := HO.out w3.drew hb3d
        unfold GaveVer at ho3
        have HO3 := Lib.hid ho3
        clear ho3
        have HOWN : Hid (∀ W, Below w3.heap.size w3 W → W.ownsRow B 41 2 v vs.length cs ∧ W.heap[b]? = some (.cells #[v] 61 (0, 0))) := fun W hW => ⟨own_below hown hW, (hW.block b hbl3).trans HB.out⟩
        have HFIN : Hid (∀ (w5 w9 : World) (A5 : Option Addr) (c5 : Nat) (v9 : Value), Below w3.heap.size w3 w5 → h.2.length ≤ c5 → Row (fun g => w3.heap.size ≤ g) w5 A5 (i32s h.2) → w9.ownsRow B 41 2 v9 (vs.length + 1) (cs ++ [.int .u64 h.1, .slice A5 h.2.length c5]) →
            (w5.alloc (.cells #[.int .u64 h.1, .slice A5 h.2.length c5] 41)).grownBy w9 v.ownBlock → (v9.ownBlock = v.ownBlock ∨ v9.ownBlock = some (w5.alloc (.cells #[.int .u64 h.1, .slice A5 h.2.length c5] 41)).heap.size) → PutGave K w B b v vs h (.returned (.int .i64 0)) (w9.setCell ⟨b, 0, none⟩ v9)) := fun w5 w9 A5 c5 v9 hb5 hc5 hr5 ho9 hg9 ha9 =>
          put_fin HL.out hb03 hb5 (HKS.out w3 hb3) hc5 hr5 hce ho9 rfl hg9 ha9 HE.out
        have hvl : ∀ g, v.ownBlock = some g → g < w3.heap.size := fun g e => (L3.low e).2
        have HVL := Lib.hid hvl
        have hn9 : vs.length ≤ 900 := hn
        have hB3 : B ≤ w3.heap.size := L3.lt.2
        clear hown hce L3 r3 hb03 HO HKS HNO HL KQ HW1 HB hvl hca3 hn HE
        obtain ⟨ln, hln⟩ : ∃ x, x = vs.length := ⟨_, rfl⟩
        rw [← hln] at hv3 HOWN HFIN hn9
        clear hln
        subst hv3
        generalize h.1 = hi1 at *
        generalize h.2.length = hl1 at *
        go_wp2_with fail
        go_region_law
          (first
            | (go_simp; go_at_call 28; refine (HO3.out).mono ?_; rintro e w5 ⟨A5, c5, rfl, hc5, r5, f5, hb5'⟩; have hb5 : Below w3.heap.size w3 w5 := ⟨hb5'.os, hb5'.tape, hb5'.output, hb5'.size, hb5'.block⟩; have hba : Below w3.heap.size w3 (w5.alloc (.cells #[.int .u64 hi1, .slice A5 hl1 c5] 41)) := hb5.alloc hb5.size _; have s0 := one_cell (HOWN.out _ hb5).2; have t0 := one_cell (HOWN.out _ hba).2)
            | (refine step_append_vers 51 41 Try.underlying51 Try.info41 (by rfl) (.tmp 37) (.tmp 40) (by rfl) B _ ln cs (by rfl) (HOWN.out _ hba).1 (some ⟨w5.heap.size, 0, none⟩) 1 1 [.int .u64 hi1, .slice A5 hl1 c5] (by rfl) (by rfl) (fun j u hj => ⟨_, rfl, World.news_of_block (cs := #[.int .u64 hi1, .slice A5 hl1 c5]) (t := 41) (fr := (0, 0)) (heap_alloc_new w5 _) j u hj⟩) (by simp [Value.oneCell']) (by omega) (Nat.le_trans hB3 hba.size) ?_; intro A9 c9 w9 ho9 hg9 ha9; have hblk9 := (hg9.block b (Nat.lt_of_lt_of_le hbl3 hba.size) (fun e => hne e.symm)).trans (HOWN.out _ hba).2; have u0 := one_cell hblk9; have hf9 : w9.frozen? ⟨b, 0, none⟩ = false := one_free hblk9)
            | fail)
        all_goals
          have HG9 := Lib.hid (HFIN.out w5 w9 A5 c5 _ hb5 hc5 r5 ho9 hg9 ha9)
          clear ho9 hg9 ha9 r5 f5
          go_wp2_with fail
          go_ret
          exact HG9.out

end Go.Proofs.Ytphcakhhjjdpiaa
