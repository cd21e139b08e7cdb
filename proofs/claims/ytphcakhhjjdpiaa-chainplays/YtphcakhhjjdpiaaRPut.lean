/-
  The contract of ref07's Put.
-/
import Derived.Test.YtphcakhhjjdpiaaSwMath
namespace Go.Proofs.Ytphcakhhjjdpiaa
open Go.RowKit

/-- append of versions onto an empty own row, in a region -/
theorem step_append_first {ops : Array Oper} {o : Oper} {a : Act} {w : World} {K : Act → World → Prop} {Q : Exit → Act → World → Prop} {E : Prop} (hgd : o.guard = none) (s x : Operand)
    (ho : o.op = .call { callee := .builtin .append, args := #[s, x], argTypes := #[28, 28] }) (base : Nat) (v : Value) (hs : a.eval s = v) (hown : w.ownsRow base 44 2 v 0 [])
    (A : Option Addr) (m c : Nat) (news : List Value) (hx : a.eval x = .slice A m c) (hl : news.length = m * 2) (hnews : ∀ j u, news[j]? = some u → ∃ ad, A = some ad ∧ w.cell? (ad.add j) = some u) (h1 : ∀ u ∈ news, u.oneCell' = true)
    (h63 : m ≤ 3000000) (hbase : base ≤ w.heap.size)
    (h : ∀ A' c' w', w'.ownsRow base 44 2 (.slice A' m c') m news → w.grownBy w' v.ownBlock → ((Value.slice A' m c').ownBlock = v.ownBlock ∨ (Value.slice A' m c').ownBlock = some w.heap.size) → K (a.put o.dst (.slice A' m c')) w') :
    if Region.wanted o (yielded ops a.tmps) = true then Oper.wp Try.prog o a w K Q else E := by
  refine step_append_vers 28 44 Try.underlying28 Try.info44 hgd s x ho base v 0 [] hs hown A m c news hx hl hnews h1 (by omega) hbase (fun A' c' w' k1 k2 k3 => ?_)
  rw [Nat.zero_add] at k1 k3 ⊢
  exact h A' c' w' k1 k2 k3

theorem big_iff {vs : List Ver} (hg : GoodC vs) {s : Int} (hs : 1 ≤ s) : s ≤ lastS vs ↔ ∃ x ∈ vs, s ≤ x.1 := by
  constructor
  · intro h
    cases hv : vs.getLast? with
    | none =>
      unfold lastS at h
      rw [List.getLastD_eq_getLast?, hv] at h
      have h' : s ≤ 0 := h
      omega
    | some y =>
      unfold lastS at h
      rw [List.getLastD_eq_getLast?, hv] at h
      exact ⟨y, List.mem_of_getLast? hv, h⟩
  · rintro ⟨x, hx, h⟩
    have := GoodC.lastS_le hg.rise x hx
    omega

/-- a vector is kept where an own row has grown -/
theorem row_grown {S : Nat → Prop} {w5 wz w8 : World} {A : Option Addr} {xs : List Value} {r : Option Nat} {v : Value} {m : Nat} (hr : Row S w5 A xs) (hbz : Below w5.heap.size w5 wz) (hg : wz.grownBy w8 r) (hS : ∀ g, g < w5.heap.size → S g → some g ≠ r) (ha : v.ownBlock = r ∨ v.ownBlock = some m) (hm : w5.heap.size ≤ m) :
    Row (fun g => S g ∧ some g ≠ v.ownBlock) w8 A xs := by
  have h1 : Row (fun g => S g ∧ g < w5.heap.size) w5 A xs := hr.mono fun g hg s => ⟨s, hg⟩
  refine (h1.kept (Nat.le_trans hbz.size hg.size) fun g hg' s => ?_).mono fun g _ s => ⟨s.1, ?_⟩
  · rw [hg.block g (Nat.lt_of_lt_of_le hg' hbz.size) (hS g hg' s.1), hbz.block g hg']
  · rcases ha with e | e
    · rw [e]; exact hS g s.2 s.1
    · rw [e]; intro e'; injection e' with e'; have := s.2; omega

/-- What ref07's Put answers. -/
def RPutGave (K : Nat → Prop) (w : World) (A : Option Addr) (c : Nat) (vs : List Ver) (h : Ver) (e : Ending) (w' : World) : Prop :=
  Below w.heap.size w w' ∧ ((putE vs h ≠ 0 ∧ e = .returned (.tuple #[.slice A vs.length c, .int .i64 (putE vs h)])) ∨
    (putE vs h = 0 ∧ ∃ A' c', e = .returned (.tuple #[.slice A' (vs.length + 1) c', .int .i64 0]) ∧ VersAt (fun g => w.heap.size ≤ g) (fun g => w.heap.size ≤ g ∨ (g < w.heap.size ∧ K g)) w' A' (vs ++ [h])))
theorem rput_no {K : Nat → Prop} {w w' : World} {A : Option Addr} {c : Nat} {vs : List Ver} {h : Ver} {k : Int} (hb : Below w.heap.size w w') (hk : putE vs h = k) (h0 : k ≠ 0) : RPutGave K w A c vs h (.returned (.tuple #[.slice A vs.length c, .int .i64 k])) w' := by
  subst hk
  exact ⟨hb, .inl ⟨h0, rfl⟩⟩

set_option maxRecDepth 100000 in
set_option maxHeartbeats 2000000 in
theorem rput_any (S K S2 : Nat → Prop) (A : Option Addr) (c : Nat) (vs : List Ver) (h : Ver) (X : Option Addr) (cx : Nat) (w : World) (hat : VersAt S K w A vs) (hg : GoodC vs) (hn : vs.length ≤ 900) (hr : Row S2 w X (i32s h.2)) (hxc : h.2.length ≤ cx) (hl : h.2.length ≤ 100) :
    Calls Try.prog 15 #[.slice A vs.length c, .agg #[.int .u64 h.1, .slice X h.2.length cx]] w fun e w' => RPutGave K w A c vs h e w' := by
  obtain ⟨w1, hw1⟩ : ∃ x, x = w.alloc (.cells #[.int .u64 h.1, .slice X h.2.length cx] 44) := ⟨_, rfl⟩
  have hb1 : Below w.heap.size w w1 := by rw [hw1]; exact (Below.refl _ _).alloc (Nat.le_refl _) _
  have hq1 : w1.heap[w.heap.size]? = some (.cells #[.int .u64 h.1, .slice X h.2.length cx] 44 (0, 0)) := by rw [hw1]; exact heap_alloc_new w _
  have hsz1 : w.heap.size < w1.heap.size := lt_of_block hq1
  have KQ : Hid (∀ W, Below w1.heap.size w1 W → (W.cell? ⟨w.heap.size, 0, none⟩ = some (.int .u64 h.1) ∧ W.cell? ⟨w.heap.size, 1, none⟩ = some (.slice X h.2.length cx)) ∧ Row S2 W X (i32s h.2) ∧ Below w.heap.size w W) := fun W hW => by
    have hbW := hb1.trans (hW.mono hb1.size)
    have hq := (hW.block _ hsz1).trans hq1
    exact ⟨⟨two_cell0 hq, two_cell1 hq⟩, hr.below hbW, hbW⟩
  obtain ⟨⟨x0, x1⟩, r1, _⟩ := KQ.out w1 (Below.refl _ _)
  have HW1 := Lib.hid hw1
  have HNO : Hid (∀ W k, Below w1.heap.size w1 W → putE vs h = k → k ≠ 0 → RPutGave K w A c vs h (.returned (.tuple #[.slice A vs.length c, .int .i64 k])) W) := fun W k hW hk h0 => rput_no (hb1.trans (hW.mono hb1.size)) hk h0
  have HB1 := Lib.hid hb1
  have HAT := Lib.hid hat
  clear hw1 hr hb1 hq1 hat
  by_cases g1 : h.1 < 1
  · have HE := Lib.hid (HNO.out w1 1 (Below.refl _ _) (putE_1 (.inl g1)) (by decide))
    clear HNO r1
    go_enter Try.func15, Try.ntmps15
    go_wp2_with fail
    rw [← HW1.out]
    go_wp2_with fail
    go_ret2
    exact HE.out
  by_cases g2 : 1099511627776 < h.1
  · have HE := Lib.hid (HNO.out w1 1 (Below.refl _ _) (putE_1 (.inr g2)) (by decide))
    clear HNO r1
    go_enter Try.func15, Try.ntmps15
    go_wp2_with fail
    rw [← HW1.out]
    go_wp2_with fail
    go_ret2
    exact HE.out
  have HR := Lib.hid (refRight_any S2 X cx h.2 w1 r1 (by omega))
  have HH : Hid (goneB h.2 = false → rightB h.2 = false → putE vs h = 4) := fun a b => putE_4 g1 g2 a b
  have HH7 : Hid (goneB h.2 = true ∨ rightB h.2 = true → (∃ x ∈ vs, h.1 ≤ x.1) → putE vs h = 7) := fun a b => putE_7 g1 g2 a ((big_iff hg (by omega)).2 b)
  have HH0 : Hid (goneB h.2 = true ∨ rightB h.2 = true → (¬ ∃ x ∈ vs, h.1 ≤ x.1) → putE vs h = 0) := fun a b => putE_0 g1 g2 a (fun e => b ((big_iff hg (by omega)).1 e))
  have hlen0 : decide ((0 : Int) < (h.2.length : Int)) = !goneB h.2 := by
    unfold goneB
    by_cases e : h.2.length = 0 <;> simp [e]; omega
  obtain ⟨rb, hrb⟩ : ∃ x, x = rightB h.2 := ⟨_, rfl⟩
  rw [← hrb] at HR HH HH7 HH0
  clear hrb r1
  go_enter Try.func15, Try.ntmps15
  go_upto_region 1 with fail
  rw [← HW1.out]
  go_upto_region 3 with fail
  go_cut [26] (fun x wx => wx = w1 ∧ x = .bool (!goneB h.2 && !rb))
  case first =>
    cases hgb : goneB h.2 with
    | true =>
      rw [hgb] at hlen0
      have hz : ¬ (0 : Int) < (h.2.length : Int) := by simpa using hlen0
      have HGB := Lib.hid hgb
      clear hgb
      go_wp2_with fail
      go_meet
      exact ⟨rfl, by rw [HGB.out]; rfl⟩
    | false =>
      rw [hgb] at hlen0
      have hz : (0 : Int) < (h.2.length : Int) := by simpa using hlen0
      have HGB := Lib.hid hgb
      clear hgb
      go_wp2_with fail
      refine (HR.out).mono ?_
      rintro e w3 ⟨rfl, rfl⟩
      cases rb <;> (go_wp2_with fail; go_meet; exact ⟨rfl, by rw [HGB.out]; rfl⟩)
  case rest =>
    obtain ⟨hwc, rfl⟩ := hcut
    rw [hwc]
    clear hwc
    have HOR : Hid ((!goneB h.2 && !rb) = false → goneB h.2 = true ∨ rb = true) := by show _ → _; cases goneB h.2 <;> cases rb <;> simp
    have HAND : Hid ((!goneB h.2 && !rb) = true → goneB h.2 = false ∧ rb = false) := by show _ → _; cases goneB h.2 <;> cases rb <;> simp
    generalize (!goneB h.2 && !rb) = bb at *
    clear hlen0 HR
    cases bb with
    | true =>
      have HE := Lib.hid (HNO.out w1 4 (Below.refl _ _) (HH.out (HAND.out rfl).1 (HAND.out rfl).2) (by decide))
      clear HOR HAND
      go_wp2_with fail
      go_ret2
      exact HE.out
    | false =>
      have H7 := Lib.hid (HH7.out (HOR.out rfl))
      have H0 := Lib.hid (HH0.out (HOR.out rfl))
      clear HOR HAND HH HH7 HH0 x0 x1
      go_wp2_with fail
      go_loopw [7, 30] (fun _ i wr => ∃ k : Nat, k ≤ vs.length ∧ i = .int .i64 k ∧ (∀ j (hj : j < vs.length), j < k → ¬ h.1 ≤ vs[j].1) ∧ Below w1.heap.size w1 wr) (fun _ i _ => vs.length - (intOf i).toNat)
      case atStart => exact ⟨0, Nat.zero_le _, rfl, fun j _ hj => by omega, Below.refl _ _⟩
      case round =>
        obtain ⟨k, hk, rfl, hno, hbr⟩ := hrel
        have HNOT := Lib.hid hno
        by_cases hlt : k < vs.length
        · obtain ⟨ad, rfl, j1, j2, a0, Y, cy, a1, j3, j4⟩ := ((HAT.out.below HB1.out).below hbr) k hlt
          clear j1 j2 j3 j4
          have i1 : (k : Int) < (vs.length : Int) := by omega
          obtain ⟨⟨y0, y1⟩, _, _⟩ := KQ.out wr hbr
          have HBN : Hid (Below w1.heap.size w1 (wr.alloc (.cells #[.int .u64 vs[k].1, .slice Y vs[k].2.length cy] 44))) := hbr.alloc hbr.size _
          obtain ⟨⟨y0', y1'⟩, _, _⟩ := KQ.out _ HBN.out
          by_cases hge : h.1 ≤ vs[k].1
          · have HE := Lib.hid (HNO.out _ 7 HBN.out (H7.out ⟨vs[k], List.getElem_mem hlt, hge⟩) (by decide))
            clear hno hbr HNO
            generalize vs[k].1 = xi at *
            generalize vs[k].2.length = xl at *
            go_wp2_with fail
            go_ret2
            exact HE.out
          · have HN2 : Hid (∀ j (hj : j < vs.length), j < k + 1 → ¬ h.1 ≤ vs[j].1) := fun j hj hjk => by
              by_cases e : j = k
              · subst e; exact hge
              · exact hno j hj (by omega)
            clear hno hbr
            generalize vs[k].1 = xi at *
            generalize vs[k].2.length = xl at *
            go_wp2_with fail
            go_roundw
            case rel => exact ⟨k + 1, by omega, by go_num, HN2.out, HBN.out⟩
            case measure => simp [intOf]; omega
        · have i1 : ¬ (k : Int) < (vs.length : Int) := by omega
          have HE0 : Hid (putE vs h = 0) := H0.out (by
            rintro ⟨x, hx, hle⟩
            obtain ⟨j, hj, rfl⟩ := List.getElem_of_mem hx
            exact hno j hj (by omega) hle)
          obtain ⟨W0, rfl⟩ : ∃ x, x = wr := ⟨wr, rfl⟩
          have hb0 : Below w.heap.size w W0 := HB1.out.trans (hbr.mono HB1.out.size)
          obtain ⟨cs, hce, hrow⟩ := (HAT.out.below hb0).mono (fun _ _ s => s) (fun g _ s => s) |>.cells
          have HNEWS : Hid (∀ W, Below W0.heap.size W0 W → ∀ j u, cs[j]? = some u → ∃ ad, A = some ad ∧ W.cell? (ad.add j) = some u) := fun W hW j u hj => by
            obtain ⟨ad, e, _, _, hcj⟩ := (hrow.below hW) j (List.getElem?_eq_some_iff.1 hj).1
            exact ⟨ad, e, hcj.trans hj⟩
          have HLEN := Lib.hid hce.1
          have HONE := Lib.hid hce.oneCell
          have HCL : Hid (∀ W, Below W0.heap.size W0 W → W.cell? ⟨w.heap.size, 0, none⟩ = some (.int .u64 h.1) ∧ W.cell? ⟨w.heap.size, 1, none⟩ = some (.slice X h.2.length cx)) := fun W hW => (KQ.out W (hbr.trans (hW.mono hbr.size))).1
          have HCUT : Hid (∀ W, Below W0.heap.size W0 W → Calls Try.prog 13 #[.slice X h.2.length cx, .int .i64 100] W fun e w' => ∃ A5 c5, e = .returned (.slice A5 h.2.length c5) ∧ h.2.length ≤ c5 ∧ Row (fun g => W.heap.size ≤ g) w' A5 (i32s h.2) ∧ Below W.heap.size W w') := fun W hW => by
            have h1 := (KQ.out W (hbr.trans (hW.mono hbr.size))).2.1
            refine (cutVecF_any S2 X cx 100 h.2 W h1 hxc (by omega) (by decide)).mono ?_
            rintro e w' ⟨A5, c5, e1, e2, e3, _, e5⟩
            rw [List.take_of_length_le hl] at e1 e2 e3
            rw [i32s_len] at e1 e2
            exact ⟨A5, c5, e1, e2, e3, e5⟩
          have HFIN : Hid (∀ (w5 w9 : World) (A5 A9 : Option Addr) (c5 c9 : Nat), Below W0.heap.size W0 w9 → h.2.length ≤ c5 → Row (fun g => W0.heap.size ≤ g) w9 A5 (i32s h.2) → w9.ownsRow W0.heap.size 44 2 (.slice A9 (vs.length + 1) c9) (vs.length + 1) (cs ++ [.int .u64 h.1, .slice A5 h.2.length c5]) → RPutGave K w A c vs h (.returned (.tuple #[.slice A9 (vs.length + 1) c9, .int .i64 0])) w9) := fun w5 w9 A5 A9 c5 c9 hb9 hc5 hr9 ho9 => by
            have hsz : w.heap.size ≤ W0.heap.size := hb0.size
            have hK0 : Cells2 (fun g => w.heap.size ≤ g ∨ (g < w.heap.size ∧ K g)) W0 cs vs := hce.mono fun g _ s => by
              rcases Nat.lt_or_ge g w.heap.size with h1 | h1
              · exact .inr ⟨h1, s⟩
              · exact .inl h1
            have hcc : Cells2 (fun g => w.heap.size ≤ g ∨ (g < w.heap.size ∧ K g)) w9 (cs ++ [.int .u64 h.1, .slice A5 h.2.length c5]) (vs ++ [h]) :=
              (hK0.kept hb9.size fun g hg s => ⟨hb9.block g hg, s⟩).append (Cells2.one h A5 c5 hc5 (hr9.mono fun g _ s => .inl (Nat.le_trans hsz s)))
            obtain ⟨A', c', e, _, hv⟩ := Cells2.versAt (T := fun g => w.heap.size ≤ g) (K := fun g => w.heap.size ≤ g ∨ (g < w.heap.size ∧ K g)) ho9 hcc (by simp) (fun _ _ s => s) (fun g s _ => Nat.le_trans hsz s)
            injection e with e1 _ e3
            subst e1 e3
            exact ⟨hb0.trans (hb9.mono hb0.size), .inr ⟨HE0.out, A9, c9, rfl, hv⟩⟩
          have hn3 : vs.length ≤ 900 := hn
          clear hno hbr hce hrow hb0 HNO H7 H0 KQ HAT HB1 HNOT hg hn
          generalize h.1 = hi1 at *
          generalize h.2.length = hl1 at *
          generalize i32s h.2 = hcells at *
          have hbd : Below W0.heap.size W0 W0.drew := (Below.refl _ _).drew
          have hba : Below W0.heap.size W0 (W0.drew.alloc (.cells #[] 44)) := hbd.alloc hbd.size _
          have HOa : Hid ((W0.drew.alloc (.cells #[] 44)).ownsRow W0.heap.size 44 2 (.slice (some ⟨W0.heap.size, 0, none⟩) 0 0) 0 []) := World.ownsRow_lit W0.drew #[] 0 (Nat.le_refl _) (by decide) rfl
          have HOlit : Hid (∀ W, Below W0.heap.size W0 W → (W.alloc (.cells #[] 44)).ownsRow W0.heap.size 44 2 (.slice (some ⟨W.heap.size, 0, none⟩) 0 0) 0 []) := fun W hW => World.ownsRow_lit W #[] 0 hW.size (by decide) rfl
          have HOlit2 : Hid (∀ W, Below W0.heap.size W0 W → ∀ o, ((W.alloc o).alloc (.cells #[] 44)).ownsRow W0.heap.size 44 2 (.slice (some ⟨W.heap.size + 1, 0, none⟩) 0 0) 0 []) := fun W hW o => by
            have := World.ownsRow_lit (base := W0.heap.size) (e := 44) (size := 2) (W.alloc o) #[] 0 (by have := hW.size; simp; omega) (by decide) rfl
            have hz : (W.alloc o).heap.size = W.heap.size + 1 := by simp
            rw [hz] at this
            exact this
          have HNEW1 : Hid (∀ (W : World) (o o' : Obj), ((W.alloc o).alloc o').heap[W.heap.size + 1]? = some o') := fun W o o' => by
            have := heap_alloc_new (W.alloc o) o'
            simpa using this
          have HNEW0 : Hid (∀ (W : World) (o o' : Obj), ((W.alloc o).alloc o').heap[W.heap.size]? = some o) := fun W o o' => by
            rw [Below.heap_alloc _ _ _ (by simp)]
            exact heap_alloc_new W o
          go_wp2_with fail
          go_region_held3 (fun w' => w'.cell? ⟨w.heap.size, 0, none⟩ = some (.int .u64 hi1) ∧ w'.cell? ⟨w.heap.size, 1, none⟩ = some (.slice X hl1 cx)) (first | exact HCL.out _ hbd | exact HCL.out _ (hbd.alloc hbd.size _) | exact HCL.out _ hb5 | exact HCL.out _ (hb5.alloc hb5.size _) | exact HCL.out _ ((hb5.alloc hb5.size _).alloc (Below.size (hb5.alloc hb5.size _)) _) | exact HCL.out _ hb8 | exact HCL.out _ (hb8.alloc hb8.size _) | exact HCL.out _ hb9 | fail)
            (first
              | (go_at_call 13; refine (HCUT.out _ hbd).mono ?_; rintro e w5 ⟨A5, c5, rfl, hc5, r5, hb5'⟩; have hb5 : Below W0.heap.size W0 w5 := hbd.trans (hb5'.mono hbd.size); have hcd := HCL.out _ hb5; have hce5 := hcd)
              | (go_at_call 13; refine (HCUT.out _ hba).mono ?_; rintro e w5 ⟨A5, c5, rfl, hc5, r5, hb5'⟩; have hb5 : Below W0.heap.size W0 w5 := hba.trans (hb5'.mono hba.size); have HO5 := Lib.hid (own_below HOa.out hb5'); have HR5 := Lib.hid (r5.mono (fun g _ s => (⟨Nat.le_trans hba.size s, fun e => by have e' : some g = some W0.heap.size := e; injection e' with e'; have s' : (W0.drew.alloc (.cells #[] 44)).heap.size ≤ g := s; simp at s'; omega⟩ : W0.heap.size ≤ g ∧ some g ≠ (Value.slice (some ⟨W0.heap.size, 0, none⟩) 0 0).ownBlock))))
              | (go_at_call 13; refine (HCUT.out w8 hb8).mono ?_; rintro e w5 ⟨A5, c5, rfl, hc5, r5, hb5'⟩; have hb5 : Below W0.heap.size W0 w5 := hb8.trans (hb5'.mono hb8.size); have HO85 := Lib.hid (own_below ho8 hb5'); have HOB := Lib.hid (fun g (e : (Value.slice A8 vs.length c8).ownBlock = some g) => (own_lt ho8 e).2))
              | (refine step_append_first (by rfl) (.tmp 41) (.tmp 42) (by rfl) W0.heap.size _ (by rfl) HOa.out A vs.length c cs (by rfl) HLEN.out (HNEWS.out _ hba) HONE.out (by omega) (Below.size hba) ?_; intro A8 c8 w8 ho8 hg8 ha8; have hb8 : Below W0.heap.size W0 w8 := Below.grown hba hg8 (Below.size hba) (fun g e => (own_lt HOa.out e).1))
              | (refine step_append_first (by rfl) (.tmp 41) (.tmp 42) (by rfl) W0.heap.size _ (by rfl) HO5.out A vs.length c cs (by rfl) HLEN.out (HNEWS.out _ hb5) HONE.out (by omega) (Below.size hb5) ?_; intro A8 c8 w8 ho8 hg8 ha8; have hb8 : Below W0.heap.size W0 w8 := Below.grown hb5 hg8 (Below.size hb5) (fun g e => (own_lt HO5.out e).1); have hr8 := row_grown (m := w5.heap.size) HR5.out (Below.refl _ _) hg8 (fun g _ s => s.2) ha8 (Nat.le_refl _); have hr8' := hr8.mono (fun g _ s => (⟨s.1.1, s.2⟩ : W0.heap.size ≤ g ∧ some g ≠ (Value.slice A8 vs.length c8).ownBlock)))
              | (refine step_append_first (by rfl) (.tmp 41) (.tmp 42) (by rfl) W0.heap.size _ (by rfl) (HO5.out.alloc (.cells #[.int .u64 hi1, .slice A5 hl1 c5] 44)) A vs.length c cs (by rfl) HLEN.out (HNEWS.out _ (hb5.alloc hb5.size _)) HONE.out (by omega) (Below.size (hb5.alloc hb5.size _)) ?_; intro A8 c8 w8 ho8 hg8 ha8; have hb8 : Below W0.heap.size W0 w8 := Below.grown (hb5.alloc hb5.size _) hg8 (Below.size (hb5.alloc hb5.size _)) (fun g e => (own_lt (HO5.out.alloc (.cells #[.int .u64 hi1, .slice A5 hl1 c5] 44)) e).1); have hr8 := row_grown (m := (w5.alloc (.cells #[.int .u64 hi1, .slice A5 hl1 c5] 44)).heap.size) HR5.out ((Below.refl _ w5).alloc (Nat.le_refl _) (.cells #[.int .u64 hi1, .slice A5 hl1 c5] 44)) hg8 (fun g _ s => s.2) ha8 (by simp); have hr8' := hr8.mono (fun g _ s => (⟨s.1.1, s.2⟩ : W0.heap.size ≤ g ∧ some g ≠ (Value.slice A8 vs.length c8).ownBlock)); have hs8 := (hg8.block w5.heap.size (by simp) (fun e => by have e' : some w5.heap.size = some W0.heap.size := e; injection e' with e'; have := hb5'.size; simp at this; omega)).trans (heap_alloc_new w5 (.cells #[.int .u64 hi1, .slice A5 hl1 c5] 44)))
              | (refine step_append_first (by rfl) (.tmp 41) (.tmp 42) (by rfl) W0.heap.size _ (by rfl) (HOlit.out w5 hb5) A vs.length c cs (by rfl) HLEN.out (HNEWS.out _ (hb5.alloc hb5.size _)) HONE.out (by omega) (Below.size (hb5.alloc hb5.size _)) ?_; intro A8 c8 w8 ho8 hg8 ha8; have hb8 : Below W0.heap.size W0 w8 := Below.grown (hb5.alloc hb5.size _) hg8 (Below.size (hb5.alloc hb5.size _)) (fun g e => (own_lt (HOlit.out w5 hb5) e).1); have hr8 := row_grown (m := (w5.alloc (.cells #[] 44)).heap.size) r5 ((Below.refl _ w5).alloc (Nat.le_refl _) (.cells #[] 44)) hg8 (fun g hg s e => by have e' : some g = some w5.heap.size := e; injection e' with e'; omega) ha8 (by simp); have hr8' := hr8.mono (fun g _ s => (⟨s.1, s.2⟩ : W0.heap.size ≤ g ∧ some g ≠ (Value.slice A8 vs.length c8).ownBlock)))
              | (refine step_append_first (by rfl) (.tmp 41) (.tmp 42) (by rfl) W0.heap.size _ (by rfl) ((HOlit.out w5 hb5).alloc (.cells #[.int .u64 hi1, .slice A5 hl1 c5] 44)) A vs.length c cs (by rfl) HLEN.out (HNEWS.out _ ((hb5.alloc hb5.size (.cells #[] 44)).alloc (Below.size (hb5.alloc hb5.size (.cells #[] 44))) (.cells #[.int .u64 hi1, .slice A5 hl1 c5] 44))) HONE.out (by omega) (Below.size ((hb5.alloc hb5.size (.cells #[] 44)).alloc (Below.size (hb5.alloc hb5.size (.cells #[] 44))) (.cells #[.int .u64 hi1, .slice A5 hl1 c5] 44))) ?_; intro A8 c8 w8 ho8 hg8 ha8; have hb8 : Below W0.heap.size W0 w8 := Below.grown ((hb5.alloc hb5.size (.cells #[] 44)).alloc (Below.size (hb5.alloc hb5.size (.cells #[] 44))) (.cells #[.int .u64 hi1, .slice A5 hl1 c5] 44)) hg8 (Below.size ((hb5.alloc hb5.size (.cells #[] 44)).alloc (Below.size (hb5.alloc hb5.size (.cells #[] 44))) (.cells #[.int .u64 hi1, .slice A5 hl1 c5] 44))) (fun g e => (own_lt ((HOlit.out w5 hb5).alloc (.cells #[.int .u64 hi1, .slice A5 hl1 c5] 44)) e).1); have hr8 := row_grown (m := ((w5.alloc (.cells #[] 44)).alloc (.cells #[.int .u64 hi1, .slice A5 hl1 c5] 44)).heap.size) r5 (((Below.refl _ w5).alloc (Nat.le_refl _) (.cells #[] 44)).alloc (by simp) (.cells #[.int .u64 hi1, .slice A5 hl1 c5] 44)) hg8 (fun g hg s e => by have e' : some g = some w5.heap.size := e; injection e' with e'; omega) ha8 (by simp; omega); have hr8' := hr8.mono (fun g _ s => (⟨s.1, s.2⟩ : W0.heap.size ≤ g ∧ some g ≠ (Value.slice A8 vs.length c8).ownBlock)); have hs8 := (hg8.block (w5.heap.size + 1) (by simp) (fun e => by have e' : some (w5.heap.size + 1) = some w5.heap.size := e; injection e' with e'; omega)).trans (HNEW1.out w5 (.cells #[] 44) (.cells #[.int .u64 hi1, .slice A5 hl1 c5] 44)))
              | (refine step_append_first (by rfl) (.tmp 41) (.tmp 42) (by rfl) W0.heap.size _ (by rfl) (HOlit2.out w5 hb5 (.cells #[.int .u64 hi1, .slice A5 hl1 c5] 44)) A vs.length c cs (by rfl) HLEN.out (HNEWS.out _ ((hb5.alloc hb5.size (.cells #[.int .u64 hi1, .slice A5 hl1 c5] 44)).alloc (Below.size (hb5.alloc hb5.size (.cells #[.int .u64 hi1, .slice A5 hl1 c5] 44))) (.cells #[] 44))) HONE.out (by omega) (Below.size ((hb5.alloc hb5.size (.cells #[.int .u64 hi1, .slice A5 hl1 c5] 44)).alloc (Below.size (hb5.alloc hb5.size (.cells #[.int .u64 hi1, .slice A5 hl1 c5] 44))) (.cells #[] 44))) ?_; intro A8 c8 w8 ho8 hg8 ha8; have hb8 : Below W0.heap.size W0 w8 := Below.grown ((hb5.alloc hb5.size (.cells #[.int .u64 hi1, .slice A5 hl1 c5] 44)).alloc (Below.size (hb5.alloc hb5.size (.cells #[.int .u64 hi1, .slice A5 hl1 c5] 44))) (.cells #[] 44)) hg8 (Below.size ((hb5.alloc hb5.size (.cells #[.int .u64 hi1, .slice A5 hl1 c5] 44)).alloc (Below.size (hb5.alloc hb5.size (.cells #[.int .u64 hi1, .slice A5 hl1 c5] 44))) (.cells #[] 44))) (fun g e => (own_lt (HOlit2.out w5 hb5 (.cells #[.int .u64 hi1, .slice A5 hl1 c5] 44)) e).1); have hr8 := row_grown (m := ((w5.alloc (.cells #[.int .u64 hi1, .slice A5 hl1 c5] 44)).alloc (.cells #[] 44)).heap.size) r5 (((Below.refl _ w5).alloc (Nat.le_refl _) (.cells #[.int .u64 hi1, .slice A5 hl1 c5] 44)).alloc (by simp) (.cells #[] 44)) hg8 (fun g hg s e => by have e' : some g = some (w5.heap.size + 1) := e; injection e' with e'; omega) ha8 (by simp; omega); have hr8' := hr8.mono (fun g _ s => (⟨s.1, s.2⟩ : W0.heap.size ≤ g ∧ some g ≠ (Value.slice A8 vs.length c8).ownBlock)); have hs8 := (hg8.block w5.heap.size (by simp; omega) (fun e => by have e' : some w5.heap.size = some (w5.heap.size + 1) := e; injection e' with e'; omega)).trans (HNEW0.out w5 (.cells #[.int .u64 hi1, .slice A5 hl1 c5] 44) (.cells #[] 44)))
              | (refine step_append_vers 28 44 Try.underlying28 Try.info44 (by rfl) (.tmp 43) (.tmp 50) (by rfl) W0.heap.size _ vs.length cs (by rfl) (HO85.out.alloc (.cells #[.int .u64 hi1, .slice A5 hl1 c5] 44)) (some ⟨w5.heap.size, 0, none⟩) 1 1 [.int .u64 hi1, .slice A5 hl1 c5] (by rfl) (by rfl) (fun j u hj => ⟨_, rfl, World.news_of_block (cs := #[.int .u64 hi1, .slice A5 hl1 c5]) (t := 44) (fr := (0, 0)) (heap_alloc_new w5 (.cells #[.int .u64 hi1, .slice A5 hl1 c5] 44)) j u hj⟩) (by simp [Value.oneCell']) (by omega) (Below.size (hb5.alloc hb5.size (.cells #[.int .u64 hi1, .slice A5 hl1 c5] 44))) ?_; intro A9 c9 w9 ho9 hg9 ha9; have hb9 : Below W0.heap.size W0 w9 := Below.grown (hb5.alloc hb5.size (.cells #[.int .u64 hi1, .slice A5 hl1 c5] 44)) hg9 (Below.size (hb5.alloc hb5.size (.cells #[.int .u64 hi1, .slice A5 hl1 c5] 44))) (fun g e => (own_lt (HO85.out.alloc (.cells #[.int .u64 hi1, .slice A5 hl1 c5] 44)) e).1); have hr9' := row_grown (m := (w5.alloc (.cells #[.int .u64 hi1, .slice A5 hl1 c5] 44)).heap.size) r5 ((Below.refl _ w5).alloc (Nat.le_refl _) (.cells #[.int .u64 hi1, .slice A5 hl1 c5] 44)) hg9 (fun g _ s e => by have := HOB.out g e.symm; omega) ha9 (by simp); have hr9 := hr9'.mono (fun g _ s => (Nat.le_trans hb8.size s.1 : W0.heap.size ≤ g)))
              | (refine step_append_vers 28 44 Try.underlying28 Try.info44 (by rfl) (.tmp 43) (.tmp 50) (by rfl) W0.heap.size _ vs.length cs (by rfl) (ho8.alloc (.cells #[.int .u64 hi1, .slice A5 hl1 c5] 44)) (some ⟨w8.heap.size, 0, none⟩) 1 1 [.int .u64 hi1, .slice A5 hl1 c5] (by rfl) (by rfl) (fun j u hj => ⟨_, rfl, World.news_of_block (cs := #[.int .u64 hi1, .slice A5 hl1 c5]) (t := 44) (fr := (0, 0)) (heap_alloc_new w8 (.cells #[.int .u64 hi1, .slice A5 hl1 c5] 44)) j u hj⟩) (by simp [Value.oneCell']) (by omega) (Below.size (hb8.alloc hb8.size (.cells #[.int .u64 hi1, .slice A5 hl1 c5] 44))) ?_; intro A9 c9 w9 ho9 hg9 ha9; have hb9 : Below W0.heap.size W0 w9 := Below.grown (hb8.alloc hb8.size (.cells #[.int .u64 hi1, .slice A5 hl1 c5] 44)) hg9 (Below.size (hb8.alloc hb8.size (.cells #[.int .u64 hi1, .slice A5 hl1 c5] 44))) (fun g e => (own_lt (ho8.alloc (.cells #[.int .u64 hi1, .slice A5 hl1 c5] 44)) e).1); have hr9' := row_grown (m := (w8.alloc (.cells #[.int .u64 hi1, .slice A5 hl1 c5] 44)).heap.size) hr8' ((Below.refl _ w8).alloc (Nat.le_refl _) (.cells #[.int .u64 hi1, .slice A5 hl1 c5] 44)) hg9 (fun g _ s => s.2) ha9 (by simp); have hr9 := hr9'.mono (fun g _ s => (s.1.1 : W0.heap.size ≤ g)))
              | (refine step_append_vers 28 44 Try.underlying28 Try.info44 (by rfl) (.tmp 43) (.tmp 50) (by rfl) W0.heap.size _ vs.length cs (by rfl) ho8 (some ⟨w5.heap.size, 0, none⟩) 1 1 [.int .u64 hi1, .slice A5 hl1 c5] (by rfl) (by rfl) (fun j u hj => ⟨_, rfl, World.news_of_block (cs := #[.int .u64 hi1, .slice A5 hl1 c5]) (t := 44) (fr := (0, 0)) hs8 j u hj⟩) (by simp [Value.oneCell']) (by omega) (Below.size hb8) ?_; intro A9 c9 w9 ho9 hg9 ha9; have hb9 : Below W0.heap.size W0 w9 := Below.grown hb8 hg9 (Below.size hb8) (fun g e => (own_lt ho8 e).1); have hr9' := row_grown (m := w8.heap.size) hr8' (Below.refl _ w8) hg9 (fun g _ s => s.2) ha9 (Nat.le_refl _); have hr9 := hr9'.mono (fun g _ s => (s.1.1 : W0.heap.size ≤ g)))
              | (refine step_append_vers 28 44 Try.underlying28 Try.info44 (by rfl) (.tmp 43) (.tmp 50) (by rfl) W0.heap.size _ vs.length cs (by rfl) ho8 (some ⟨w5.heap.size + 1, 0, none⟩) 1 1 [.int .u64 hi1, .slice A5 hl1 c5] (by rfl) (by rfl) (fun j u hj => ⟨_, rfl, World.news_of_block (cs := #[.int .u64 hi1, .slice A5 hl1 c5]) (t := 44) (fr := (0, 0)) hs8 j u hj⟩) (by simp [Value.oneCell']) (by omega) (Below.size hb8) ?_; intro A9 c9 w9 ho9 hg9 ha9; have hb9 : Below W0.heap.size W0 w9 := Below.grown hb8 hg9 (Below.size hb8) (fun g e => (own_lt ho8 e).1); have hr9' := row_grown (m := w8.heap.size) hr8' (Below.refl _ w8) hg9 (fun g _ s => s.2) ha9 (Nat.le_refl _); have hr9 := hr9'.mono (fun g _ s => (s.1.1 : W0.heap.size ≤ g)))
              | fail)
          all_goals
            have HG9 := Lib.hid (HFIN.out w5 w9 A5 A9 c5 c9 hb9 hc5 hr9 ho9)
            clear ho9 hg9 ha9 hr9 hb9 ho8 hg8 ha8
            go_wp2_with fail
            go_ret2
            exact HG9.out

end Go.Proofs.Ytphcakhhjjdpiaa
