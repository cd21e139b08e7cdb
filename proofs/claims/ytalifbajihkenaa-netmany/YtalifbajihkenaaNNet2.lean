/-
  A net: why a letter can't come, Open, Split, Heal, New.
-/
import Derived.Test.YtalifbajihkenaaNNet
namespace Go.Proofs.Ytalifbajihkenaa
open Go.RowKit Go.Maps
set_option linter.unusedSimpArgs false
set_option linter.unusedVariables false

/-- are a letter's nodes split? -/
def splitB (sp : Int → Int → Bool) (l : L3) : Bool := sp (min l.1 l.2.1) (max l.1 l.2.1)
theorem apart_iff {nodes x y : Int} : apartB nodes x y = true ↔ (0 ≤ x ∧ x < nodes) ∧ (0 ≤ y ∧ y < nodes) ∧ x ≠ y := by
  simp [apartB, thereB, and_assoc]

section
variable {w w' : World} {B b mb n : Nat} {nodes x y i : Int} {v : Value} {ls : List L3} {sp : Int → Int → Bool}

theorem Nt.pair (h : Nt w B b mb n nodes v ls sp) {j : Nat} (hj : j < ls.length) : I64 (min (ls[j]'hj).1 (ls[j]'hj).2.1) ∧ I64 (max (ls[j]'hj).1 (ls[j]'hj).2.1) := by
  have h1 := apart_iff.1 (h.ok.2 _ (List.getElem_mem hj))
  have h2 := h.ok.1
  unfold I64
  omega

set_option maxRecDepth 100000 in
set_option maxHeartbeats 1000000 in
theorem comes_out (h : Nt w B b mb n nodes v ls sp) (hi : fliesB i ls.length = false) : Calls Try.prog 29 #[.pointer (some ⟨b, 0, none⟩), .int .i64 i] w fun e w' => e = .returned (.int .i64 1) ∧ w' = w := by
  have hf := flies_any h i
  rw [hi] at hf
  have HF := Lib.hid hf
  clear h hf hi
  go_enter Try.func29, Try.ntmps29
  go_wp2_with fail
  refine (HF.out).mono ?_
  rintro e w' ⟨rfl, rfl⟩
  go_wp2_with fail
  go_ret
  exact ⟨rfl, rfl⟩

set_option maxRecDepth 100000 in
set_option maxHeartbeats 4000000 in
theorem comes_in (h : Nt w B b mb n nodes v ls sp) {j : Nat} (hj : j < ls.length) : Calls Try.prog 29 #[.pointer (some ⟨b, 0, none⟩), .int .i64 j] w fun e w' => e = .returned (.int .i64 (if splitB sp (ls[j]'hj) then 10 else 0)) ∧ Below w.heap.size w w' := by
  have hf := flies_any h j
  rw [show fliesB (j : Int) ls.length = true by simp [fliesB, hj]] at hf
  have HF := Lib.hid hf
  obtain ⟨A, c, rfl, hc, _, hL⟩ := h.form
  obtain ⟨ad, rfl, hlt, q0, q1, q9⟩ := hL j hj
  clear q9
  obtain ⟨p1, p2⟩ := h.pair hj
  have hlx := lt_of_block h.blk
  have had : (ad.add (j * 3)).block < w.heap.size := by rw [block_add]; exact hlt
  have HC : Hid (∀ W, Below w.heap.size w W → (W.cell? ⟨b, 1, none⟩ = some (.slice (some ad) ls.length c) ∧ W.cell? ⟨b, 2, none⟩ = some (.map (some mb))) ∧ W.cell? (ad.add (j * 3)) = some (.int .i64 (ls[j]'hj).1) ∧ W.cell? ⟨(ad.add (j * 3)).block, (ad.add (j * 3)).off + 1, none⟩ = some (.int .i64 (ls[j]'hj).2.1)) := fun W hW =>
    ⟨(h.below hW).cells.2, (hW.cell (p := ad.add (j * 3)) had).trans q0, (hW.cell (p := ⟨(ad.add (j * 3)).block, (ad.add (j * 3)).off + 1, none⟩) had).trans q1⟩
  have HLK : Hid (∀ W, Below w.heap.size w W → (Instr.lookup 65 (.map (some mb)) (pairV (min (ls[j]'hj).1 (ls[j]'hj).2.1) (max (ls[j]'hj).1 (ls[j]'hj).2.1)) true).run Try.prog W = .ok (.tuple #[.agg #[], .bool (splitB sp (ls[j]'hj))]) W) := fun W hW => (h.below hW).map.look p1 p2
  have i1 : (j : Int) < (ls.length : Int) := by omega
  have i0 : (0 : Int) ≤ (j : Int) := by omega
  have hbd : Below w.heap.size w w.drew := (Below.refl _ _).drew
  obtain ⟨⟨k1, k2⟩, k3, k4⟩ := HC.out _ hbd
  have hba : Below w.heap.size w (w.drew.alloc (.cells #[] 71)) := hbd.alloc hbd.size _
  generalize splitB sp (ls[j]'hj) = s at *
  generalize (ls[j]'hj).1 = z0 at *
  generalize (ls[j]'hj).2.1 = z1 at *
  clear h hf hL hj q0 q1
  go_enter Try.func29, Try.ntmps29
  go_wp2_with fail
  refine (HF.out).mono ?_
  rintro e w' ⟨rfl, hw⟩
  have hw := hw.symm
  subst hw
  go_wp2_with fail
  go_region_held3 (fun W => (W.cell? ⟨b, 1, none⟩ = some (.slice (some ad) ls.length c) ∧ W.cell? ⟨b, 2, none⟩ = some (.map (some mb))) ∧ W.cell? (ad.add (j * 3)) = some (.int .i64 z0) ∧ W.cell? ⟨(ad.add (j * 3)).block, (ad.add (j * 3)).off + 1, none⟩ = some (.int .i64 z1)) (first | exact ⟨⟨k1, k2⟩, k3, k4⟩ | exact HC.out _ hb5 | exact HC.out _ (hb5.alloc hb5.size _) | exact HC.out _ hba | fail)
    (first | (go_at_call 34; refine Calls.mono (pairOf_any _ _ _) ?_; rintro e w5 ⟨rfl, hb⟩; have hb5 : Below w.heap.size w w5 := hbd.trans (hb.mono hbd.size); have hlk5 := HLK.out _ hb5; have hlk6 := HLK.out _ (hb5.alloc hb5.size (.cells #[] 71))) | (go_at_call 34; refine Calls.mono (pairOf_any _ _ _) ?_; rintro e w5 ⟨rfl, hb⟩; have hb5 : Below w.heap.size w w5 := hba.trans (hb.mono hba.size); have hlk5 := HLK.out _ hb5) | fail)
  all_goals
    have HB5 := Lib.hid hb5
    have HB6 : Hid (∀ o, Below w.heap.size w (w5.alloc o)) := fun o => hb5.alloc hb5.size o
    clear hb5
    cases s
    all_goals
      go_wp2_with fail
      go_ret
      first
        | exact ⟨rfl, HB5.out⟩
        | exact ⟨rfl, HB6.out _⟩

/-- why the i-th can't come, or 0 -/
def comesE (sp : Int → Int → Bool) (ls : List L3) (i : Int) : Int := if h : 0 ≤ i ∧ i.toNat < ls.length then (if splitB sp (ls[i.toNat]'h.2) then 10 else 0) else 1
theorem comes_any (h : Nt w B b mb n nodes v ls sp) (i : Int) : Calls Try.prog 29 #[.pointer (some ⟨b, 0, none⟩), .int .i64 i] w fun e w' => e = .returned (.int .i64 (comesE sp ls i)) ∧ Below w.heap.size w w' := by
  unfold comesE
  by_cases hi : 0 ≤ i ∧ i.toNat < ls.length
  · rw [dif_pos hi]
    obtain ⟨j, rfl⟩ : ∃ j : Nat, i = j := ⟨i.toNat, by omega⟩
    exact comes_in h (j := j) (by simpa using hi.2)
  · rw [dif_neg hi]
    refine (comes_out h (i := i) ?_).mono fun e w' ⟨h1, h2⟩ => ⟨h1, by rw [h2]; exact Below.refl _ _⟩
    unfold fliesB
    simp only [Bool.and_eq_false_iff, decide_eq_false_iff_not]
    omega

set_option maxRecDepth 100000 in
set_option maxHeartbeats 1000000 in
theorem open_any (h : Nt w B b mb n nodes v ls sp) (i : Int) : Calls Try.prog 27 #[.pointer (some ⟨b, 0, none⟩), .int .i64 i] w fun e w' => e = .returned (.bool (comesE sp ls i == 0)) ∧ Below w.heap.size w w' := by
  have HC := Lib.hid (comes_any h i)
  obtain ⟨r, hr⟩ : ∃ r, r = comesE sp ls i := ⟨_, rfl⟩
  rw [← hr] at HC ⊢
  clear h hr
  go_enter Try.func27, Try.ntmps27
  go_wp2_with fail
  refine (HC.out).mono ?_
  rintro e w' ⟨rfl, hb⟩
  have HB := Lib.hid hb
  clear hb
  go_wp2_with fail
  go_ret
  exact ⟨rfl, HB.out⟩

theorem Nt.turn (h : Nt w B b mb n nodes v ls sp) {n' : Nat} {sp' : Int → Int → Bool} (hm : SpM w' mb n' sp') (hg : w.grownBy w' (some mb)) : Nt w' B b mb n' nodes v ls sp' ∧ Did B b mb v w w' := by
  have hbm : b ≠ mb := fun e => by
    obtain ⟨es, cl, h1⟩ := h.map.isMap
    have := h.blk
    rw [e, h1] at this
    cases this
  have hvm : v.ownBlock ≠ some mb := fun e => by
    obtain ⟨cur, hc⟩ := h.row mb e
    obtain ⟨es, cl, h1⟩ := h.map.isMap
    rw [h1] at hc
    cases hc
  refine ⟨⟨(hg.block b (lt_of_block h.blk) (by simpa using hbm)).trans h.blk, hm, ?_, fun g hv => ?_, h.low, h.ok⟩, (Below.refl B w).grown hg (by have := h.map.lt; have := h.low.2.1; omega) (fun j e => by cases e; exact h.low.2.1), fun g hgl hn => hg.block g hgl (fun e => by cases e; exact hn (.inr (.inl rfl)))⟩
  · obtain ⟨A, c, e, h1, h2, h3⟩ := h.form
    refine ⟨A, c, e, h1, h2, h3.kept hg.size (fun ad ea => ?_) fun g hgl hn => hg.block g hgl (fun e => by cases e; exact hn (.inr (.inl rfl)))⟩
    have hb : v.ownBlock = some ad.block := by rw [e, ea]; rfl
    obtain ⟨cur, hc⟩ := h.row _ hb
    exact hg.block _ (lt_of_block hc) (fun e' => hvm (by rw [hb, e']))
  · obtain ⟨cur, hc⟩ := h.row g hv
    exact ⟨cur, (hg.block g (lt_of_block hc) (fun e => hvm (by rw [hv, e]))).trans hc⟩
theorem Did.of_below {v : Value} (h : Below w.heap.size w w') (hB : B ≤ w.heap.size) : Did B b mb v w w' := ⟨h.mono hB, fun g hg _ => h.block g hg⟩
theorem Did.refl {v : Value} (w : World) : Did B b mb v w w := ⟨Below.refl _ _, fun _ _ _ => rfl⟩
theorem Did.trans {v : Value} {w1 w2 : World} (h : Did B b mb v w w1) (k : Did B b mb v w1 w2) : Did B b mb v w w2 := ⟨h.below.trans k.below, fun g hg hn => (k.same g (Nat.lt_of_lt_of_le hg h.below.size) hn).trans (h.same g hg hn)⟩

set_option maxRecDepth 100000 in
set_option maxHeartbeats 1000000 in
theorem heal_any (h : Nt w B b mb n nodes v ls sp) : Calls Try.prog 18 #[.pointer (some ⟨b, 0, none⟩)] w fun e w' => e = .returned (.tuple #[]) ∧ Nt w' B b mb n nodes v ls (fun _ _ => false) ∧ Did B b mb v w w' := by
  have c2 := h.cells.2.2
  obtain ⟨w2, hrun, hm, hg⟩ := h.map.clear 0
  have HT := Lib.hid (h.turn hm hg)
  clear h hm hg
  go_enter Try.func18, Try.ntmps18
  go_wp2_with fail
  go_end0
  exact ⟨rfl, HT.out⟩

/-- what Split answers -/
def splitE (nodes x y : Int) : Int := if apartB nodes x y then 0 else 1
def setS (sp : Int → Int → Bool) (x y : Int) (on : Bool) : Int → Int → Bool := setP sp (min x y) (max x y) on

set_option maxRecDepth 100000 in
set_option maxHeartbeats 4000000 in
theorem split_any (h : Nt w B b mb n nodes v ls sp) (hn : n < maxLen) (hB : B ≤ w.heap.size) (x y : Int) (on : Bool) : Calls Try.prog 16 #[.pointer (some ⟨b, 0, none⟩), .int .i64 x, .int .i64 y, .bool on] w fun e w' => e = .returned (.int .i64 (splitE nodes x y)) ∧ Nt w' B b mb (n + 1) nodes v ls (if apartB nodes x y then setS sp x y on else sp) ∧ Did B b mb v w w' := by
  have HA := Lib.hid (apart_any h x y)
  cases hap : apartB nodes x y with
  | false =>
    rw [hap] at HA
    have HV : Hid (splitE nodes x y = 1) := by show _ = _; unfold splitE; rw [hap]; rfl
    have HF : Hid (Nt w B b mb (n + 1) nodes v ls (if false = true then setS sp x y on else sp) ∧ Did B b mb v w w) := ⟨by obtain ⟨D, k1, k2⟩ := h.map; exact { h with map := ⟨D, k1.mono (Nat.le_succ n), k2⟩ }, Did.refl w⟩
    rw [HV.out]
    clear h hap
    go_enter Try.func16, Try.ntmps16
    go_wp2_with fail
    refine (HA.out).mono ?_
    rintro e w' ⟨rfl, hw⟩
    have hw := hw.symm
    subst hw
    go_wp2_with fail
    go_ret
    exact ⟨rfl, HF.out⟩
  | true =>
    rw [hap] at HA
    have HV : Hid (splitE nodes x y = 0) := by show _ = _; unfold splitE; rw [hap]; rfl
    rw [HV.out]
    have hxy := apart_iff.1 hap
    have hno := h.ok.1
    have hlo : I64 (min x y) := by unfold I64; omega
    have hhi : I64 (max x y) := by unfold I64; omega
    have hbd : Below w.heap.size w w.drew := (Below.refl _ _).drew
    have HC : Hid (∀ W, Below w.heap.size w W → W.cell? ⟨b, 2, none⟩ = some (.map (some mb))) := fun W hW => (h.below hW).cells.2.2
    have k1 := HC.out _ hbd
    rw [if_pos rfl]
    cases on with
    | true =>
      have HP : Hid (∀ W, Below w.heap.size w W → ∃ w', (Instr.mapUpdate 65 (.map (some mb)) (pairV (min x y) (max x y)) (.agg #[])).run Try.prog W = .ok () w' ∧ Nt w' B b mb (n + 1) nodes v ls (setS sp x y true) ∧ Did B b mb v w w') := fun W hW => by
        obtain ⟨w', hrun, hm, hg⟩ := (h.below hW).map.put hn hlo hhi
        obtain ⟨a1, a2⟩ := (h.below hW).turn hm hg
        exact ⟨w', hrun, a1, (Did.of_below hW hB).trans a2⟩
      clear h hap hxy hno hlo hhi
      go_enter Try.func16, Try.ntmps16
      go_wp2_with fail
      refine (HA.out).mono ?_
      rintro e w' ⟨rfl, hw⟩
      have hw := hw.symm
      subst hw
      go_wp2_with fail
      go_region_held3 (fun W => W.cell? ⟨b, 2, none⟩ = some (.map (some mb))) (first | exact k1 | exact HC.out _ hb5 | exact hx7 | fail)
        (first | (go_at_call 34; refine Calls.mono (pairOf_any _ _ _) ?_; rintro e w5 ⟨rfl, hb⟩; have hb5 : Below w.heap.size w w5 := hbd.trans (hb.mono hbd.size); obtain ⟨w7, hrun7, hp7⟩ := HP.out _ hb5; have hx7 := hp7.1.cells.2.2) | fail)
      have HP7 := Lib.hid hp7
      clear hp7 hrun7 hx7 hb5 hb
      go_wp2_with fail
      go_ret
      exact ⟨rfl, HP7.out⟩
    | false =>
      have HP : Hid (∀ W, Below w.heap.size w W → ∃ w', (Builtin.delete_ #[65, 73] 0 #[.map (some mb), pairV (min x y) (max x y)]).run Try.prog W = .ok (.tuple #[]) w' ∧ Nt w' B b mb (n + 1) nodes v ls (setS sp x y false) ∧ Did B b mb v w w') := fun W hW => by
        obtain ⟨w', hrun, hm, hg⟩ := (h.below hW).map.cut hlo hhi 0
        obtain ⟨D, k1, k2⟩ := hm
        obtain ⟨a1, a2⟩ := (h.below hW).turn ⟨D, k1.mono (Nat.le_succ n), k2⟩ hg
        exact ⟨w', hrun, a1, (Did.of_below hW hB).trans a2⟩
      clear h hap hxy hno hlo hhi
      go_enter Try.func16, Try.ntmps16
      go_wp2_with fail
      refine (HA.out).mono ?_
      rintro e w' ⟨rfl, hw⟩
      have hw := hw.symm
      subst hw
      go_wp2_with fail
      go_region_held3 (fun W => W.cell? ⟨b, 2, none⟩ = some (.map (some mb))) (first | exact k1 | exact HC.out _ hb5 | exact hx7 | fail)
        (first | (go_at_call 34; refine Calls.mono (pairOf_any _ _ _) ?_; rintro e w5 ⟨rfl, hb⟩; have hb5 : Below w.heap.size w w5 := hbd.trans (hb.mono hbd.size); obtain ⟨w7, hrun7, hp7⟩ := HP.out _ hb5; have hx7 := hp7.1.cells.2.2) | fail)
      have HP7 := Lib.hid hp7
      clear hp7 hrun7 hx7 hb5 hb
      go_wp2_with fail
      go_ret
      exact ⟨rfl, HP7.out⟩
end

end Go.Proofs.Ytalifbajihkenaa
