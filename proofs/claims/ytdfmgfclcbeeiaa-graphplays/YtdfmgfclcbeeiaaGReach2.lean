/-
  The contract of Reach.
-/
import Derived.Test.YtdfmgfclcbeeiaaGReach
namespace Go.Proofs.Ytdfmgfclcbeeiaa
open Go.RowKit Go.Maps Go.Sort
set_option linter.unusedSimpArgs false
set_option linter.unusedVariables false

theorem own_form {w : World} {B e s n : Nat} {v : Value} {xs : List Value} (h : w.ownsRow B e s v n xs) : ∃ A c, v = .slice A n c ∧ n ≤ c := by
  rcases h.2 with ⟨rfl, rfl⟩ | ⟨g, cap, cur, rfl, _, _, h1, _⟩
  · exact ⟨none, 0, rfl, Nat.le_refl _⟩
  · exact ⟨_, cap, rfl, h1⟩

/-- where Reach's great loop stands -/
def Outer (w : World) (nb : Int → Option Nat) (f : Int → Int → Int) (x : Int) (v : Value) (wr : World) : Prop :=
  ∃ (ss : List Int) (D1 : DataW Unit) (xs : List Int), wr.ownsMap Try.prog 31 unitElem w.heap.size ss.length D1 ∧ KeysOf D1 ss ∧ Seen (fun a c => f a c ≠ 0) x (fun y => has D1 (litU y) = true) xs ∧
    wr.ownsRow (w.heap.size + 1) 31 1 v xs.length (xs.map encU) ∧ Below w.heap.size w wr ∧ (∀ y ∈ ss, (nb y).isSome = true) ∧ xs.length ≤ ss.length

/-- where it stands within one node's edges -/
def Within (w : World) (nb : Int → Option Nat) (f : Int → Int → Int) (x : Int) (m r n : Nat) (D' : DataW Unit) (here : Int) (l s : Nat) (v : Value) (wr : World) : Prop :=
  ∃ (left : Lit → Bool) (cnt : Nat) (ss : List Int) (D1 : DataW Unit) (xs : List Int), wr.ranges Try.prog 31 (plainElem Try.prog 65) m r n D' left cnt ∧ wr.ownsMap Try.prog 31 unitElem w.heap.size ss.length D1 ∧ KeysOf D1 ss ∧
    Mid (fun a c => f a c ≠ 0) x (fun y => has D1 (litU y) = true) xs here (fun y => left (litU y) = true) ∧
    wr.ownsRow (w.heap.size + 1) 31 1 v xs.length (xs.map encU) ∧ Below w.heap.size w wr ∧ (∀ y ∈ ss, (nb y).isSome = true) ∧ xs.length ≤ ss.length ∧ s ≤ ss.length ∧ xs.length + s = ss.length + l

section
variable {w : World} {B b mb n : Nat} {D : DataW Unit} {nb : Int → Option Nat} {f : Int → Int → Int} {x y k : Int}

set_option maxRecDepth 100000 in
set_option maxHeartbeats 4000000 in
theorem reach_any (h : Gr w B b mb n D nb f) (hx : U64 x) (hn : n ≤ 17592186044416) {ns : List Int} (hns : ∀ z, z ∈ ns ↔ (nb z).isSome = true) (hcl : ∀ a c, f a c ≠ 0 → (nb c).isSome = true) (hL : ns.length ≤ 17592186044416) :
    Calls Try.prog 17 #[.pointer (some ⟨b, 0, none⟩), .int .u64 x] w (GivesK w fun y => (nb x).isSome = true ∧ Way (fun a c => f a c ≠ 0) x y) := by
  have HH := Lib.hid (has_any h hx)
  obtain ⟨i0, hi, hz0, hz1, hz2⟩ := info_parts info31
  cases hnb : nb x with
  | none =>
    rw [hnb] at HH
    go_enter Try.func17, Try.ntmps17
    go_wp2_with fail
    refine (HH.out).mono ?_
    rintro e w' ⟨rfl, rfl⟩
    go_wp2_with fail
    go_ret
    exact GivesK.none _ _ _ (fun y => by simp) (Below.refl _ _)
  | some mx =>
    rw [hnb] at HH
    obtain ⟨w1, hrun1, hm1, hg1⟩ := set_put (World.ownsMap_made w Try.prog 31 unitElem) (by decide) hx
    have hmm : (Instr.makeMap 68 none).run Try.prog w = .ok (.map (some w.heap.size)) (w.alloc (.map #[] 0)) := rfl
    have hsz1 : w.heap.size + 1 ≤ w1.heap.size := by have := hg1.size; simp at this; omega
    have hB1 : Below w.heap.size w w1 := ((Below.refl _ w).alloc (Nat.le_refl _) _).grown hg1 (by simp) (fun j e => by cases e; exact Nat.le_refl _)
    have HB2 := Lib.hid (hB1.alloc hB1.size (.cells #[.int .u64 x] 31))
    have HO := Lib.hid (World.ownsRow_lit (base := w.heap.size + 1) (e := 31) (size := 1) w1 #[.int .u64 x] 1 hsz1 (by decide) rfl)
    have HM := Lib.hid (hm1.alloc (.cells #[.int .u64 x] 31))
    have HG := Lib.hid h
    have HNX := Lib.hid hnb
    have HNS := Lib.hid hns
    have HCL := Lib.hid hcl
    have HLN := Lib.hid hL
    have hc := h.blk.cell
    have HSZ1 := Lib.hid hsz1
    have OUT0 : Hid (Outer w nb f x (.slice (some ⟨w1.heap.size, 0, none⟩) 1 1) (w1.alloc (.cells #[.int .u64 x] 31))) := by
      have hk0 : KeysOf (.map []) [] := ⟨List.nodup_nil, fun y => by simp [has], rfl⟩
      obtain ⟨k1, k2⟩ := hk0.put tidy_empty (z := x) (by simp [has]) (.agg [])
      refine ⟨[x], _, [x], HM.out, by simpa using k1, ⟨(k2 x).2 (.inr rfl), fun y hy => ?_, fun y hy => ?_, fun y hy hn => ?_⟩, HO.out, HB2.out, fun y hy => ?_, by simp⟩
      · rcases (k2 y).1 hy with h1 | rfl
        · simp [has] at h1
        · exact .here
      · simp at hy; subst hy; exact (k2 y).2 (.inr rfl)
      · rcases (k2 y).1 hy with h1 | rfl
        · simp [has] at h1
        · simp at hn
      · simp at hy; subst hy; rw [hnb]; rfl
    clear h hnb hns hcl hL hB1 hm1 hg1 hsz1 hc
    go_enter Try.func17, Try.ntmps17
    go_wp2_with fail
    refine (HH.out).mono ?_
    rintro e w' ⟨rfl, hww⟩
    have hww := hww.symm
    subst hww
    go_wp2_with fail
    go_loopw [6, 7, 8, 9, 10, 11] (fun s6 _ _ _ _ _ wr => Outer w nb f x s6 wr) (fun s6 _ _ _ _ _ wr => 2 * (ns.length - entries wr w.heap.size) + lenOf s6)
    case atStart => exact OUT0.out
    case round =>
      obtain ⟨ss, D1, xs, hm, hK, hS, hrow, hB, hnd, hxs⟩ := hrel
      have hss : ss.length ≤ 17592186044416 := Nat.le_trans (nodup_le ss ns hK.1 fun y hy => (HNS.out y).2 (hnd y hy)) HLN.out
      have hent := entries_own hm
      rcases List.eq_nil_or_concat xs with rfl | ⟨ys, here, e⟩
      · obtain ⟨A, c, rfl, hnc⟩ := own_form hrow
        have HKY := Lib.hid (keys35 (some w.heap.size) wr)
        have HSO := Lib.hid (sorted45 w.heap.size ss.length D1 wr hm (by rw [hK.2.2]; exact hss))
        have HF := Lib.hid (And.intro hS hB)
        clear hent hm hK hS hrow hB hnd hss hnc hxs
        go_wp2_with fail
        refine (HKY.out).mono ?_
        rintro e w' ⟨rfl, rfl⟩
        go_wp2_with fail
        refine (HSO.out).mono ?_
        rintro e w' ⟨v, xs, rfl, hA, hr, hnl, hB⟩
        have HR := Lib.hid (And.intro hA (And.intro hr (And.intro hnl hB)))
        clear hA hr hnl hB
        go_wp2_with fail
        go_ret
        obtain ⟨⟨hA, _⟩, hr, hnl, hB⟩ := HR.out
        obtain ⟨k1, k2⟩ := upU_keys hA
        have hS := HF.out.1
        have hBw := HF.out.2
        exact ⟨v, upU xs, rfl, by rw [upU_len]; exact row_base hr hBw.size, by rw [upU_nil]; exact hnl, hBw.trans (hB.mono hBw.size), k1, fun y => by rw [k2 y]; have := hS.all y; rw [show litU y = Lit.int .u64 y from rfl] at this; rw [this]; simp⟩
      · rw [List.concat_eq_append] at e
        subst e
        obtain ⟨W0, rfl⟩ : ∃ y, y = wr := ⟨wr, rfl⟩
        obtain ⟨l, hl⟩ : ∃ l, l = ys.length := ⟨_, rfl⟩
        have hll : (ys ++ [here]).length = l + 1 := by simp [hl]
        rw [hll] at hrow hxs
        obtain ⟨A, c, rfl, hnc⟩ := own_form hrow
        obtain ⟨hrow1, _, hnc1, hcm, g, rfl, hcell⟩ := own_take hrow
        have hM := hS.pop
        have hhn : (nb here).isSome = true := hnd here ((hK.2.1 here).2 hM.at_)
        obtain ⟨m, hmh⟩ := Option.isSome_iff_exists.1 hhn
        have hGr := HG.out.below hB
        have hcb := hGr.blk.cell
        have hlk := hGr.hit hmh
        obtain ⟨D', hI⟩ := hGr.inn here m hmh
        have hmlt : m < w.heap.size := by obtain ⟨D2, hI2⟩ := HG.out.inn here m hmh; exact hI2.map.lt
        have hsb : w.heap.size < W0.heap.size := hm.lt
        have HI := Lib.hid hI
        have hown := hI.map
        have HIN : Hid (∀ w0, W0.grownBy w0 none → w0.ranges Try.prog 31 (plainElem Try.prog 65) m W0.heap.size n D' (has D') (Maps.size D') → Within w nb f x m W0.heap.size n D' here l ss.length (.slice (some ⟨g, 0, none⟩) l c) w0) := fun w0 hg0 hrg0 => by
          refine ⟨_, _, ss, D1, ys, hrg0, hm.kept hg0 (by simp), hK, ?_, by rw [← hl]; exact hrow1.kept hg0 (by simp [Value.ownBlock]), hB.grown hg0 hB.size (fun j e => by cases e), hnd, by omega, Nat.le_refl _, by omega⟩
          exact ⟨hM.key, hM.way, hM.sub, hM.at_, hM.done, fun y hy => .inl ((HI.out.mem y).2 hy)⟩
        have e0 : (0 : Int) < (l : Int) + 1 := by omega
        have hlb : (l : Int) ≤ 17592186044416 := by omega
        have HE : Hid (entries W0 w.heap.size = ss.length) := by show _ = _; rw [hent]; exact hK.2.2
        have HSB := Lib.hid hsb
        clear hent hK hS hB hnd hM hhn hI hGr hrow hm hss hxs hrow1 hl hll hnc hmh
        go_wp2_with (first
          | (at_range; refine wpList_range_own W0 rfl _ 64 rfl 31 65 law31 Try.underlying64 _ m n _ rfl hown ?_; intro w0 hrg0 hg0 hs0)
          | fail)
        have HIN0 := Lib.hid (HIN.out w0 hg0 hrg0)
        clear HIN hrg0 hg0 hs0
        go_frame
        go_loopw [6, 9, 10, 11] (fun s6 _ _ _ wi => Within w nb f x m W0.heap.size n D' here l ss.length s6 wi) (fun _ _ _ _ wi => wi.rangeLeft m W0.heap.size)
        case atStart => exact HIN0.out
        case round =>
          obtain ⟨left, cnt, ss2, D2, xs2, hrg, hm2, hK2, hM2, hrow2, hB2, hnd2, hxs2, hsle, hbook⟩ := hrel
          have hss2 : ss2.length ≤ ns.length := nodup_le ss2 ns hK2.1 fun y hy => (HNS.out y).2 (hnd2 y hy)
          have hm0 := hrg.left_eq
          go_wp2_with (first
            | (at_next; refine wpList_next_ranges_ii _ rfl _ rfl 31 65 .u64 .u8 law31 Try.underlying31 Try.underlying65 m W0.heap.size n _ _ _ rfl hrg ?_ ?_)
            | fail)
          · intro hc0 hl0
            have HO2 : Hid (Outer w nb f x u6 wr) := ⟨ss2, D2, xs2, hm2, hK2, hM2.stop (fun y => by rw [hl0]; simp), hrow2, hB2, hnd2, hxs2⟩
            have hen2 := entries_own hm2
            have HM2 : Hid (2 * (ns.length - entries wr w.heap.size) + lenOf u6 < 2 * (ns.length - entries W0 w.heap.size) + (l + 1)) := by
              show _ < _
              obtain ⟨A2, c2, e2, _⟩ := own_form hrow2
              rw [HE.out, hen2, hK2.2.2, e2]
              simp only [lenOf]
              omega
            clear hen2 hrg hm2 hK2 hM2 hrow2 hB2 hnd2 hxs2 hsle hbook hss2 hm0 hl0 hc0
            go_wp2_with fail
            go_roundw
            case rel => exact HO2.out
            case measure => exact HM2.out
          · intro z c2 w2 cnt2 hwz hwc hlz hat hrg2 hlt hg2 hs2 hen
            have hRz : f here z ≠ 0 := (HI.out.mem z).1 (has_true_of_atKey hat)
            obtain ⟨mz, hmz⟩ := Option.isSome_iff_exists.1 (HCL.out _ _ hRz)
            have hzU : U64 z := (HG.out.look z mz hmz).1
            have hlf : ∀ y, left (litU y) = true → y = z ∨ (left (litU y) && !(litU y).sameKey (Lit.int .u64 z)) = true := fun y hy => by
              by_cases hyz : y = z
              · exact .inl hyz
              · exact .inr (by rw [hy]; simp [Lit.sameKey, litU, hyz])
            have hm3 := hm2.kept hg2 (by have := HSB.out; simp; omega)
            have hrow3 := hrow2.kept hg2 (by
              cases hob : u6.ownBlock with
              | none => exact Or.inl rfl
              | some g => exact Or.inr (fun e => row_ne_iter hrow2 hrg (by rw [hob]; exact e.symm)))
            have hB3 := hB2.grown hg2 hB2.size (fun j e => by cases e; exact Nat.le_of_lt HSB.out)
            have hlk3 := set_look hm3 hzU
            cases hkn : has D2 (litU z) with
            | true =>
              rw [hkn] at hlk3
              have HW := Lib.hid (show Within w nb f x m W0.heap.size n D' here l ss.length u6 (w2.alloc (.cells #[] 67)) from ⟨_, cnt2, ss2, D2, xs2, hrg2.alloc _, hm3.alloc _, hK2, hM2.old hkn hlf, hrow3.alloc _, hB3.alloc hB3.size _, hnd2, hxs2, hsle, hbook⟩)
              have HMS : Hid ((w2.alloc (.cells #[] 67)).rangeLeft m W0.heap.size < wr.rangeLeft m W0.heap.size) := by
                show _ < _
                rw [(hrg2.alloc (.cells #[] 67)).left_eq, hm0]; exact hlt
              clear hrg hm2 hK2 hM2 hrow2 hB2 hnd2 hxs2 hsle hbook hss2 hm0 hm3 hrow3 hB3 hlf hRz hmz hzU hkn hat hrg2 hlz hg2 hs2 hlt
              go_wp2_with fail
              go_roundw
              case rel => exact HW.out
              case measure => exact HMS.out
            | false =>
              rw [hkn] at hlk3
              obtain ⟨w4, hrun4, hm4, hg4⟩ := set_put (hm3.alloc (.cells #[] 67)) (by unfold maxLen; have := HLN.out; omega) hzU
              have hrow4 := (hrow3.alloc (.cells #[] 67)).kept hg4 (Or.inr (fun e => row_ne_low hrow3 (Nat.lt_succ_self w.heap.size) e.symm))
              have hrg4 := (hrg2.alloc (.cells #[] 67)).kept hg4 (by simp; omega) (by have := HSB.out; simp; omega)
              have hB4 := (hB3.alloc hB3.size (.cells #[] 67)).grown hg4 (by have := hB3.size; simp; omega) (fun j e => by cases e; exact Nat.le_refl _)
              obtain ⟨hK4, hS4⟩ := hK2.put (hm2.tidy law31) hkn (.agg [])
              have hM4 := hM2.new (S' := fun y => has (D2.put (litU z) (.agg [])) (litU y) = true) hRz hS4 hlf
              have hss4 : (ss2 ++ [z]).length ≤ ns.length := nodup_le _ ns hK4.1 fun y hy => (HNS.out y).2 (by
                rcases List.mem_append.1 hy with h1 | h1
                · exact hnd2 y h1
                · simp at h1; subst h1; rw [hmz]; rfl)
              have hnd4 : ∀ y ∈ ss2 ++ [z], (nb y).isSome = true := fun y hy => by
                rcases List.mem_append.1 hy with h1 | h1
                · exact hnd2 y h1
                · simp at h1; subst h1; rw [hmz]; rfl
              have hsz4 : w.heap.size + 1 ≤ w4.heap.size := by have := hm4.lt; omega
              have HFIN : Hid (∀ v' w5, w5.ownsRow (w.heap.size + 1) 31 1 v' (xs2.length + 1) (xs2.map encU ++ [.int .u64 z]) → (w4.alloc (.cells #[.int .u64 z] 31)).grownBy w5 u6.ownBlock → Within w nb f x m W0.heap.size n D' here l ss.length v' w5 ∧ w5.rangeLeft m W0.heap.size < wr.rangeLeft m W0.heap.size) := fun v' w5 ho5 hg5 => by
                have hra := hrow4.alloc (.cells #[.int .u64 z] 31)
                have hrg5 := (hrg4.alloc (.cells #[.int .u64 z] 31)).kept hg5 (row_ne_low hra (by omega)) (row_ne_iter hra (hrg4.alloc (.cells #[.int .u64 z] 31)))
                have hm5 := (hm4.alloc (.cells #[.int .u64 z] 31)).kept hg5 (row_ne_low hra (Nat.lt_succ_self _))
                have hB5 := (hB4.alloc hB4.size (.cells #[.int .u64 z] 31)).grown hg5 (by have := hB4.size; simp; omega) (fun j e => Nat.le_of_succ_le (hra.lt j e).1)
                refine ⟨⟨_, cnt2, ss2 ++ [z], _, xs2 ++ [z], hrg5, by simpa using hm5, hK4, hM4, by simpa [encU] using ho5, hB5, hnd4, by simp; omega, by simp; omega, by simp; omega⟩, ?_⟩
                rw [hrg5.left_eq, hm0]
                exact hlt
              have hra := hrow4.alloc (.cells #[.int .u64 z] 31)
              have hxl : xs2.length + 1 ≤ 17592186044416 := by have := HLN.out; rw [List.length_append] at hss4; simp at hss4; omega
              clear hrg hm2 hK2 hM2 hrow2 hB2 hnd2 hxs2 hsle hbook hss2 hm0 hm3 hrow3 hB3 hlf hRz hmz hzU hkn hat hrg2 hlz hg2 hs2 hlt hm4 hg4 hrow4 hrg4 hB4 hK4 hS4 hM4 hss4 hnd4
              go_wp2_with (first
                | (at_builtin; refine wpList_append_own _ rfl _ _ 22 rfl (w.heap.size + 1) 31 i0 (.int .u64 0) 1 8 Try.underlying22 hi hz0 hz1 hz2 rfl (by decide) _ _ _ rfl hra ⟨w4.heap.size, 0, none⟩ 1 1 [.int .u64 z] rfl rfl ?c1 ?c2 ?c3 ?c4 ?c5 ?_)
                | fail)
              case c1 =>
                intro j u hj
                match j, hj with
                | 0, hj => simp at hj; subst hj; simp [Addr.add]
              case c2 => intro u hu; simp at hu; subst hu; rfl
              case c3 => unfold maxLen; omega
              case c4 => omega
              case c5 => simp; omega
              · intro v' w5 hown' hgrow hnil'
                have HW := Lib.hid (HFIN.out v' w5 hown' hgrow)
                clear hown' hgrow hnil' hra HFIN
                go_wp2_with fail
                go_roundw
                case rel => exact HW.out.1
                case measure => exact HW.out.2
end

end Go.Proofs.Ytdfmgfclcbeeiaa
