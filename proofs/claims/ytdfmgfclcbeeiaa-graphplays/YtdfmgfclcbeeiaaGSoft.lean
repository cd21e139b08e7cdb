/-
  The contract of Soft.
-/
import Derived.Test.YtdfmgfclcbeeiaaGNew
import Derived.Maps.RangeWalk
import Derived.Laws.AppendOwn
import Derived.Sort.OwnSorted
namespace Go.Proofs.Ytdfmgfclcbeeiaa
open Go.RowKit Go.Maps Go.Sort
set_option linter.unusedSimpArgs false
set_option linter.unusedVariables false

/-- the keys that have come and whose value is p's -/
structure Some9 (D0 : DataW Unit) (p : Int → Prop) (left : Lit → Bool) (xs : List Int) : Prop where
  nd : xs.Nodup
  mem : ∀ x, x ∈ xs ↔ p x ∧ has D0 (litU x) = true ∧ left (litU x) = false

theorem Some9.start (D0 : DataW Unit) (p : Int → Prop) : Some9 D0 p (has D0) [] := ⟨List.nodup_nil, fun x => by cases has D0 (litU x) <;> simp⟩

theorem Some9.yes {D0 : DataW Unit} {p : Int → Prop} {left : Lit → Bool} {xs : List Int} (h : Some9 D0 p left xs) {x : Int} {y : DataW Unit} (hlk : left (litU x) = true) (hat : ∀ zd, D0.atKey (litU x) zd = y) (hp : p x) :
    Some9 D0 p (fun z => left z && !z.sameKey (litU x)) (xs ++ [x]) where
  nd := List.nodup_append.2 ⟨h.nd, by simp, fun a ha b hb e => by
    simp at hb
    subst hb
    subst e
    have := ((h.mem a).1 ha).2.2
    rw [hlk] at this
    cases this⟩
  mem z := by
    have hh : has D0 (litU x) = true := has_true_of_atKey hat
    by_cases hz : z = x
    · subst hz; rw [hh]; simp [hp, Lit.sameKey, litU]
    · simp [h.mem z, hz, Lit.sameKey, litU]

theorem Some9.no {D0 : DataW Unit} {p : Int → Prop} {left : Lit → Bool} {xs : List Int} (h : Some9 D0 p left xs) {x : Int} (hlk : left (litU x) = true) (hp : ¬ p x) :
    Some9 D0 p (fun z => left z && !z.sameKey (litU x)) xs where
  nd := h.nd
  mem z := by
    by_cases hz : z = x
    · subst hz; simp [h.mem z, hp]
    · simp [h.mem z, hz, Lit.sameKey, litU]

theorem rise_of {p : Int → Prop} {xs : List Int} (hn : xs.Nodup) (hm : ∀ y, y ∈ xs ↔ p y) : Rise p (upU xs) := by
  refine ⟨?_, fun x => by rw [(upU_perm xs).mem_iff]; exact hm x⟩
  have hn : (upU xs).Nodup := (upU_perm xs).nodup_iff.2 hn
  exact ((upU_le xs).and hn).imp fun {a b} hab => by have := hab.1; have := hab.2; omega

section
variable {w : World} {B b mb m n : Nat} {D : DataW Unit} {nb : Int → Option Nat} {f : Int → Int → Int} {x y k : Int}

set_option maxRecDepth 100000 in
set_option maxHeartbeats 2000000 in
theorem soft_any (h : Gr w B b mb n D nb f) (hx : U64 x) (hn : n ≤ 17592186044416) : Calls Try.prog 16 #[.pointer (some ⟨b, 0, none⟩), .int .u64 x] w (GivesK w fun y => f x y = 1) := by
  have hc := h.blk.cell
  obtain ⟨i0, hi, hz0, hz1, hz2⟩ := info_parts info31
  cases hnb : nb x with
  | none =>
    have hl := h.miss hx hnb
    have HZ := Lib.hid (h.non x hnb)
    have hrg := run_range_nilMap (P := Try.prog) w 64 31 65 Try.underlying64
    have hnx : ∀ ty, (Instr.next (.pointer (some ⟨w.heap.size, 0, none⟩)) false ty).run Try.prog (w.alloc (.mapIter none 0 #[] 0)) = _ := fun ty => run_next_nilMap _ ty 0 0 #[]
    have HS := Lib.hid (sort_none none 0 (w.alloc (.mapIter none 0 #[] 0)))
    clear h
    go_enter Try.func16, Try.ntmps16
    go_wp2_with fail
    go_loopw [5, 6, 7] (fun s5 _ _ wr => s5 = .slice none 0 0 ∧ wr = w.alloc (.mapIter none 0 #[] 0)) (fun _ _ _ _ => 0)
    case atStart => exact ⟨rfl, rfl⟩
    case round =>
      obtain ⟨rfl, rfl⟩ := hrel
      go_wp2_with fail
      refine (HS.out).mono ?_
      rintro e w2 ⟨rfl, rfl⟩
      go_wp2_with fail
      go_ret
      exact GivesK.none w _ _ (fun y => by rw [HZ.out y]; simp) ((Below.refl _ w).alloc (Nat.le_refl _) _)
  | some m =>
    have hl := h.hit hnb
    obtain ⟨D', hI⟩ := h.inn x m hnb
    have hmlt := hI.map.lt
    have HI := Lib.hid hI
    have hown := hI.map
    have hsz : Maps.size D' ≤ 17592186044416 := Nat.le_trans hI.map.size_le hn
    have HSZ := Lib.hid hsz
    clear h hI
    go_enter Try.func16, Try.ntmps16
    go_wp2_with (first
      | (at_range; refine wpList_range_own w rfl _ 64 rfl 31 65 law31 Try.underlying64 _ m n _ rfl hown ?_; intro w0 hrg0 hg0 hs0)
      | fail)
    go_frame
    go_loopw [5, 6, 7] (fun s5 _ _ wr => ∃ (left : Lit → Bool) (cnt : Nat) (xs : List Int), wr.ranges Try.prog 31 (plainElem Try.prog 65) m w.heap.size n D' left cnt ∧ xs.length + cnt ≤ Maps.size D' ∧ Some9 D' (fun y => f x y = 1) left xs ∧ wr.ownsRow w.heap.size 31 1 s5 xs.length (xs.map encU) ∧ (s5 = .slice none 0 0 ↔ xs = []) ∧ Below w.heap.size w wr)
      (fun _ _ _ wr => wr.rangeLeft m w.heap.size)
    case atStart => exact ⟨_, _, [], hrg0, by simp, Some9.start _ _, ⟨rfl, .inl ⟨rfl, rfl⟩⟩, by simp, (Below.refl _ w).grown hg0 (Nat.le_refl _) (fun j e => by cases e)⟩
    case round =>
      obtain ⟨left, cnt, xs, hrg, hcs, hC, hrow, hnl, hB⟩ := hrel
      have hm0 := hrg.left_eq
      go_wp2_with (first
        | (at_next; refine wpList_next_ranges_ii wr rfl _ rfl 31 65 .u64 .u8 law31 Try.underlying31 Try.underlying65 m w.heap.size n _ _ _ rfl hrg ?_ ?_)
        | fail)
      · intro hc0 hl0
        have hrise : Rise (fun y => f x y = 1) (upU xs) := rise_of hC.nd fun y => by
          rw [hC.mem y, hl0]
          have := HI.out.mem y
          constructor
          · exact fun h => h.1
          · intro h
            exact ⟨h, this.2 (by rw [h]; decide), rfl⟩
        have hle : xs.length < 4611686018427387904 := by have := HSZ.out; omega
        have HRI := Lib.hid hrise
        have HB := Lib.hid hB
        clear hrise hB hl0 hC hcs hm0 hrg
        rcases hrow.2 with ⟨rfl, hz⟩ | ⟨gb, cap, cur, rfl, hbase, hgb, r1, r2, r3, r4⟩
        · have hxs : xs = [] := List.eq_nil_of_length_eq_zero hz
          subst hxs
          clear hrow hnl hz
          have HS := Lib.hid (sort_none none 0 wr)
          go_wp2_with fail
          refine (HS.out).mono ?_
          rintro e w2 ⟨rfl, rfl⟩
          go_wp2_with fail
          go_ret
          exact ⟨_, [], rfl, ⟨rfl, .inl ⟨rfl, rfl⟩⟩, by simp, HB.out, by have := HRI.out; simpa [upU] using this⟩
        · have hH : Holds encU wr gb 0 xs.toArray := holds_row hgb (by simpa using r4)
          have hgl : gb < wr.heap.size := (Array.getElem?_eq_some_iff.1 hgb).1
          have hcs := sort_any wr gb 0 cap xs.toArray hH hgl (by simpa using hle)
          rw [show xs.toArray.size = xs.length from rfl] at hcs
          have HCS := Lib.hid hcs
          have HG := Lib.hid hgb
          have HR1 := Lib.hid r1
          have HR2 := Lib.hid r2
          have HR3 := Lib.hid r3
          have HBS := Lib.hid hbase
          have HNL := Lib.hid hnl
          clear hrow hnl hH hcs hgb r4 r1 r2 r3 hbase
          go_wp2_with fail
          refine (HCS.out).mono ?_
          rintro e w2 ⟨rfl, d', hmv, hso⟩
          have hd : d'.toList = upU xs := moved_sorted (d := xs.toArray) hmv hso
          have hl' : d'.size = xs.length := hmv.2.1
          have hown2 := hmv.1.own HG.out HBS.out (by rw [hl']; exact HR1.out) HR2.out HR3.out
          rw [hd, hl'] at hown2
          have HO := Lib.hid hown2
          have HB2 := Lib.hid (HB.out.grown hmv.1.grown HB.out.size (fun j hj => by cases hj; exact HBS.out))
          clear hown2 hd hl' hmv hso
          go_wp2_with fail
          go_ret
          exact ⟨_, upU xs, rfl, by rw [upU_len]; exact HO.out, by rw [upU_nil]; have := HNL.out; simpa using this, HB2.out, HRI.out⟩
      · intro z c w2 cnt2 hwz hwc hlz hat hrg2 hlt hg2 hs2 hen
        have hcf : c = f x z := by
          have h1 := HI.out.look z
          rw [show litU z = Lit.int .u64 z from rfl, hat (kindD 0)] at h1
          unfold kindD at h1
          injection h1 with h1
          injection h1 with _ h1
        have hrow2 := hrow.kept hg2 (by
          cases hob : u5.ownBlock with
          | none => exact Or.inl rfl
          | some g => exact Or.inr (fun e => row_ne_iter hrow hrg (by rw [hob]; exact e.symm)))
        have HB2 := Lib.hid (hB.grown hg2 hB.size (fun j e => by cases e; exact Nat.le_refl _))
        by_cases hc1 : c = 1
        · subst hc1
          have HC2 := Lib.hid (hC.yes hlz hat hcf.symm)
          have hxl : xs.length + 1 ≤ 17592186044416 := by have := HSZ.out; omega
          clear hC hrow hrg hB hnl hcf hs2
          go_wp2_with (first
            | (at_builtin; refine wpList_append_own _ rfl _ _ 22 rfl w.heap.size 31 i0 (.int .u64 0) 1 8 Try.underlying22 hi hz0 hz1 hz2 rfl (by decide) _ _ _ rfl (hrow2.alloc _) ⟨w2.heap.size, 0, none⟩ 1 1 [.int .u64 z] rfl rfl ?c1 ?c2 ?c3 ?c4 ?c5 ?_)
            | fail)
          case c1 =>
            intro j u hj
            match j, hj with
            | 0, hj => simp at hj; subst hj; simp [Addr.add]
          case c2 => intro u hu; simp at hu; subst hu; rfl
          case c3 => unfold maxLen; omega
          case c4 => omega
          case c5 => have := HB2.out.size; simp; omega
          · intro v' w4 hown' hgrow hnil'
            have hrg4 := (hrg2.alloc (.cells #[.int .u64 z] 31)).kept hgrow (row_ne_low (hrow2.alloc (.cells #[.int .u64 z] 31)) hmlt) (row_ne_iter (hrow2.alloc (.cells #[.int .u64 z] 31)) (hrg2.alloc (.cells #[.int .u64 z] 31)))
            have hrow4 : w4.ownsRow w.heap.size 31 1 v' (xs ++ [z]).length ((xs ++ [z]).map encU) := by simpa [encU] using hown'
            have HB4 := Lib.hid ((HB2.out.alloc HB2.out.size (.cells #[.int .u64 z] 31)).grown hgrow (by have := HB2.out.size; simp; omega) (fun j e => ((hrow2.alloc (.cells #[.int .u64 z] 31)).lt j e).1))
            have HNL : Hid (v' = .slice none 0 0 ↔ xs ++ [z] = []) := ⟨fun h => (hnil' h).elim, fun h => by simp at h⟩
            clear hown' hgrow hnil' hrow2 hrg2
            go_wp2_with fail
            go_roundw
            case rel => exact ⟨_, cnt2, xs ++ [z], hrg4, by simp; omega, HC2.out, hrow4, HNL.out, HB4.out⟩
            case measure => rw [hrg4.left_eq, hm0]; exact hlt
        · have HC2 := Lib.hid (hC.no hlz (by rw [← hcf]; exact hc1))
          have e2 : (c == 1) = false := by simp [hc1]
          have HNL := Lib.hid hnl
          clear hC hrow hrg hB hnl hcf hs2
          go_wp2_with fail
          go_roundw
          case rel => exact ⟨_, cnt2, xs, hrg2, by omega, HC2.out, hrow2, HNL.out, HB2.out⟩
          case measure => rw [hrg2.left_eq, hm0]; exact hlt
end

end Go.Proofs.Ytdfmgfclcbeeiaa
