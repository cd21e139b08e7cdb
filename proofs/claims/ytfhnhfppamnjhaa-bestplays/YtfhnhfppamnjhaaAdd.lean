/-
  The contracts of New, Add, Hits, Merge.
-/
import Derived.Test.YtfhnhfppamnjhaaPut
namespace Go.Proofs.Ytfhnhfppamnjhaa
open Go.RowKit Go.Maps

/-- hits put one by one: what is there then, and how many were put -/
def putAll (most : Nat) : List Hit → List Hit → List Hit × Nat
  | hs, [] => (hs, 0)
  | hs, h :: rest => match base most hs h with
    | some l => let r := putAll most (ins l h) rest; (r.1, r.2 + 1)
    | none => putAll most hs rest
def putOne (most : Nat) (hs : List Hit) (h : Hit) : List Hit := match base most hs h with | some l => ins l h | none => hs

theorem putAll_append (most : Nat) : ∀ (xs ys hs : List Hit), putAll most hs (xs ++ ys) = ((putAll most (putAll most hs xs).1 ys).1, (putAll most hs xs).2 + (putAll most (putAll most hs xs).1 ys).2)
  | [], ys, hs => by simp [putAll]
  | x :: xs, ys, hs => by
    cases hb : base most hs x with
    | none => simp only [List.cons_append, putAll, hb]; exact putAll_append most xs ys hs
    | some l => simp only [List.cons_append, putAll, hb, putAll_append most xs ys (ins l x)]; simp; omega
theorem putAll_snoc (most : Nat) (xs : List Hit) (x : Hit) (hs : List Hit) : putAll most hs (xs ++ [x]) = (putOne most (putAll most hs xs).1 x, (putAll most hs xs).2 + (base most (putAll most hs xs).1 x).isSome.toNat) := by
  rw [putAll_append]
  unfold putOne
  cases hb : base most (putAll most hs xs).1 x <;> simp [putAll, hb]

def Wf (h : Hit) : Prop := (Lit.int .u64 h.1).wf = true ∧ (Lit.int .u64 h.2.1).wf = true ∧ h.2.2.length ≤ 1000

theorem Good.start (most : Nat) : Good most [] := ⟨List.Pairwise.nil, List.Pairwise.nil, Nat.zero_le _, fun h hh => by cases hh⟩
theorem Good.one {most : Nat} {hs : List Hit} (hg : Good most hs) (hm : 1 ≤ most) {h : Hit} (hw : Wf h) : Good most (putOne most hs h) := by
  unfold putOne
  cases hb : base most hs h with
  | none => exact hg
  | some l =>
    obtain ⟨h1, h2, h3⟩ := base_some hg hm hb
    exact (hg.sub h1).ins h2 h3 hw
theorem Good.all {most : Nat} (hm : 1 ≤ most) : ∀ {xs hs : List Hit}, Good most hs → (∀ x ∈ xs, Wf x) → Good most (putAll most hs xs).1
  | [], hs, hg, _ => hg
  | x :: xs, hs, hg, hw => by
    have h1 := hg.one hm (hw x List.mem_cons_self)
    unfold putOne at h1
    cases hb : base most hs x with
    | none => simp only [putAll, hb]; exact Good.all hm hg fun y hy => hw y (List.mem_cons_of_mem _ hy)
    | some l => simp only [putAll, hb] at h1 ⊢; exact Good.all hm h1 fun y hy => hw y (List.mem_cons_of_mem _ hy)

set_option maxHeartbeats 400000 in
/-- New, where it gives a List -/
theorem new_any (most : Nat) (w : World) (h1 : 1 ≤ most) (h2 : most ≤ 256) :
    Calls Try.prog 10 #[.int .i64 (most : Int)] w fun e w' => e = .returned (.tuple #[.pointer (some ⟨w.heap.size + 1, 0, none⟩), .int .i64 0]) ∧ Lst w' w.heap.size (w.heap.size + 1) w.heap.size 0 (.slice none 0 0) most [] ∧ Below w.heap.size w w' := by
  have i1 : ¬ (most : Int) < 1 := by omega
  have i2 : ¬ (256 : Int) < (most : Int) := by omega
  have fin : Lst ((w.alloc (.map #[] 0)).alloc (.cells #[.int .i64 most, .slice none 0 0, .map (some w.heap.size)] 54)) w.heap.size (w.heap.size + 1) w.heap.size 0 (.slice none 0 0) most [] := by
    refine ⟨?_, ⟨[], ⟨by simp, .inl ⟨rfl, rfl⟩⟩, Cells3.nil⟩, ⟨.map [], (World.ownsMap_made w _ _ _).alloc _, Says.start⟩, by omega, Nat.le_refl _⟩
    have := heap_alloc_new (w.alloc (.map #[] 0)) (.cells #[.int .i64 most, .slice none 0 0, .map (some w.heap.size)] 54)
    simpa using this
  have HF := Lib.hid fin
  clear fin
  have hmm : (Instr.makeMap 52 none).run Try.prog w = .ok (.map (some w.heap.size)) (w.alloc (.map #[] 0)) := rfl
  go_enter Try.func10, Try.ntmps10
  go_wp2_with fail
  go_ret2
  exact ⟨rfl, HF.out, ((Below.refl _ _).alloc (Nat.le_refl _) _).alloc (by simp) _⟩

theorem Chg.hits {S : Nat → Prop} {w w' : World} {b mb : Nat} {v v' : Value} {A : Option Addr} {xs : List Hit} (hC : Chg w w' b mb v v') (h : HitsAt S w A xs) (hS : ∀ g, g < w.heap.size → S g → g ≠ b ∧ g ≠ mb ∧ some g ≠ v.ownBlock) : HitsAt (fun g => g < w.heap.size ∧ S g) w' A xs := by
  have h' : HitsAt (fun g => g < w.heap.size ∧ S g) w A xs := h.mono fun g hg s => ⟨hg, s⟩
  exact h'.kept hC.size fun g _ s => by
    obtain ⟨h1, h2, h3⟩ := hS g s.1 s.2
    exact hC.block g s.1 h1 h2 h3

set_option maxRecDepth 100000 in
set_option maxHeartbeats 1000000 in
theorem add_any (S : Nat → Prop) (B b mb n most : Nat) (v : Value) (hs xs : List Hit) (A : Option Addr) (c : Nat) (w : World) (L : Lst w B b mb n v most hs) (hg : Good most hs) (hm1 : 1 ≤ most) (hm : most ≤ 1000) (hn : n + xs.length ≤ 100000) (hat : HitsAt S w A xs)
    (hS : ∀ g, g < w.heap.size → S g → g ≠ b ∧ g ≠ mb ∧ some g ≠ v.ownBlock) (hw : ∀ x ∈ xs, Wf x) :
    Calls Try.prog 13 #[.pointer (some ⟨b, 0, none⟩), .slice A xs.length c] w fun e w' => e = .returned (.int .i64 ((putAll most hs xs).2 : Nat)) ∧ ∃ v', Lst w' B b mb (n + xs.length) v' most (putAll most hs xs).1 ∧ Chg w w' b mb v v' := by
  have HAT := Lib.hid hat
  have HS := Lib.hid hS
  have HW := Lib.hid hw
  have HG := Lib.hid hg
  have HL := Lib.hid L
  have hcnt : ∀ k, (putAll most hs (xs.take k)).2 ≤ k := fun k => by
    have h1 : ∀ (ys zs : List Hit), (putAll most zs ys).2 ≤ ys.length := fun ys => by
      induction ys with
      | nil => intro zs; exact Nat.le_refl _
      | cons y ys ih =>
        intro zs
        cases hb : base most zs y with
        | none => simp only [putAll, hb]; have := ih zs; simp; omega
        | some l => simp only [putAll, hb]; have := ih (ins l y); simp; omega
    have := h1 (xs.take k) hs
    rw [List.length_take] at this
    omega
  have HCNT := Lib.hid hcnt
  clear hat hS hw hg L hcnt
  go_enter Try.func13, Try.ntmps13
  go_wp2_with fail
  go_loopw [5, 7, 12] (fun cnt _ i wr => ∃ (k : Nat) (v' : Value), k ≤ xs.length ∧ i = .int .i64 k ∧ cnt = .int .i64 ((putAll most hs (xs.take k)).2 : Nat) ∧ Lst wr B b mb (n + k) v' most (putAll most hs (xs.take k)).1 ∧ Chg w wr b mb v v') (fun _ _ i _ => xs.length - (intOf i).toNat)
  case atStart => exact ⟨0, v, Nat.zero_le _, rfl, by simp [putAll], by simpa [putAll] using HL.out, Chg.refl _ _ _ _⟩
  case round =>
    obtain ⟨k, v', hk, rfl, rfl, hL, hC⟩ := hrel
    have HC := Lib.hid hC
    have HLK := Lib.hid hL
    have hck := HCNT.out k
    by_cases hlt : k < xs.length
    · obtain ⟨ad, rfl, hj1, hadl, g0, g1, Y, cy, g2, hj2, hrow⟩ := (hC.hits HAT.out HS.out) k hlt
      have i1 : (k : Int) < (xs.length : Int) := by omega
      have HT := Lib.hid (show putAll most hs (xs.take (k + 1)) = (putOne most (putAll most hs (xs.take k)).1 xs[k], (putAll most hs (xs.take k)).2 + (base most (putAll most hs (xs.take k)).1 xs[k]).isSome.toNat) by rw [List.take_succ_eq_append_getElem hlt, putAll_snoc])
      have hgk : Good most (putAll most hs (xs.take k)).1 := HG.out.all hm1 fun x hx => HW.out x (List.mem_of_mem_take hx)
      have hbx : Below wr.heap.size wr (wr.alloc (.cells #[.int .u64 xs[k].1, .int .u64 xs[k].2.1, .slice Y xs[k].2.2.length cy] 36)) := (Below.refl _ _).alloc (Nat.le_refl _) _
      have hput := put_any (fun g => g < w.heap.size ∧ S g) B b mb (n + k) most v' _ xs[k] Y cy _ (hL.below hbx) hgk hm1 hm (by omega) (hrow.below hbx) (fun g _ s => by
        obtain ⟨s1, s2, s3⟩ := HS.out g s.1 s.2
        refine ⟨s1, s2, fun e => ?_⟩
        rcases hC.new with e' | ⟨g', e', hg'⟩
        · exact s3 (e.trans e')
        · rw [e'] at e; injection e with e; omega) (HW.out _ (List.getElem_mem hlt))
      have hput2 : Calls Try.prog 25 #[.pointer (some ⟨b, 0, none⟩), .agg #[.int .u64 xs[k].1, .int .u64 xs[k].2.1, .slice Y xs[k].2.2.length cy]] (wr.alloc (.cells #[.int .u64 xs[k].1, .int .u64 xs[k].2.1, .slice Y xs[k].2.2.length cy] 36)) fun e w' => e = .returned (.bool (base most (putAll most hs (xs.take k)).1 xs[k]).isSome) ∧ ∃ v'', Lst w' B b mb (n + (k + 1)) v'' most (putAll most hs (xs.take (k + 1))).1 ∧ Chg w w' b mb v v'' := hput.mono fun e w' ⟨v'', e1, e2, e3⟩ => ⟨e1, v'', by rw [HT.out]; exact e2, hC.trans ((Chg.of_below hbx b mb v').trans e3)⟩
      have HT2 := Lib.hid (show (putAll most hs (xs.take (k + 1))).2 = (putAll most hs (xs.take k)).2 + (base most (putAll most hs (xs.take k)).1 xs[k]).isSome.toNat by rw [HT.out])
      have HP := Lib.hid hput2
      clear hput hput2 hL hC hgk hrow hj1 hj2 hbx HT
      generalize (putAll most hs (xs.take k)).2 = cnt at *
      generalize (base most (putAll most hs (xs.take k)).1 xs[k]).isSome = bs at *
      generalize xs[k].1 = xi at *
      generalize xs[k].2.1 = xd at *
      generalize xs[k].2.2.length = xl at *
      go_wp2_with fail
      refine (HP.out).mono ?_
      rintro e w5 ⟨rfl, v5, hL5, hC5⟩
      cases bs with
      | true =>
        go_wp2_with fail
        go_roundw
        case rel => exact ⟨k + 1, v5, by omega, by go_num, by rw [HT2.out]; go_num, hL5, hC5⟩
        case measure => simp [intOf]; omega
      | false =>
        go_wp2_with fail
        go_roundw
        case rel => exact ⟨k + 1, v5, by omega, by go_num, by rw [HT2.out]; rfl, hL5, hC5⟩
        case measure => simp [intOf]; omega
    · obtain rfl : k = xs.length := by omega
      have i1 : ¬ ((xs.length : Int) < (xs.length : Int)) := by omega
      rw [List.take_of_length_le (Nat.le_refl _)] at HLK
      clear hL hC
      go_wp2_with fail
      go_ret
      exact ⟨rfl, v', HLK.out, HC.out⟩

end Go.Proofs.Ytfhnhfppamnjhaa
