/-
  The contract of Post onto a row of the net's own.
-/
import Derived.Test.YtalifbajihkenaaNPut
import Derived.Deep.CutRange
namespace Go.Proofs.Ytalifbajihkenaa
open Go.RowKit Go.Maps
set_option linter.unusedSimpArgs false
set_option linter.unusedVariables false

/-- may it go under way? -/
def postB (nodes : Int) (l : L3) : Bool := apartB nodes l.1 l.2.1 && decide ((l.2.2.length : Int) ≤ 4102)
theorem filter_snoc (q : L3 → Bool) (ms : List L3) (i : Nat) (h : i < ms.length) : (ms.take (i + 1)).filter q = (ms.take i).filter q ++ (if q (ms[i]'h) then [ms[i]'h] else []) := by
  rw [List.take_add_one, List.getElem?_eq_getElem h, List.filter_append]
  congr 1
  simp only [Option.toList_some, List.filter_cons, List.filter_nil]

theorem news_three {w : World} {g : Nat} {x y z : Value} {t : TypeId} (h : w.heap[g]? = some (.cells #[x, y, z] t (0, 0))) : ∀ j u, [x, y, z][j]? = some u → ∃ ad, (some ⟨g, 0, none⟩ : Option Addr) = some ad ∧ w.cell? (ad.add j) = some u := fun j u hj => ⟨_, rfl, World.news_of_block (cs := #[x, y, z]) h j u hj⟩

section
variable {w w' : World} {B b mb n : Nat} {nodes x y i : Int} {v : Value} {ls : List L3} {sp : Int → Int → Bool}
/-- what Post leaves: the row may have moved -/
def Moves (w : World) (v v' : Value) : Prop := ∀ g, v'.ownBlock = some g → v.ownBlock = some g ∨ w.heap.size ≤ g
theorem Did.then {v v' : Value} {w1 w2 : World} (h : Did B b mb v w w1) (hm : Moves w v v') (k : Did B b mb v' w1 w2) : Did B b mb v w w2 :=
  ⟨h.below.trans k.below, fun g hg hn => (k.same g (Nat.lt_of_lt_of_le hg h.below.size) fun e => by
    rcases e with e | e | e
    · exact hn (.inl e)
    · exact hn (.inr (.inl e))
    · rcases hm g e with e | e
      · exact hn (.inr (.inr e))
      · omega).trans (h.same g hg hn)⟩

/-- what a row of letters has been given: bodies of the call's own -/
def Adds (w w' : World) (cs cs' : List Value) : Prop := ∃ ns, cs' = cs ++ ns ∧ ∀ a n c, Value.slice (some a) n c ∈ ns → w.heap.size ≤ a.block ∧ a.block < w'.heap.size
theorem Adds.refl (w : World) (cs : List Value) : Adds w w cs cs := ⟨[], by simp, fun a n c h => by cases h⟩
theorem Adds.up {w1 w2 : World} {cs cs' : List Value} (h : Adds w w1 cs cs') (hs : w1.heap.size ≤ w2.heap.size) : Adds w w2 cs cs' := let ⟨ns, e, k⟩ := h; ⟨ns, e, fun a n c hm => ⟨(k a n c hm).1, Nat.lt_of_lt_of_le (k a n c hm).2 hs⟩⟩
theorem Adds.snoc {w1 w2 : World} {cs cs' : List Value} {f t : Int} {A : Option Addr} {n c : Nat} (h : Adds w w1 cs cs') (hs : w1.heap.size ≤ w2.heap.size) (hA : ∀ a, A = some a → w.heap.size ≤ a.block ∧ a.block < w2.heap.size) : Adds w w2 cs (cs' ++ [.int .i64 f, .int .i64 t, .slice A n c]) := by
  obtain ⟨ns, rfl, k⟩ := h.up hs
  refine ⟨ns ++ [.int .i64 f, .int .i64 t, .slice A n c], by simp, fun a n' c' hm => ?_⟩
  rcases List.mem_append.1 hm with hm | hm
  · exact k a n' c' hm
  · simp at hm
    obtain ⟨e, _, _⟩ := hm
    exact hA a e.symm
def Posted2 (w : World) (B b mb n : Nat) (nodes : Int) (v : Value) (ls ms : List L3) (sp : Int → Int → Bool) (cs : List Value) (w' : World) : Prop :=
  ∃ v' cs', Nt w' B b mb n nodes v' (ls ++ ms.filter (postB nodes)) sp ∧ w'.ownsRow B 37 3 v' (ls ++ ms.filter (postB nodes)).length cs' ∧ Did B b mb v w w' ∧ Moves w v v' ∧ Adds w w' cs cs'
def Posted (w : World) (B b mb n : Nat) (nodes : Int) (v : Value) (ls ms : List L3) (sp : Int → Int → Bool) (w' : World) : Prop :=
  ∃ v' cs', Nt w' B b mb n nodes v' (ls ++ ms.filter (postB nodes)) sp ∧ w'.ownsRow B 37 3 v' (ls ++ ms.filter (postB nodes)).length cs' ∧ Did B b mb v w w' ∧ Moves w v v'

set_option maxRecDepth 100000 in
set_option maxHeartbeats 4000000 in
theorem post_more (h : Nt w B b mb n nodes v ls sp) {cs : List Value} (ho : w.ownsRow B 37 3 v ls.length cs) {A : Option Addr} {c : Nat} {ms : List L3} (hA : Lts (NB b mb v) w A ms) (hAn : ∀ a, A = some a → ¬ NB b mb v a.block)
    (hms : ∀ l ∈ ms, l.2.2.length ≤ 70368744177664) (hsum : ls.length + ms.length ≤ 100000) :
    Calls Try.prog 21 #[.pointer (some ⟨b, 0, none⟩), .slice A ms.length c] w fun e w' => e = .returned (.int .i64 (ms.filter (postB nodes)).length) ∧ Posted2 w B b mb n nodes v ls ms sp cs w' := by
  have hB : B ≤ w.heap.size := Nat.le_trans h.low.1 (Nat.le_of_lt (lt_of_block h.blk))
  have HIN : Hid (∀ W i, Did B b mb v w W → (hi : i < ms.length) → ∃ ad Y cy, A = some ad ∧ W.cell? (ad.add (i * 3)) = some (.int .i64 (ms[i]'hi).1) ∧ W.cell? ⟨(ad.add (i * 3)).block, (ad.add (i * 3)).off + 1, none⟩ = some (.int .i64 (ms[i]'hi).2.1) ∧ W.cell? ⟨(ad.add (i * 3)).block, (ad.add (i * 3)).off + 2, none⟩ = some (.slice Y (ms[i]'hi).2.2.length cy) ∧ Row W Y (bs (ms[i]'hi).2.2)) := fun W i hW hi => by
    obtain ⟨ad, ea, lt, c0, c1, Y, cy, c2, k1, k2, k3⟩ := hA i hi
    have hs := hW.same ad.block lt (hAn ad ea)
    have hbk : W.heap[(ad.add (i * 3)).block]? = w.heap[(ad.add (i * 3)).block]? := by rw [block_add]; exact hs
    exact ⟨ad, Y, cy, ea, (World.cell?_of_block hbk).trans c0, (World.cell?_of_block (a := ⟨(ad.add (i * 3)).block, (ad.add (i * 3)).off + 1, none⟩) hbk).trans c1, (World.cell?_of_block (a := ⟨(ad.add (i * 3)).block, (ad.add (i * 3)).off + 2, none⟩) hbk).trans c2, k2.kept hW.below.size fun a ea hl => hW.same _ hl (k3 a ea).1⟩
  have HST : Hid (∃ v' cs', Nt w B b mb n nodes v' (ls ++ (ms.take 0).filter (postB nodes)) sp ∧ w.ownsRow B 37 3 v' (ls ++ (ms.take 0).filter (postB nodes)).length cs' ∧ Did B b mb v w w ∧ Moves w v v' ∧ Adds w w cs cs') := ⟨v, cs, by simpa using h, by simpa using ho, Did.refl w, fun g hg => .inl hg, Adds.refl w cs⟩
  have HMS := Lib.hid hms
  obtain ⟨m, hm⟩ : ∃ x, x = ms.length := ⟨_, rfl⟩
  rw [← hm] at hsum ⊢
  have HM := Lib.hid hm
  clear h ho hA hAn hms hm
  go_enter Try.func21, Try.ntmps21
  go_wp2_with fail
  go_loopw [12, 5] (fun s12 s5 wr => ∃ i : Nat, i ≤ m ∧ s12 = .int .i64 (i : Int) ∧ s5 = .int .i64 ((ms.take i).filter (postB nodes)).length ∧ ∃ v' cs', Nt wr B b mb n nodes v' (ls ++ (ms.take i).filter (postB nodes)) sp ∧ wr.ownsRow B 37 3 v' (ls ++ (ms.take i).filter (postB nodes)).length cs' ∧ Did B b mb v w wr ∧ Moves w v v' ∧ Adds w wr cs cs') (fun s12 _ _ => m - (intOf s12).toNat)
  case atStart => exact ⟨0, Nat.zero_le _, rfl, by simp, HST.out⟩
  case round =>
    obtain ⟨i, him, rfl, rfl, v', cs', hN, hO, hD, hM, hAD⟩ := hrel
    have HAD := Lib.hid hAD
    have HN := Lib.hid hN
    have HO := Lib.hid hO
    have HD := Lib.hid hD
    have HMV := Lib.hid hM
    clear hN hO hD hM hAD HST
    by_cases hi : i < m
    · have e0 : (i : Int) < (m : Int) := by omega
      have e1 : (0 : Int) ≤ (i : Int) := by omega
      have hi' : i < ms.length := by rw [← HM.out]; exact hi
      obtain ⟨ad, Y, cy, rfl, q0, q1, q2, q3⟩ := HIN.out wr i HD.out hi'
      have hbl := HMS.out _ (List.getElem_mem hi')
      have HT := Lib.hid (filter_snoc (postB nodes) ms i hi')
      have hlen : ((ms.take i).filter (postB nodes)).length ≤ i := Nat.le_trans (List.length_filter_le _ _) (by simp; omega)
      generalize ms[i]'hi' = l at *
      obtain ⟨f, t, p⟩ := l
      simp only at q0 q1 q2 q3 hbl
      obtain ⟨w1, hw1⟩ : ∃ x, x = wr.alloc (.cells #[.int .i64 f, .int .i64 t, .slice Y p.length cy] 37) := ⟨_, rfl⟩
      have hb1 : Below wr.heap.size wr w1 := by rw [hw1]; exact (Below.refl _ _).alloc (Nat.le_refl _) _
      have hX : w1.heap[wr.heap.size]? = some (.cells #[.int .i64 f, .int .i64 t, .slice Y p.length cy] 37 (0, 0)) := by rw [hw1]; exact heap_alloc_new wr _
      have x0 := three_cell0 hX
      have x1 := three_cell1 hX
      have x2 := three_cell2 hX
      have HAP := Lib.hid (apart_any (HN.out.below hb1) f t)
      have HW1 := Lib.hid hw1
      have HB1 := Lib.hid hb1
      have HQ3 := Lib.hid q3
      clear hb1 hX q3
      generalize (ms.take i).filter (postB nodes) = F at *
      have HND : Hid (∀ W, Below wr.heap.size wr W → ∃ v' cs', Nt W B b mb n nodes v' (ls ++ F) sp ∧ W.ownsRow B 37 3 v' (ls ++ F).length cs' ∧ Did B b mb v w W ∧ Moves w v v' ∧ Adds w W cs cs') := fun W hW => ⟨v', cs', HN.out.below hW, own_below HO.out hW, HD.out.trans (Did.of_below hW (Nat.le_trans hB HD.out.below.size)), HMV.out, HAD.out.up hW.size⟩
      go_wp2_with fail
      rw [← hw1]
      refine (HAP.out).mono ?_
      rintro e w2 ⟨rfl, hw⟩
      have hw := hw.symm
      subst hw
      clear HAP hw1 q0 q1 q2
      cases hap : apartB nodes f t with
      | false =>
        have HT2 : Hid ((ms.take (i + 1)).filter (postB nodes) = F) := by show _ = _; rw [HT.out]; simp [postB, hap]
        clear hap
        go_wp2_with fail
        go_roundw
        case rel => exact ⟨i + 1, by omega, by go_num, by rw [HT2.out], by rw [HT2.out]; exact HND.out _ HB1.out⟩
        case measure => simp [intOf]; omega
      | true =>
        by_cases hp : (p.length : Int) ≤ 4102
        · have HT2 : Hid ((ms.take (i + 1)).filter (postB nodes) = F ++ [(f, t, p)]) := by show _ = _; rw [HT.out]; simp [postB, hap, hp]
          have HAB := Lib.hid hap
          clear hap
          go_wp2_with fail
          have hbd : Below wr.heap.size wr w1.drew := HB1.out.drew
          have HSZ : Hid (wr.heap.size < w1.drew.heap.size) := by rw [HW1.out]; show _ < (World.alloc _ _).heap.size; simp
          have HC : Hid (Calls Try.prog 31 #[.agg #[.int .i64 f, .int .i64 t, .slice Y p.length cy]] w1.drew fun e w' => ∃ A' c', e = .returned (.agg #[.int .i64 f, .int .i64 t, .slice A' p.length c']) ∧ Fresh w1.drew w' p A' c') := own_any f t Y p.length cy p w1.drew rfl (HQ3.out.below hbd) hbl
          have hX1 : w1.drew.heap[wr.heap.size]? = some (.cells #[.int .i64 f, .int .i64 t, .slice Y p.length cy] 37 (0, 0)) := by rw [HW1.out]; exact heap_alloc_new wr _
          have hb1 : w1.drew.heap[b]? = some (.cells #[.int .i64 nodes, v', .map (some mb)] 67 (0, 0)) := (HN.out.below hbd).blk
          have HK : Hid (∀ W : World, W.heap[wr.heap.size]? = w1.drew.heap[wr.heap.size]? → W.heap[b]? = w1.drew.heap[b]? → W.cell? ⟨b, 1, none⟩ = some v' ∧ W.cell? ⟨wr.heap.size, 0, none⟩ = some (.int .i64 f) ∧ W.cell? ⟨wr.heap.size, 1, none⟩ = some (.int .i64 t) ∧ W.cell? ⟨wr.heap.size, 2, none⟩ = some (.slice Y p.length cy)) := fun W k1 k2 =>
            ⟨three_cell1 (k2.trans hb1), three_cell0 (k1.trans hX1), three_cell1 (k1.trans hX1), three_cell2 (k1.trans hX1)⟩
          have hS1 := HK.out w1.drew rfl rfl
          have HBL : Hid (b < wr.heap.size) := lt_of_block HN.out.blk
          have HAPT := Lib.hid HN.out.apart
          have HOB : Hid (∀ g, v'.ownBlock = some g → g < wr.heap.size) := fun g e => (own_lt HO.out e).2
          have hNl : (ls ++ F).length + 1 ≤ 100001 := by rw [List.length_append]; omega
          have hBr : B ≤ wr.heap.size := Nat.le_trans hB HD.out.below.size
          have HE5 : Hid (∀ A5 c5 w5, Fresh w1.drew w5 p A5 c5 → Below wr.heap.size wr w5 ∧ wr.heap.size < w5.heap.size ∧ w5.heap[wr.heap.size]? = w1.drew.heap[wr.heap.size]? ∧ w5.heap[b]? = w1.drew.heap[b]?) := fun A5 c5 w5 hF => by
            have hs := HSZ.out
            have := HBL.out
            exact ⟨hbd.trans (hF.2.2.2.mono hbd.size), Nat.lt_of_lt_of_le hs hF.2.2.2.size, hF.2.2.2.block _ hs, hF.2.2.2.block _ (by omega)⟩
          have hbB := hb1
          have HB7 : Hid (∀ W : World, W.heap[b]? = w1.drew.heap[b]? → W.cell? ⟨b, 1, none⟩ = some v') := fun W k => three_cell1 (k.trans hbB)
          clear hbd x0 x1 x2 hX1 hb1 hw HIN HT HND HMS HQ3
          have HZ : Hid (∀ W : World, W.heap[b]? = w1.drew.heap[b]? → W.frozen? ⟨b, 1, none⟩ = false) := fun W k => three_free (k := 1) (k.trans hbB)
          obtain ⟨a0, a1, a2, a3⟩ := hS1
          clear hbB
          go_cut [12] from 12 to 41 (fun s12 wx => s12 = .int .i64 (i : Int) ∧ ∃ (A5 A7 : Option Addr) (c5 c7 : Nat) (w5 w7 : World), Fresh w1.drew w5 p A5 c5 ∧ w7.ownsRow B 37 3 (.slice A7 ((ls ++ F).length + 1) c7) ((ls ++ F).length + 1) (cs' ++ [.int .i64 f, .int .i64 t, .slice A5 p.length c5]) ∧ (w5.alloc (.cells #[.int .i64 f, .int .i64 t, .slice A5 p.length c5] 37)).grownBy w7 v'.ownBlock ∧
            ((Value.slice A7 ((ls ++ F).length + 1) c7).ownBlock = v'.ownBlock ∨ (Value.slice A7 ((ls ++ F).length + 1) c7).ownBlock = some (w5.alloc (.cells #[.int .i64 f, .int .i64 t, .slice A5 p.length c5] 37)).heap.size) ∧ wx = w7.setCell ⟨b, 1, none⟩ (.slice A7 ((ls ++ F).length + 1) c7))
          case first =>
            go_region_law (first
              | (go_simp; go_at_call 31; refine (HC.out).mono ?_; rintro e w5 ⟨A5, c5, rfl, hF5⟩; obtain ⟨hb5, hz5, hq5, hr5⟩ := HE5.out A5 c5 w5 hF5; obtain ⟨d0, d1, d2, d3⟩ := HK.out w5 hq5 hr5; have ho6 : (w5.alloc (.cells #[.int .i64 f, .int .i64 t, .slice A5 p.length c5] 37)).ownsRow B 37 3 v' (ls ++ F).length cs' := own_below (own_below HO.out hb5) ((Below.refl _ _).alloc (Nat.le_refl _) _); have hbl6 : b < w5.heap.size := Nat.lt_trans HBL.out hz5; have hr6 := (Below.heap_alloc w5 (.cells #[.int .i64 f, .int .i64 t, .slice A5 p.length c5] 37) _ hbl6).trans hr5; obtain ⟨e0, e1, e2, e3⟩ := HK.out (w5.alloc (.cells #[.int .i64 f, .int .i64 t, .slice A5 p.length c5] 37)) ((Below.heap_alloc _ _ _ hz5).trans hq5) hr6)
              | (refine step_append_el elem48 (by rfl) (.tmp 32) (.tmp 35) (by rfl) B v' (ls ++ F).length cs' (by rfl) ho6 _ 1 1 [.int .i64 f, .int .i64 t, .slice A5 p.length c5] (by rfl) (by rfl) (news_three (heap_alloc_new w5 _)) (by simp [Value.oneCell']) (by unfold maxLen; omega) (by omega) (by simp; omega) ?_; intro A7 c7 w7 ho7 hg7 hv7; have hr7 := (hg7.block b (by simp; omega) (fun e => HAPT.out.1 e.symm)).trans hr6; have hz7 := HZ.out w7 hr7; have f0 := HB7.out w7 hr7))
            all_goals (go_wp2_with fail; go_meet; exact ⟨rfl, A5, A7, c5, c7, w5, w7, hF5, ho7, hg7, hv7, by rw [List.length_append]⟩)
          case rest =>
            obtain ⟨rfl, A5, A7, c5, c7, w5, w7, hF5, ho7, hg7, hv7, hwc⟩ := hcut
            obtain ⟨hb5, hz5, _, _⟩ := HE5.out A5 c5 w5 hF5
            have hb6 : Below wr.heap.size wr (w5.alloc (.cells #[.int .i64 f, .int .i64 t, .slice A5 p.length c5] 37)) := hb5.alloc hb5.size _
            obtain ⟨n1, n2, n3⟩ := HN.out.append HO.out HAB.out hb6 hF5.1 (hF5.2.1.below ((Below.refl _ _).alloc (Nat.le_refl _) _)) (fun a ea => ⟨Nat.le_of_lt (Nat.lt_of_lt_of_le HSZ.out (hF5.2.2.1 a ea).1), by have := (hF5.2.2.1 a ea).2; simp; omega⟩) ho7 hg7 hv7 hwc
            have hmv : Moves w v (.slice A7 ((ls ++ F).length + 1) c7) := fun g hg => by
              rcases hv7 with e | e
              · exact HMV.out g (e.symm.trans hg)
              · rw [e] at hg
                injection hg with hg
                have := hb6.size
                have := HD.out.below.size
                exact .inr (by omega)
            have hsz5 : w5.heap.size ≤ wc.heap.size := by
              have h1 := hg7.size
              have h2 : wc.heap.size = w7.heap.size := by rw [hwc]; exact set_size _ _ _
              simp at h1
              omega
            have hszr : wr.heap.size ≤ wc.heap.size := Nat.le_trans hb5.size hsz5
            have hax : Adds w wc cs (cs' ++ [.int .i64 f, .int .i64 t, .slice A5 p.length c5]) := HAD.out.snoc hszr fun a ea => ⟨Nat.le_trans HD.out.below.size (Nat.le_of_lt (Nat.lt_of_lt_of_le HSZ.out (hF5.2.2.1 a ea).1)), Nat.lt_of_lt_of_le (hF5.2.2.1 a ea).2 hsz5⟩
            have HNX : Hid (∃ v' cs', Nt wc B b mb n nodes v' (ls ++ (F ++ [(f, t, p)])) sp ∧ wc.ownsRow B 37 3 v' (ls ++ (F ++ [(f, t, p)])).length cs' ∧ Did B b mb v w wc ∧ Moves w v v' ∧ Adds w wc cs cs') :=
              ⟨_, _, by rw [← List.append_assoc]; exact n1, by rw [← List.append_assoc, show (ls ++ F ++ [(f, t, p)]).length = (ls ++ F).length + 1 from by rw [List.length_append (bs := [(f, t, p)])]; rfl]; exact n2, HD.out.then HMV.out n3, hmv, hax⟩
            have HLN : Hid (((F ++ [(f, t, p)]).length : Int) = (F.length : Int) + 1) := by show _ = _; simp
            clear hF5 ho7 hg7 hv7 hwc hb5 hz5 hb6 n1 n2 n3 hmv hsz5 hszr hax HC HK HZ HB7 HE5 a0 a1 a2 a3
            go_wp2_with fail
            go_roundw
            case rel => exact ⟨i + 1, by omega, by go_num, by rw [HT2.out, HLN.out], by rw [HT2.out]; exact HNX.out⟩
            case measure => simp [intOf]; omega
        · have HT2 : Hid ((ms.take (i + 1)).filter (postB nodes) = F) := by show _ = _; rw [HT.out]; simp [postB, hp]
          clear hap
          go_wp2_with fail
          go_roundw
          case rel => exact ⟨i + 1, by omega, by go_num, by rw [HT2.out], by rw [HT2.out]; exact HND.out _ HB1.out⟩
          case measure => simp [intOf]; omega
    · have e0 : ¬ (i : Int) < (m : Int) := by omega
      have HF : Hid (ms.take i = ms) := List.take_of_length_le (by rw [← HM.out]; omega)
      rw [HF.out] at HN HO ⊢
      go_wp2_with fail
      go_ret
      exact ⟨rfl, v', cs', HN.out, HO.out, HD.out, HMV.out, HAD.out⟩

theorem post_any (h : Nt w B b mb n nodes v ls sp) {cs : List Value} (ho : w.ownsRow B 37 3 v ls.length cs) {A : Option Addr} {c : Nat} {ms : List L3} (hA : Lts (NB b mb v) w A ms) (hAn : ∀ a, A = some a → ¬ NB b mb v a.block)
    (hms : ∀ l ∈ ms, l.2.2.length ≤ 70368744177664) (hsum : ls.length + ms.length ≤ 100000) :
    Calls Try.prog 21 #[.pointer (some ⟨b, 0, none⟩), .slice A ms.length c] w fun e w' => e = .returned (.int .i64 (ms.filter (postB nodes)).length) ∧ Posted w B b mb n nodes v ls ms sp w' :=
  (post_more h ho hA hAn hms hsum).mono fun _ _ ⟨h1, v', cs', h2, h3, h4, h5, _⟩ => ⟨h1, v', cs', h2, h3, h4, h5⟩
end

end Go.Proofs.Ytalifbajihkenaa
