/-
  The contract of ref05's Write.
-/
import Derived.Test.YtchedflfinkppaaRef10
import Derived.Test.YtchedflfinkppaaQuiet
import Derived.Deep.DeepCutAuto
namespace Go.Proofs.Ytchedflfinkppaa
open Go.RowKit Go.Maps
set_option linter.unusedSimpArgs false
set_option linter.unusedVariables false

def addF (f : RF) (bs : List Int) : RF := ⟨f.name, f.firm, f.loose ++ bs⟩
/-- what ref05's Write answers, and leaves -/
noncomputable def rwriteE (p : Pw) (room : Nat) (L : List RF) (s : ByteArray) (n : Nat) : Int :=
  if p.spent.down = true then 9 else if nameB s = false then 4 else if room < sumR L + n ∨ (findR L s < 0 ∧ 16 ≤ L.length) then 8 else 0
def rwriteL (L : List RF) (s : ByteArray) (bs : List Int) : List RF := match L.findIdx? (fun f => decide (f.name = s)) with | some k => L.set k (addF (L.getD k ⟨s, [], []⟩) bs) | none => insR L s ⟨s, [], bs⟩
def RWrite (w : World) (B : BK) (x : Nat) (p : Pw) (room : Nat) (v : Value) (L : List RF) (s : ByteArray) (bs : List Int) (e : Ending) (w' : World) : Prop :=
  e = .returned (.int .i64 (rwriteE p room L s bs.length)) ∧ ∃ v', RD w' B x p.spent room v' (if rwriteE p room L s bs.length = 0 then rwriteL L s bs else L) ∧ AddC x w w' v v'
theorem insR_at (L : List RF) (s : ByteArray) (f : RF) : (insR L s f).getD (placeR L s) ⟨s, [], []⟩ = f := by
  have h := placeR_le L s
  unfold insR
  rw [List.getD_eq_getElem?_getD, List.getElem?_append_right (by rw [List.length_take]; omega), List.length_take, Nat.min_eq_left h, Nat.sub_self]
  rfl
theorem insR_set (L : List RF) (s : ByteArray) (f f' : RF) : (insR L s f).set (placeR L s) f' = insR L s f' := by
  have h := placeR_le L s
  unfold insR
  rw [List.set_append_right _ _ (by rw [List.length_take]; omega), List.length_take, Nat.min_eq_left h, Nat.sub_self]
  rfl
theorem insR_len (L : List RF) (s : ByteArray) (f : RF) : (insR L s f).length = L.length + 1 := by
  have h := placeR_le L s
  unfold insR
  rw [List.length_append, List.length_cons, List.length_take, List.length_drop]
  omega

/-- where the two ways meet: the file that is written to -/
def WMeet (w : World) (B : BK) (x : Nat) (p : Pw) (room : Nat) (v : Value) (L : List RF) (s : ByteArray) (bs : List Int) (i : Value) (wx : World) : Prop :=
  ∃ (k1 : Nat) (v1 : Value) (L1 : List RF) (W1 : World), W1 = wx ∧ i = .int .i64 (k1 : Int) ∧ k1 < L1.length ∧ L1.length ≤ 1001 ∧ RD W1 B x p.spent room v1 L1 ∧ AddC x w W1 v v1 ∧ (L1.getD k1 ⟨s, [], []⟩).loose.length ≤ 1048576 ∧
    rwriteL L s bs = L1.set k1 (addF (L1.getD k1 ⟨s, [], []⟩) bs)

section
variable (w : World) (B : BK) (x room : Nat) (p : Pw) (v : Value) (L : List RF) (s : ByteArray)

set_option maxRecDepth 100000 in
set_option maxHeartbeats 4000000 in
theorem rwrite_any (S : Nat → Prop) (A : Option Addr) (c : Nat) (bs : List Int) (h : RD w B x p room v L) (hp : p.ok) (hl : L.length ≤ 1000) (hz : sumR L ≤ 1048576) (hs : s.size ≤ 1000) (hro : room ≤ 1048576) (hr : Row S w A (u8s bs)) (hS : ∀ g, S g → g ≠ x ∧ some g ≠ v.ownBlock) (hb : bs.length ≤ 1000000) :
    Calls Try.prog 38 #[.pointer (some ⟨x, 0, none⟩), .string s, .slice A bs.length c] w fun e w' => RWrite w B x p room v L s bs e w' := by
  have HB := Lib.hid (begin_any w B x room p v L h hp)
  have HR := Lib.hid hr
  have HS := Lib.hid hS
  have HKEEP : Hid (∀ W v', AddC x w W v v' → Row S W A (u8s bs)) := fun W v' hC => HR.out.kept hC.size fun g hg s => hC.block g hg (HS.out g s).1 (HS.out g s).2
  clear h hr hS
  obtain ⟨n, hn⟩ : ∃ y, y = bs.length := ⟨_, rfl⟩
  have HN := Lib.hid hn
  rw [← hn] at hb ⊢
  clear hn
  cases hd : p.spent.down with
  | true =>
    have he : p.err = 9 := by unfold Pw.err; rw [hd]; rfl
    have HE : Hid (rwriteE p room L s bs.length = 9) := by show _ = _; unfold rwriteE; rw [if_pos hd]
    rw [he] at HB
    clear hd he
    go_enter Try.func38, Try.ntmps38
    go_wp2_with fail
    refine (HB.out).mono ?_
    rintro e w1 ⟨rfl, R1, O1⟩
    have HF : Hid (RWrite w B x p room v L s bs (.returned (.int .i64 9)) w1) := ⟨by rw [HE.out], v, by rw [HE.out]; exact R1, O1.addC v⟩
    clear R1 O1
    go_wp2_with fail
    go_ret
    exact HF.out
  | false =>
    have he : p.err = 0 := by unfold Pw.err; rw [hd]; rfl
    have hdn : ¬ p.spent.down = true := by rw [hd]; decide
    rw [he] at HB
    have HE0 : Hid (rwriteE p room L s bs.length = if nameB s = false then 4 else if room < sumR L + bs.length ∨ (findR L s < 0 ∧ 16 ≤ L.length) then 8 else 0) := by show _ = _; unfold rwriteE; rw [if_neg hdn]
    clear hd he hdn
    have hnm0 : ∀ W, Calls Try.prog 60 #[.string s] W fun e w' => e = .returned (.bool (nameB s)) ∧ W = w' := fun W => rname_any W s hs
    cases hnb : nameB s with
    | false =>
      rw [hnb] at hnm0 HE0
      have HNM := Lib.hid hnm0
      have HE : Hid (rwriteE p room L s bs.length = 4) := by show _ = _; rw [HE0.out]; rfl
      clear hnb hnm0 HE0
      go_enter Try.func38, Try.ntmps38
      go_wp2_with fail
      refine (HB.out).mono ?_
      rintro e w1 ⟨rfl, R1, O1⟩
      have HF : Hid (RWrite w B x p room v L s bs (.returned (.int .i64 4)) w1) := ⟨by rw [HE.out], v, by rw [HE.out]; exact R1, O1.addC v⟩
      clear R1 O1
      go_wp2_with fail
      refine (HNM.out _).mono ?_
      rintro e w3 ⟨rfl, rfl⟩
      go_wp2_with fail
      go_ret
      exact HF.out
    | true =>
      rw [hnb] at hnm0 HE0
      have HNM := Lib.hid hnm0
      have HE1 : Hid (rwriteE p room L s bs.length = if room < sumR L + bs.length ∨ (findR L s < 0 ∧ 16 ≤ L.length) then 8 else 0) := by show _ = _; rw [HE0.out, if_neg (by decide)]
      clear hnb hnm0 HE0
      obtain ⟨fr, hfr⟩ : ∃ y, y = findR L s := ⟨_, rfl⟩
      have HFR := Lib.hid hfr
      have hlow : fr = -1 ∨ 0 ≤ fr := by rw [hfr]; exact findR_low L s
      clear hfr
      go_enter Try.func38, Try.ntmps38
      go_wp2_with fail
      refine (HB.out).mono ?_
      rintro e w1 ⟨rfl, R1, O1⟩
      have hfi := rfind_any w1 B x room p.spent v L s R1 hl
      rw [← HFR.out] at hfi
      have HFI := Lib.hid hfi
      have HR1 := Lib.hid R1
      have HC1 := Lib.hid (O1.addC v)
      clear R1 O1 HB hfi
      go_wp2_with fail
      refine (HNM.out _).mono ?_
      rintro e w1' ⟨rfl, rfl⟩
      go_wp2_with fail
      refine (HFI.out).mono ?_
      rintro e w2 ⟨rfl, hb2⟩
      have HR2 := Lib.hid (HR1.out.below hb2)
      have HC2 := Lib.hid (HC1.out.trans (AddC.below hb2 v))
      clear hb2 HFI HR1 HC1
      obtain ⟨tot, htot⟩ : ∃ y, y = sumR L := ⟨_, rfl⟩
      have hzt : tot ≤ 1048576 := by omega
      have HTOT := Lib.hid htot
      have HUS : Hid (∀ W, Below w2.heap.size w2 W → Calls Try.prog 39 #[.pointer (some ⟨x, 0, none⟩)] W fun e w' => e = .returned (.int .i64 (tot : Int)) ∧ Below w2.heap.size w2 w') := fun W hW => by
        rw [HTOT.out]
        refine (rused_any W B x room p.spent v L (HR2.out.below hW) hl hz).mono ?_
        rintro e w' ⟨rfl, hb'⟩
        exact ⟨rfl, hW.trans (hb'.mono hW.size)⟩
      obtain ⟨A2, c2, hv2, hc2, _⟩ := HR2.out.files
      have HV2 := Lib.hid hv2
      have HCE : Hid (∀ W, Below w2.heap.size w2 W → W.cell? ⟨x, 0, none⟩ = some (.int .i64 (room : Int)) ∧ W.cell? ⟨x, 1, none⟩ = some (.slice A2 L.length c2)) := fun W hW => by
        have r := (HR2.out.below hW).cells
        exact ⟨r.1, by rw [r.2.1, HV2.out]⟩
      have HBAD : Hid ((room < tot + n ∨ (fr < 0 ∧ 16 ≤ L.length)) → ∀ W, Below w2.heap.size w2 W → RWrite w B x p room v L s bs (.returned (.int .i64 8)) W) := fun hb W hW => by
        have h1 := HE1.out
        rw [if_pos (by rw [← HTOT.out, ← HN.out, ← HFR.out]; exact hb)] at h1
        exact ⟨by rw [h1], v, by rw [h1]; exact HR2.out.below hW, HC2.out.trans (AddC.below hW v)⟩
      have isum : IntKind.i64.wrap ((tot : Int) + (n : Int)) = (tot : Int) + (n : Int) := by rw [IntKind.wrap_i64]; omega
      clear htot hv2
      obtain ⟨ln, hln⟩ : ∃ y, y = L.length := ⟨_, rfl⟩
      rw [← hln] at HBAD HCE
      have HLN := Lib.hid hln
      have hll : ln ≤ 1000 := by omega
      clear hln
      obtain ⟨z0, z1⟩ := HCE.out w2 (Below.refl _ _)
      by_cases hbad : room < tot + n ∨ (fr < 0 ∧ 16 ≤ ln)
      · have HBD := Lib.hid (HBAD.out hbad)
        clear HBAD
        have hdisj : (decide ((room : Int) < (tot : Int) + (n : Int)) = true) ∨ (decide ((room : Int) < (tot : Int) + (n : Int)) = false ∧ decide (fr < 0) = true ∧ decide ((16 : Int) ≤ (ln : Int)) = true) := by
          by_cases h1 : room < tot + n
          · left; simp only [decide_eq_true_eq]; omega
          · right
            rcases hbad with h2 | ⟨h2, h3⟩
            · exact absurd h2 h1
            · exact ⟨by simp only [decide_eq_false_iff_not]; omega, by simpa using h2, by simp only [decide_eq_true_eq]; omega⟩
        clear hbad
        rcases hdisj with d1 | ⟨d1, d2, d3⟩
        all_goals
          go_wp2_with fail
          refine region_class (fun W => Below w2.heap.size w2 W) (by kernel_rfl) (by kernel_rfl) (Below.refl _ _).drew ?_
          repeat (first
            | go_big_quiet_skip
            | (go_big_quiet_want
               first
                | (go_big_quiet_op; go_big_quiet_on)
                | (refine quiet_call 39 _ _ rfl (args := #[.pointer (some ⟨x, 0, none⟩)]) (fun W => by go_simp; done) (fun W hW => HUS.out W hW) ?_; (try simp only [Act.put, List.setIfInBounds_toArray, List.set_cons_zero, List.set_cons_succ]); go_big_quiet_on)
                | (refine quiet_run (v := ?_) ?_ ?_
                   rotate_left
                   · (intro W hW; have z := HCE.out W hW; go_simp; first | done | with_reducible rfl)
                   (try simp only [Act.put, List.setIfInBounds_toArray, List.set_cons_zero, List.set_cons_succ]); go_big_quiet_on)))
          refine wpQuiet_nil ?_
          intro w3 hw3
          have HF3 := Lib.hid (HBD.out w3 hw3)
          clear hw3
          go_wp2_with fail
          go_ret
          exact HF3.out
      · have HE : Hid (rwriteE p room L s bs.length = 0) := by
          show _ = _
          rw [HE1.out, if_neg (by rw [← HTOT.out, ← HN.out, ← HFR.out, ← HLN.out]; exact hbad)]
        have d1 : decide ((room : Int) < (tot : Int) + (n : Int)) = false := by simp only [decide_eq_false_iff_not]; omega
        have hdisj : decide (fr < 0) = false ∨ (decide (fr < 0) = true ∧ decide ((16 : Int) ≤ (ln : Int)) = false) := by
          by_cases h1 : fr < 0
          · right; exact ⟨by simpa using h1, by simp only [decide_eq_false_iff_not]; omega⟩
          · left; simpa using h1
        clear HBAD HE1 hbad
        rcases hdisj with d2 | ⟨d2, d3⟩
        · go_wp2_with fail
          refine region_class (fun W => Below w2.heap.size w2 W) (by kernel_rfl) (by kernel_rfl) (Below.refl _ _).drew ?_
          repeat (first
            | go_big_quiet_skip
            | (go_big_quiet_want
               first
                | (go_big_quiet_op; go_big_quiet_on)
                | (refine quiet_call 39 _ _ rfl (args := #[.pointer (some ⟨x, 0, none⟩)]) (fun W => by go_simp; done) (fun W hW => HUS.out W hW) ?_; (try simp only [Act.put, List.setIfInBounds_toArray, List.set_cons_zero, List.set_cons_succ]); go_big_quiet_on)
                | (refine quiet_run (v := ?_) ?_ ?_
                   rotate_left
                   · (intro W hW; have z := HCE.out W hW; go_simp; first | done | with_reducible rfl)
                   (try simp only [Act.put, List.setIfInBounds_toArray, List.set_cons_zero, List.set_cons_succ]); go_big_quiet_on)))
          refine wpQuiet_nil ?_
          intro w3 hw3
          have HR3 := Lib.hid (HR2.out.below hw3)
          have HC3 := Lib.hid (HC2.out.trans (AddC.below hw3 v))
          clear hw3 z0 z1
          go_upto_region 9 with fail
          have HD2 := Lib.hid d2
          go_cut [8, 45] (fun i b wx => i = .int .i64 fr ∧ b = .bool (decide (fr < 0)) ∧ w3 = wx)
          case first =>
            go_wp2_with fail
            go_meet
            refine ⟨rfl, ?_, rfl⟩
            first | rfl | (simp only [HD2.out]; done) | (simp; have := HD2.out; simp at this; first | assumption | omega)
          case rest =>
            obtain ⟨rfl, hb45, rfl⟩ := hcut
            go_wp2_with fail
            rw [HD2.out] at hb45
            go_cut [8] (fun i wx => WMeet w B x p room v L s bs i wx)
            case first =>
              subst hb45
              obtain ⟨k, hk, hfk, hidx⟩ := findR_some (show 0 ≤ findR L s by rw [← HFR.out]; have : ¬ fr < 0 := by simpa using HD2.out
                                                                             omega)
              obtain rfl : fr = (k : Int) := by rw [HFR.out]; exact hfk
              have HM : Hid (WMeet w B x p room v L s bs (.int .i64 (k : Int)) w3) := ⟨k, v, L, w3, rfl, rfl, hk, by omega, HR3.out, HC3.out, by rw [getD_at hk]; have := size_at hk; omega, by unfold rwriteL; rw [hidx]⟩
              have i2 : ¬ (k : Int) < 0 := by omega
              clear d1 d2 HD2 hidx hfk HFR
              go_wp2_with fail
              go_meet
              exact HM.out
            case rest =>
              obtain ⟨k1, v1, L1, W0, rfl, rfl, hk1, hl1, R1, C1, hz1, hWL⟩ := hcut
              obtain ⟨g, cc, hv1, hBg, hgx, hgl, _⟩ := R1.addr hk1
              have hvg : v1.ownBlock = some g := by rw [hv1]; rfl
              obtain ⟨F, cf, G, cg, hcf, hcg, hfc⟩ := file_cells R1 hk1 hvg
              rw [getD_at hk1] at hz1 hWL
              have HWL := Lib.hid hWL
              have HR1' := Lib.hid R1
              have HC1 := Lib.hid C1
              have HVG := Lib.hid hvg
              have HFC := Lib.hid hfc
              obtain ⟨lg, hlg⟩ : ∃ y, y = L1[k1].loose.length := ⟨_, rfl⟩
              rw [← hlg] at hz1 hcg
              have HLG := Lib.hid hlg
              have HCL : Hid (∀ W, Below W0.heap.size W0 W → W.cell? ⟨x, 1, none⟩ = some (.slice (some ⟨g, 0, none⟩) L1.length cc) ∧ W.cell? ⟨g, k1 * 3 + 2, none⟩ = some (.slice G lg cg) ∧ W.frozen? ⟨g, k1 * 3 + 2, none⟩ = false) := fun W hW => by
                obtain ⟨_, m2, _, m2f, _, _⟩ := HFC.out W hW
                rw [← HLG.out] at m2
                exact ⟨by rw [(HR1'.out.below hW).cells.2.1, hv1], m2, m2f⟩
              have HCP : Hid (Calls Try.prog 57 #[.slice G lg cg] W0.drew fun e w' => ∃ A c, e = .returned (.slice A lg c) ∧ w'.ownsRow W0.heap.size 5 1 (.slice A lg c) lg (u8s L1[k1].loose) ∧ Below W0.heap.size W0 w') := by
                obtain ⟨_, _, _, _, _, rG⟩ := HFC.out _ ((Below.refl _ _).drew)
                have hcp := rcopy_any (fun q => B.K q ∧ q ≠ x ∧ some q ≠ v1.ownBlock) G cg L1[k1].loose W0.drew rG (by rw [← HLG.out]; omega)
                unfold GivesO at hcp
                rw [← HLG.out] at hcp
                exact hcp.mono fun e w' ⟨A, c, e1, e2, e3⟩ => ⟨A, c, e1, e2, ⟨e3.os, e3.tape, e3.output, e3.size, e3.block⟩⟩
              have HPR : Hid (∀ W, Below W0.heap.size W0 W → Row (fun _ => True) W A (u8s bs)) := fun W hW => ((HKEEP.out W0 v1 HC1.out).below hW).any
              have HLB : Hid ((u8s bs).length = n) := by show _ = _; rw [u8s_len, HN.out]
              have HFIN : Hid (∀ w9 A9 c9, Below W0.heap.size W0 w9 → w9.ownsRow W0.heap.size 5 1 (.slice A9 (lg + n) c9) (lg + n) (u8s L1[k1].loose ++ u8s bs) → RWrite w B x p room v L s bs (.returned (.int .i64 0)) (w9.setCell ⟨g, k1 * 3 + 2, none⟩ (.slice A9 (lg + n) c9))) := fun w9 A9 c9 hb9 ho9 => by
                rw [show u8s L1[k1].loose ++ u8s bs = u8s (L1[k1].loose ++ bs) by simp [u8s]] at ho9
                obtain ⟨c1, c2', c3⟩ := own_new HR1'.out HVG.out ho9
                obtain ⟨q1, q2⟩ := (HR1'.out.below hb9).putL hk1 HVG.out (loose := L1[k1].loose ++ bs) (G := A9) (cg := c9) (by omega) c3
                rw [← c2'] at q1 q2
                refine ⟨by rw [HE.out], v1, ?_, (HC1.out.trans (AddC.below hb9 v1)).trans (AddC.only q2 HVG.out)⟩
                rw [HE.out, if_pos rfl, HWL.out]
                exact q1
              have i1 : (k1 : Int) < (L1.length : Int) := by omega
              have i2 : ¬ (k1 : Int) < 0 := by omega
              have hbd : lg + n ≤ 3000000 := by omega
              have H1B := Lib.hid (u8s_one bs)
              clear hWL R1 C1 hvg hfc hlg hv1 hcf hcg hz1 d1 d2 HD2 hb45
              go_wp2_with fail
              refine wp_region_pop (S := fun w' => w'.cell? ⟨x, 1, none⟩ = some (.slice (some ⟨g, 0, none⟩) L1.length cc) ∧ w'.cell? ⟨g, k1 * 3 + 2, none⟩ = some (.slice G lg cg) ∧ w'.frozen? ⟨g, k1 * 3 + 2, none⟩ = false) (by kernel_rfl) (by simp only [List.pop_toArray, List.dropLast]; rfl) (by rfl) (by kernel_rfl) (HCL.out _ ((Below.refl _ _).drew)) (fun hHeld => ?_)
              refine wpAnyH_take (i := 0) (v := ?_) rfl (by kernel_rfl) (by kernel_rfl) (by kernel_rfl) (fun _ _ _ h => h) (Or.inl ⟨by rfl, ?_⟩) hHeld ?_
              rotate_left
              · intro w hSw
                try dsimp only at hSw
                go_simp
                try with_reducible rfl
              try simp only [Act.put, List.setIfInBounds_toArray, List.set_cons_zero, List.set_cons_succ]
              refine wpAnyH_take (i := 1) (v := ?_) rfl (by kernel_rfl) (by kernel_rfl) (by kernel_rfl) (fun _ _ _ h => h) (Or.inl ⟨by rfl, ?_⟩) hHeld ?_
              rotate_left
              · intro w hSw
                try dsimp only at hSw
                go_simp
                try with_reducible rfl
              try simp only [Act.put, List.setIfInBounds_toArray, List.set_cons_zero, List.set_cons_succ]
              refine wpAnyH_take (i := 2) (v := ?_) rfl (by kernel_rfl) (by kernel_rfl) (by kernel_rfl) (fun _ _ _ h => h) (Or.inl ⟨by rfl, ?_⟩) hHeld ?_
              rotate_left
              · intro w hSw
                try dsimp only at hSw
                go_simp
                try with_reducible rfl
              try simp only [Act.put, List.setIfInBounds_toArray, List.set_cons_zero, List.set_cons_succ]
              refine wpAnyH_take (i := 3) (v := ?_) rfl (by kernel_rfl) (by kernel_rfl) (by kernel_rfl) (fun _ _ _ h => h) (Or.inl ⟨by rfl, ?_⟩) hHeld ?_
              rotate_left
              · intro w hSw
                try dsimp only at hSw
                go_simp
                try with_reducible rfl
              try simp only [Act.put, List.setIfInBounds_toArray, List.set_cons_zero, List.set_cons_succ]
              refine wpAnyH_take (i := 4) (v := ?_) rfl (by kernel_rfl) (by kernel_rfl) (by kernel_rfl) (fun _ _ _ h => h) (Or.inl ⟨by rfl, ?_⟩) hHeld ?_
              rotate_left
              · intro w hSw
                try dsimp only at hSw
                go_simp
                try with_reducible rfl
              try simp only [Act.put, List.setIfInBounds_toArray, List.set_cons_zero, List.set_cons_succ]
              refine wpAnyH_take (i := 5) (v := ?_) rfl (by kernel_rfl) (by kernel_rfl) (by kernel_rfl) (fun _ _ _ h => h) (Or.inl ⟨by rfl, ?_⟩) hHeld ?_
              rotate_left
              · intro w hSw
                try dsimp only at hSw
                go_simp
                try with_reducible rfl
              try simp only [Act.put, List.setIfInBounds_toArray, List.set_cons_zero, List.set_cons_succ]
              refine wpAnyH_take (i := 6) (v := ?_) rfl (by kernel_rfl) (by kernel_rfl) (by kernel_rfl) (fun _ _ _ h => h) (Or.inl ⟨by rfl, ?_⟩) hHeld ?_
              rotate_left
              · intro w hSw
                try dsimp only at hSw
                go_simp
                try with_reducible rfl
              try simp only [Act.put, List.setIfInBounds_toArray, List.set_cons_zero, List.set_cons_succ]
              refine wpAnyH_take (i := 7) (v := ?_) rfl (by kernel_rfl) (by kernel_rfl) (by kernel_rfl) (fun _ _ _ h => h) (Or.inl ⟨by rfl, ?_⟩) hHeld ?_
              rotate_left
              · intro w hSw
                try dsimp only at hSw
                go_simp
                try with_reducible rfl
              try simp only [Act.put, List.setIfInBounds_toArray, List.set_cons_zero, List.set_cons_succ]
              refine wpAnyH_take (i := 8) (v := ?_) rfl (by kernel_rfl) (by kernel_rfl) (by kernel_rfl) (fun _ _ _ h => h) (Or.inl ⟨by rfl, ?_⟩) hHeld ?_
              rotate_left
              · intro w hSw
                try dsimp only at hSw
                go_simp
                try with_reducible rfl
              try simp only [Act.put, List.setIfInBounds_toArray, List.set_cons_zero, List.set_cons_succ]
              refine wpAnyH_take (i := 9) (v := ?_) rfl (by kernel_rfl) (by kernel_rfl) (by kernel_rfl) (fun _ _ _ h => h) (Or.inl ⟨by rfl, ?_⟩) hHeld ?_
              rotate_left
              · intro w hSw
                try dsimp only at hSw
                go_simp
                try with_reducible rfl
              try simp only [Act.put, List.setIfInBounds_toArray, List.set_cons_zero, List.set_cons_succ]
              refine wpAnyH_take (i := 10) (v := ?_) rfl (by kernel_rfl) (by kernel_rfl) (by kernel_rfl) (fun _ _ _ h => h) (Or.inl ⟨by rfl, ?_⟩) hHeld ?_
              rotate_left
              · intro w hSw
                try dsimp only at hSw
                go_simp
                try with_reducible rfl
              try simp only [Act.put, List.setIfInBounds_toArray, List.set_cons_zero, List.set_cons_succ]
              refine wpAnyH_take (i := 11) (v := ?_) rfl (by kernel_rfl) (by kernel_rfl) (by kernel_rfl) (fun _ _ _ h => h) (Or.inl ⟨by rfl, ?_⟩) hHeld ?_
              rotate_left
              · intro w hSw
                try dsimp only at hSw
                go_simp
                try with_reducible rfl
              try simp only [Act.put, List.setIfInBounds_toArray, List.set_cons_zero, List.set_cons_succ]
              refine wpAnyH_take (i := 12) (v := ?_) rfl (by kernel_rfl) (by kernel_rfl) (by kernel_rfl) (fun _ _ _ h => h) (Or.inl ⟨by rfl, ?_⟩) hHeld ?_
              rotate_left
              · intro w hSw
                try dsimp only at hSw
                go_simp
                try with_reducible rfl
              try simp only [Act.put, List.setIfInBounds_toArray, List.set_cons_zero, List.set_cons_succ]
              refine wpAnyH_take (i := 14) (v := ?_) rfl (by kernel_rfl) (by kernel_rfl) (by kernel_rfl) (fun _ _ _ h => h) (Or.inl ⟨by rfl, ?_⟩) hHeld ?_
              rotate_left
              · intro w hSw
                try dsimp only at hSw
                go_simp
                try with_reducible rfl
              try simp only [Act.put, List.setIfInBounds_toArray, List.set_cons_zero, List.set_cons_succ]
              refine wpAnyH_ready (rs := [13]) (by kernel_rfl) (by simp) ?_
              refine AllReadyH.cons rfl (fun K hK => ?_) AllReadyH.nil
              go_simp
              go_at_call 57
              refine (HCP.out).mono ?_
              rintro e w7 ⟨A7, c7, rfl, ho7, hb7⟩
              refine hK.out _ _ (HCL.out _ hb7) (fun hHeld => ?_)
              clear hK K
              try simp only [Act.put, List.setIfInBounds_toArray, List.set_cons_zero, List.set_cons_succ]
              refine wpAnyH_ready (rs := [15]) (by kernel_rfl) (by simp) ?_
              refine AllReadyH.cons rfl (fun K hK => ?_) AllReadyH.nil
              refine step_append_bytes (by rfl) (.tmp 97) (.tmp 98) (by rfl) W0.heap.size (.slice A7 lg c7) lg (u8s L1[k1].loose) (by rfl) ho7 (fun _ => True) A n c (u8s bs) (by rfl) HLB.out (HPR.out _ hb7) H1B.out hbd hb7.size ?_
              intro A9 c9 w9 ho9 hg9 ha9
              have hb9 : Below W0.heap.size W0 w9 := hb7.grown hg9 hb7.size (fun g e => (own_lt ho7 e).1)
              refine hK.out _ _ (HCL.out _ hb9) (fun hHeld => ?_)
              clear hK K
              try simp only [Act.put, List.setIfInBounds_toArray, List.set_cons_zero, List.set_cons_succ]
              refine wpAnyH_take (i := 16) (v := ?_) rfl (by kernel_rfl) (by kernel_rfl) (by kernel_rfl) (fun _ _ _ h => h) (Or.inl ⟨by rfl, ?_⟩) hHeld ?_
              rotate_left
              · intro w hSw
                try dsimp only at hSw
                go_simp
                try with_reducible rfl
              try simp only [Act.put, List.setIfInBounds_toArray, List.set_cons_zero, List.set_cons_succ]
              refine wpAnyH_take (i := 17) (v := ?_) rfl (by kernel_rfl) (by kernel_rfl) (by kernel_rfl) (fun _ _ _ h => h) (Or.inl ⟨by rfl, ?_⟩) hHeld ?_
              rotate_left
              · intro w hSw
                try dsimp only at hSw
                go_simp
                try with_reducible rfl
              try simp only [Act.put, List.setIfInBounds_toArray, List.set_cons_zero, List.set_cons_succ]
              have HG9 := Lib.hid (HFIN.out w9 A9 c9 hb9 ho9)
              obtain ⟨y0, y1, y2⟩ := HCL.out _ hb9
              refine wpAnyH_done (by kernel_rfl) ?_ _
              clear ho9 hg9 ha9 hb9 ho7 hb7 hHeld
              unfold LastQ
              go_simp
              go_wp2_with fail
              go_ret
              exact HG9.out
        · go_wp2_with fail
          refine region_class (fun W => Below w2.heap.size w2 W) (by kernel_rfl) (by kernel_rfl) (Below.refl _ _).drew ?_
          repeat (first
            | go_big_quiet_skip
            | (go_big_quiet_want
               first
                | (go_big_quiet_op; go_big_quiet_on)
                | (refine quiet_call 39 _ _ rfl (args := #[.pointer (some ⟨x, 0, none⟩)]) (fun W => by go_simp; done) (fun W hW => HUS.out W hW) ?_; (try simp only [Act.put, List.setIfInBounds_toArray, List.set_cons_zero, List.set_cons_succ]); go_big_quiet_on)
                | (refine quiet_run (v := ?_) ?_ ?_
                   rotate_left
                   · (intro W hW; have z := HCE.out W hW; go_simp; first | done | with_reducible rfl)
                   (try simp only [Act.put, List.setIfInBounds_toArray, List.set_cons_zero, List.set_cons_succ]); go_big_quiet_on)))
          refine wpQuiet_nil ?_
          intro w3 hw3
          have HR3 := Lib.hid (HR2.out.below hw3)
          have HC3 := Lib.hid (HC2.out.trans (AddC.below hw3 v))
          clear hw3 z0 z1
          go_upto_region 9 with fail
          have HD2 := Lib.hid d2
          go_cut [8, 45] (fun i b wx => i = .int .i64 fr ∧ b = .bool (decide (fr < 0)) ∧ w3 = wx)
          case first =>
            go_wp2_with fail
            go_meet
            refine ⟨rfl, ?_, rfl⟩
            first | rfl | (simp only [HD2.out]; done) | (simp; have := HD2.out; simp at this; first | assumption | omega)
          case rest =>
            obtain ⟨rfl, hb45, rfl⟩ := hcut
            go_wp2_with fail
            rw [HD2.out] at hb45
            go_cut [8] (fun i wx => WMeet w B x p room v L s bs i wx)
            case first =>
              subst hb45
              have hfr : fr = -1 := by
                have : fr < 0 := by simpa using HD2.out
                omega
              have HNO : Hid (rwriteL L s bs = insR L s ⟨s, [], bs⟩) := by
                show _ = _
                unfold rwriteL
                rw [findR_idx (show findR L s = -1 by rw [← HFR.out]; exact hfr)]
              clear d1 d2 d3 HD2 HFR hlow
              subst hfr
              obtain ⟨A3, c3, hv3, hc3, hFl3⟩ := HR3.out.files
              have cx5 := HR3.out.cells.2.1
              rw [hv3] at cx5
              have HFL := Lib.hid hFl3
              clear hFl3 hv3 HUS HCE HR2 HC2
              go_wp2_with fail
              go_loopw [8, 10, 51] (fun a _ i wr => ∃ j : Nat, j ≤ L.length ∧ i = .int .i64 j ∧ a = .int .i64 (placeR (L.take j) s : Nat) ∧ Below w3.heap.size w3 wr) (fun _ _ i _ => L.length - (intOf i).toNat)
              case atStart => exact ⟨0, Nat.zero_le _, rfl, rfl, Below.refl _ _⟩
              case round =>
                obtain ⟨j, hj, rfl, rfl, hbr⟩ := hrel
                by_cases hlt : j < L.length
                · have i3 : (j : Int) < (L.length : Int) := by omega
                  obtain ⟨ad3, rfl, _, _, m0, ⟨F', cf', m1, _, _⟩, G', cg', m2, _, _⟩ := (HFL.out.below hbr) j hlt
                  have HBR := Lib.hid hbr
                  have hpl := placeR_take_le L s j
                  have HYES := Lib.hid (placeR_yes hlt (s := s))
                  have HNOO := Lib.hid (placeR_no hlt (s := s))
                  generalize L[j].firm.length = lf' at *
                  generalize L[j].loose.length = lg' at *
                  generalize L[j].name = nm' at *
                  generalize placeR (L.take j) s = pl at *
                  clear hbr
                  cases hlss : Op.bytesLess nm'.toList s.toList with
                  | true =>
                    have HP := Lib.hid (HYES.out hlss)
                    clear HYES HNOO
                    go_wp2_with fail
                    go_roundw
                    case rel => exact ⟨j + 1, by omega, by go_num, by rw [HP.out]; go_num, HBR.out.alloc HBR.out.size _⟩
                    case measure => simp [intOf]; omega
                  | false =>
                    have HP := Lib.hid (HNOO.out hlss)
                    clear HYES HNOO
                    go_wp2_with fail
                    go_roundw
                    case rel => exact ⟨j + 1, by omega, by go_num, by rw [HP.out], HBR.out.alloc HBR.out.size _⟩
                    case measure => simp [intOf]; omega
                · have i3 : ¬ (j : Int) < (L.length : Int) := by omega
                  rw [List.take_of_length_le (by omega)]
                  obtain ⟨W0, rfl⟩ : ∃ y, y = wr := ⟨wr, rfl⟩
                  have HR0 := Lib.hid (HR3.out.below hbr)
                  have HC0 := Lib.hid (HC3.out.trans (AddC.below hbr v))
                  have hpl := placeR_le L s
                  obtain ⟨at', hat⟩ : ∃ y, y = placeR L s := ⟨_, rfl⟩
                  rw [← hat] at hpl ⊢
                  have HAT := Lib.hid hat
                  obtain ⟨cs, ho0, hc0⟩ := HR0.out.row
                  have HCC := Lib.hid hc0
                  have hat1 : at' ≤ 1000000 := by omega
                  have hat2 : at' ≤ 1000 := by omega
                  have HMEET : Hid (∀ w9 v9, RD w9 B x p.spent room v9 (insR L s ⟨s, [], []⟩) → AddC x w w9 v v9 → WMeet w B x p room v L s bs (.int .i64 (at' : Int)) w9) := fun w9 v9 r9 c9 =>
                    ⟨at', v9, _, w9, rfl, rfl, by rw [insR_len]; omega, by rw [insR_len]; omega, r9, c9, by rw [HAT.out, insR_at]; exact Nat.zero_le _, by rw [HNO.out, HAT.out, insR_at, insR_set]; rfl⟩
                  clear hat hbr HFL HR3 HC3 cx5
                  go_wp2_with fail
                  rcases ho0.2 with ⟨e9, e8⟩ | ⟨g, c9, cur, e9, hBg, hh, hnc, _⟩
                  · obtain rfl : at' = 0 := by omega
                    have HCL : Hid (∀ W, Below W0.heap.size W0 W → W.cell? ⟨x, 1, none⟩ = some (.slice none 0 0) ∧ True ∧ W.frozen? ⟨x, 1, none⟩ = false) := fun W hW => by
                      have r := HR0.out.below hW
                      exact ⟨by rw [r.cells.2.1, e9], trivial, r.free 1⟩
                    have HFIN : Hid (∀ w9 A9 c9, Below W0.heap.size W0 w9 → w9.ownsRow W0.heap.size 82 3 (.slice A9 (0 + 1 + 0) c9) (0 + 1 + 0) ([] ++ [.string s, .slice none 0 0, .slice none 0 0] ++ []) → WMeet w B x p room v L s bs (.int .i64 ((0 : Nat) : Int)) (w9.setCell ⟨x, 1, none⟩ (.slice A9 (0 + 1 + 0) c9))) := fun w9 A9 c9 hb9 ho9 => by
                      have hcs : cs = [] := List.eq_nil_of_length_eq_zero (by have := HCC.out.1; omega)
                      obtain ⟨z1, z2⟩ := HR0.out.ins (n9 := 0 + 1 + 0) (A9 := A9) (c9 := c9) (f := ⟨s, [], []⟩) (k := 0) (F := none) (cf := 0) (G := none) (cg := 0) HCC.out (Nat.le_refl _) (Nat.le_refl _) (by simpa [u8s] using Row.nil) (by simpa [u8s] using Row.nil) hb9 (by omega) (by subst hcs; exact ho9) (Nat.zero_le _)
                      refine HMEET.out _ _ ?_ (HC0.out.trans z2)
                      rw [insR, ← HAT.out]
                      exact z1
                    clear ho0 hc0 e9 e8 hpl i3
                    have HBD1 : Hid (0 + 1 ≤ 1000000) := by show _ ≤ _; omega
                    have HBD2 : Hid (0 + 1 + 0 ≤ 1000000) := by show _ ≤ _; omega
                    have HOa : Hid ((W0.drew.alloc (.cells #[] 82)).ownsRow W0.heap.size 82 3 (.slice (some ⟨W0.heap.size, 0, none⟩) 0 0) 0 []) := World.ownsRow_lit W0.drew #[] 0 (Nat.le_refl _) (by decide) rfl
                    have HOb : Hid (((W0.drew.alloc (.cells #[] 82)).alloc (.cells #[.string s, .slice none 0 0, .slice none 0 0] 82)).ownsRow W0.heap.size 82 3 (.slice (some ⟨W0.heap.size, 0, none⟩) 0 0) 0 []) := HOa.out.alloc _
                    have HOc : Hid (((W0.drew.alloc (.cells #[.string s, .slice none 0 0, .slice none 0 0] 82)).alloc (.cells #[] 82)).ownsRow W0.heap.size 82 3 (.slice (some ⟨W0.heap.size + 1, 0, none⟩) 0 0) 0 []) := by
                      have := World.ownsRow_lit (base := W0.heap.size) (e := 82) (size := 3) (W0.drew.alloc (.cells #[.string s, .slice none 0 0, .slice none 0 0] 82)) #[] 0 (by simp) (by decide) rfl
                      have hz : (W0.drew.alloc (.cells #[.string s, .slice none 0 0, .slice none 0 0] 82)).heap.size = W0.heap.size + 1 := by simp
                      rw [hz] at this
                      exact this
                    have HBA : Hid (Below W0.heap.size W0 (W0.drew.alloc (.cells #[] 82))) := ((Below.refl _ _).drew).alloc (Nat.le_refl _) _
                    have HBB : Hid (Below W0.heap.size W0 ((W0.drew.alloc (.cells #[] 82)).alloc (.cells #[.string s, .slice none 0 0, .slice none 0 0] 82))) := HBA.out.alloc HBA.out.size _
                    have HBD : Hid (Below W0.heap.size W0 (W0.drew.alloc (.cells #[.string s, .slice none 0 0, .slice none 0 0] 82))) := ((Below.refl _ _).drew).alloc (Nat.le_refl _) _
                    have HBC : Hid (Below W0.heap.size W0 ((W0.drew.alloc (.cells #[.string s, .slice none 0 0, .slice none 0 0] 82)).alloc (.cells #[] 82))) := HBD.out.alloc HBD.out.size _
                    have HOO : Hid (((W0.drew.alloc (.cells #[] 82)).alloc (.cells #[.string s, .slice none 0 0, .slice none 0 0] 82)).heap[W0.heap.size + 1]? = some (.cells #[.string s, .slice none 0 0, .slice none 0 0] 82 (0, 0))) := by
                      have := heap_alloc_new (W0.drew.alloc (.cells #[] 82)) (.cells #[.string s, .slice none 0 0, .slice none 0 0] 82)
                      exact (by simpa using this : ((W0.drew.alloc (.cells #[] 82)).alloc (.cells #[.string s, .slice none 0 0, .slice none 0 0] 82)).heap[W0.heap.size + 1]? = some (.cells #[.string s, .slice none 0 0, .slice none 0 0] 82 (0, 0)))
                    have HOX : Hid (((W0.drew.alloc (.cells #[.string s, .slice none 0 0, .slice none 0 0] 82)).alloc (.cells #[] 82)).heap[W0.heap.size]? = some (.cells #[.string s, .slice none 0 0, .slice none 0 0] 82 (0, 0))) := by
                      show _ = _
                      rw [Below.heap_alloc _ _ _ (by simp)]
                      exact heap_alloc_new W0.drew _
                    refine wp_region_pop (S := fun w' => w'.cell? ⟨x, 1, none⟩ = some (.slice none 0 0) ∧ True ∧ w'.frozen? ⟨x, 1, none⟩ = false) (by kernel_rfl) (by simp only [List.pop_toArray, List.dropLast]; rfl) (by rfl) (by kernel_rfl) (HCL.out _ ((Below.refl _ _).drew)) (fun hHeld => ?_)
                    refine wpAnyH_take (i := 0) (v := ?_) rfl (by kernel_rfl) (by kernel_rfl) (by kernel_rfl) (fun _ _ _ h => h) (Or.inl ⟨by rfl, ?_⟩) hHeld ?_
                    rotate_left
                    · intro w hSw
                      try dsimp only at hSw
                      go_simp
                      try with_reducible rfl
                    try simp only [Act.put, List.setIfInBounds_toArray, List.set_cons_zero, List.set_cons_succ]
                    refine wpAnyH_take (i := 2) (v := ?_) rfl (by kernel_rfl) (by kernel_rfl) (by kernel_rfl) (fun _ _ _ h => h) (Or.inl ⟨by rfl, ?_⟩) hHeld ?_
                    rotate_left
                    · intro w hSw
                      try dsimp only at hSw
                      go_simp
                      try with_reducible rfl
                    try simp only [Act.put, List.setIfInBounds_toArray, List.set_cons_zero, List.set_cons_succ]
                    refine wpAnyH_take (i := 3) (v := ?_) rfl (by kernel_rfl) (by kernel_rfl) (by kernel_rfl) (fun _ _ _ h => h) (Or.inl ⟨by rfl, ?_⟩) hHeld ?_
                    rotate_left
                    · intro w hSw
                      try dsimp only at hSw
                      go_simp
                      try with_reducible rfl
                    try simp only [Act.put, List.setIfInBounds_toArray, List.set_cons_zero, List.set_cons_succ]
                    refine wpAnyH_take (i := 4) (v := ?_) rfl (by kernel_rfl) (by kernel_rfl) (by kernel_rfl) (fun _ _ _ h => h) (Or.inl ⟨by rfl, ?_⟩) hHeld ?_
                    rotate_left
                    · intro w hSw
                      try dsimp only at hSw
                      go_simp
                      try with_reducible rfl
                    try simp only [Act.put, List.setIfInBounds_toArray, List.set_cons_zero, List.set_cons_succ]
                    refine wpAnyH_take (i := 5) (v := ?_) rfl (by kernel_rfl) (by kernel_rfl) (by kernel_rfl) (fun _ _ _ h => h) (Or.inl ⟨by rfl, ?_⟩) hHeld ?_
                    rotate_left
                    · intro w hSw
                      try dsimp only at hSw
                      go_simp
                      try with_reducible rfl
                    try simp only [Act.put, List.setIfInBounds_toArray, List.set_cons_zero, List.set_cons_succ]
                    refine wpAnyH_take (i := 6) (v := ?_) rfl (by kernel_rfl) (by kernel_rfl) (by kernel_rfl) (fun _ _ _ h => h) (Or.inl ⟨by rfl, ?_⟩) hHeld ?_
                    rotate_left
                    · intro w hSw
                      try dsimp only at hSw
                      go_simp
                      try with_reducible rfl
                    try simp only [Act.put, List.setIfInBounds_toArray, List.set_cons_zero, List.set_cons_succ]
                    refine wpAnyH_take (i := 7) (v := ?_) rfl (by kernel_rfl) (by kernel_rfl) (by kernel_rfl) (fun _ _ _ h => h) (Or.inl ⟨by rfl, ?_⟩) hHeld ?_
                    rotate_left
                    · intro w hSw
                      try dsimp only at hSw
                      go_simp
                      try with_reducible rfl
                    try simp only [Act.put, List.setIfInBounds_toArray, List.set_cons_zero, List.set_cons_succ]
                    refine wpAnyH_take (i := 9) (v := ?_) rfl (by kernel_rfl) (by kernel_rfl) (by kernel_rfl) (fun _ _ _ h => h) (Or.inl ⟨by rfl, ?_⟩) hHeld ?_
                    rotate_left
                    · intro w hSw
                      try dsimp only at hSw
                      go_simp
                      try with_reducible rfl
                    try simp only [Act.put, List.setIfInBounds_toArray, List.set_cons_zero, List.set_cons_succ]
                    refine wpAnyH_take (i := 10) (v := ?_) rfl (by kernel_rfl) (by kernel_rfl) (by kernel_rfl) (fun _ _ _ h => h) (Or.inl ⟨by rfl, ?_⟩) hHeld ?_
                    rotate_left
                    · intro w hSw
                      try dsimp only at hSw
                      go_simp
                      try with_reducible rfl
                    try simp only [Act.put, List.setIfInBounds_toArray, List.set_cons_zero, List.set_cons_succ]
                    refine wpAnyH_take (i := 13) (v := ?_) rfl (by kernel_rfl) (by kernel_rfl) (by kernel_rfl) (fun _ _ _ h => h) (Or.inl ⟨by rfl, ?_⟩) hHeld ?_
                    rotate_left
                    · intro w hSw
                      try dsimp only at hSw
                      go_simp
                      try with_reducible rfl
                    try simp only [Act.put, List.setIfInBounds_toArray, List.set_cons_zero, List.set_cons_succ]
                    refine wpAnyH_take (i := 14) (v := ?_) rfl (by kernel_rfl) (by kernel_rfl) (by kernel_rfl) (fun _ _ _ h => h) (Or.inl ⟨by rfl, ?_⟩) hHeld ?_
                    rotate_left
                    · intro w hSw
                      try dsimp only at hSw
                      go_simp
                      try with_reducible rfl
                    try simp only [Act.put, List.setIfInBounds_toArray, List.set_cons_zero, List.set_cons_succ]
                    refine wpAnyH_take (i := 15) (v := ?_) rfl (by kernel_rfl) (by kernel_rfl) (by kernel_rfl) (fun _ _ _ h => h) (Or.inl ⟨by rfl, ?_⟩) hHeld ?_
                    rotate_left
                    · intro w hSw
                      try dsimp only at hSw
                      go_simp
                      try with_reducible rfl
                    try simp only [Act.put, List.setIfInBounds_toArray, List.set_cons_zero, List.set_cons_succ]
                    refine wpAnyH_take (i := 16) (v := ?_) rfl (by kernel_rfl) (by kernel_rfl) (by kernel_rfl) (fun _ _ _ h => h) (Or.inl ⟨by rfl, ?_⟩) hHeld ?_
                    rotate_left
                    · intro w hSw
                      try dsimp only at hSw
                      go_simp
                      try with_reducible rfl
                    try simp only [Act.put, List.setIfInBounds_toArray, List.set_cons_zero, List.set_cons_succ]
                    refine wpAnyH_take (i := 17) (v := ?_) rfl (by kernel_rfl) (by kernel_rfl) (by kernel_rfl) (fun _ _ _ h => h) (Or.inl ⟨by rfl, ?_⟩) hHeld ?_
                    rotate_left
                    · intro w hSw
                      try dsimp only at hSw
                      go_simp
                      try with_reducible rfl
                    try simp only [Act.put, List.setIfInBounds_toArray, List.set_cons_zero, List.set_cons_succ]
                    refine wpAnyH_take (i := 18) (v := ?_) rfl (by kernel_rfl) (by kernel_rfl) (by kernel_rfl) (fun _ _ _ h => h) (Or.inl ⟨by rfl, ?_⟩) hHeld ?_
                    rotate_left
                    · intro w hSw
                      try dsimp only at hSw
                      go_simp
                      try with_reducible rfl
                    try simp only [Act.put, List.setIfInBounds_toArray, List.set_cons_zero, List.set_cons_succ]
                    refine wpAnyH_ready (rs := [1, 11]) (by kernel_rfl) (by simp) ?_
                    refine AllReadyH.cons rfl (fun K hK => ?_) (AllReadyH.cons rfl (fun K hK => ?_) AllReadyH.nil)
                    · go_simp
                      refine hK.out _ _ (HCL.out _ HBA.out) (fun hHeld => ?_)
                      clear hK K
                      try simp only [Act.put, List.setIfInBounds_toArray, List.set_cons_zero, List.set_cons_succ]
                      refine wpAnyH_ready (rs := [8, 11]) (by kernel_rfl) (by simp) ?_
                      refine AllReadyH.cons rfl (fun K hK => ?_) (AllReadyH.cons rfl (fun K hK => ?_) AllReadyH.nil)
                      · skip
                        refine step_append_files0 (by rfl) (.tmp 63) (.tmp 69) (by rfl) W0.heap.size (.slice (some ⟨W0.heap.size, 0, none⟩) 0 0) (by rfl) HOa.out none 0 0 [] (by rfl) rfl (fun j u hj => by simp at hj) (fun u hu => by cases hu) hat1 HBA.out.size ?_
                        intro A8 c8 w8 ho8 hg8 ha8
                        have hb8 : Below W0.heap.size W0 w8 := HBA.out.grown hg8 HBA.out.size (fun g e => by simp [Value.ownBlock] at e; omega)
                        have hsrc : (w8.alloc (.cells #[.string s, .slice none 0 0, .slice none 0 0] 82)).heap[w8.heap.size]? = some (.cells #[.string s, .slice none 0 0, .slice none 0 0] 82 (0, 0)) := heap_alloc_new w8 _
                        refine hK.out _ _ (HCL.out _ hb8) (fun hHeld => ?_)
                        clear hK K
                        try simp only [Act.put, List.setIfInBounds_toArray, List.set_cons_zero, List.set_cons_succ]
                        refine wpAnyH_ready (rs := [11]) (by kernel_rfl) (by simp) ?_
                        refine AllReadyH.cons rfl (fun K hK => ?_) AllReadyH.nil
                        go_simp
                        have hb8' : Below W0.heap.size W0 (w8.alloc (.cells #[.string s, .slice none 0 0, .slice none 0 0] 82)) := hb8.alloc hb8.size _
                        refine hK.out _ _ (HCL.out _ hb8') (fun hHeld => ?_)
                        clear hK K
                        try simp only [Act.put, List.setIfInBounds_toArray, List.set_cons_zero, List.set_cons_succ]
                        refine wpAnyH_ready (rs := [12]) (by kernel_rfl) (by simp) ?_
                        refine AllReadyH.cons rfl (fun K hK => ?_) AllReadyH.nil
                        refine step_append_files (by rfl) (.tmp 70) (.tmp 73) (by rfl) W0.heap.size (.slice A8 0 c8) 0 [] (by rfl) (ho8.alloc _) (some ⟨w8.heap.size, 0, none⟩) 1 1 [.string s, .slice none 0 0, .slice none 0 0] (by rfl) (by rfl) (fun j u hj => ⟨_, rfl, World.news_of_block (cs := #[.string s, .slice none 0 0, .slice none 0 0]) (t := 82) (fr := (0, 0)) hsrc j u hj⟩) (by simp [Value.oneCell']) HBD1.out (Below.size hb8') ?_
                        intro A9 cc9 w9 ho9 hg9 ha9
                        have hb9 : Below W0.heap.size W0 w9 := Below.grown hb8' hg9 (Below.size hb8') (fun g e => (own_lt ho8 e).1)
                        refine hK.out _ _ (HCL.out _ hb9) (fun hHeld => ?_)
                        clear hK K
                        try simp only [Act.put, List.setIfInBounds_toArray, List.set_cons_zero, List.set_cons_succ]
                        refine wpAnyH_ready (rs := [19]) (by kernel_rfl) (by simp) ?_
                        refine AllReadyH.cons rfl (fun K hK => ?_) AllReadyH.nil
                        refine step_append_files (by rfl) (.tmp 74) (.tmp 80) (by rfl) W0.heap.size (.slice A9 (0 + 1) cc9) (0 + 1) ([] ++ [.string s, .slice none 0 0, .slice none 0 0]) (by rfl) ho9 none 0 0 [] (by rfl) rfl (fun j u hj => by simp at hj) (fun u hu => by cases hu) HBD2.out hb9.size ?_
                        intro A10 c10 w10 ho10 hg10 ha10
                        have hb10 : Below W0.heap.size W0 w10 := hb9.grown hg10 hb9.size (fun g e => (own_lt ho9 e).1)
                        have HG9 := Lib.hid (HFIN.out w10 A10 c10 hb10 ho10)
                        obtain ⟨y0, y1, y2⟩ := HCL.out _ hb10
                        refine hK.out _ _ (HCL.out _ hb10) (fun hHeld => ?_)
                        clear hK K
                        try simp only [Act.put, List.setIfInBounds_toArray, List.set_cons_zero, List.set_cons_succ]
                        refine wpAnyH_take (i := 20) (v := ?_) rfl (by kernel_rfl) (by kernel_rfl) (by kernel_rfl) (fun _ _ _ h => h) (Or.inl ⟨by rfl, ?_⟩) hHeld ?_
                        rotate_left
                        · intro w hSw
                          try dsimp only at hSw
                          go_simp
                          try with_reducible rfl
                        try simp only [Act.put, List.setIfInBounds_toArray, List.set_cons_zero, List.set_cons_succ]
                        refine wpAnyH_take (i := 21) (v := ?_) rfl (by kernel_rfl) (by kernel_rfl) (by kernel_rfl) (fun _ _ _ h => h) (Or.inl ⟨by rfl, ?_⟩) hHeld ?_
                        rotate_left
                        · intro w hSw
                          try dsimp only at hSw
                          go_simp
                          try with_reducible rfl
                        try simp only [Act.put, List.setIfInBounds_toArray, List.set_cons_zero, List.set_cons_succ]
                        refine wpAnyH_done (by kernel_rfl) ?_ _
                        clear ho10 hg10 ha10 hb10 ho9 hg9 ha9 hb9 ho8 hg8 ha8 hb8 hHeld
                        unfold LastQ
                        go_simp
                        go_wp2_with fail
                        go_meet
                        exact HG9.out
                      · go_simp
                        refine hK.out _ _ (HCL.out _ HBB.out) (fun hHeld => ?_)
                        clear hK K
                        try simp only [Act.put, List.setIfInBounds_toArray, List.set_cons_zero, List.set_cons_succ]
                        refine wpAnyH_ready (rs := [8]) (by kernel_rfl) (by simp) ?_
                        refine AllReadyH.cons rfl (fun K hK => ?_) AllReadyH.nil
                        refine step_append_files0 (by rfl) (.tmp 63) (.tmp 69) (by rfl) W0.heap.size (.slice (some ⟨W0.heap.size, 0, none⟩) 0 0) (by rfl) HOb.out none 0 0 [] (by rfl) rfl (fun j u hj => by simp at hj) (fun u hu => by cases hu) hat1 HBB.out.size ?_
                        intro A8 c8 w8 ho8 hg8 ha8
                        have hb8 : Below W0.heap.size W0 w8 := HBB.out.grown hg8 HBB.out.size (fun g e => by simp [Value.ownBlock] at e; omega)
                        have hsrc := (hg8.block (W0.heap.size + 1) (by simp) (by simp [Value.ownBlock])).trans HOO.out
                        refine hK.out _ _ (HCL.out _ hb8) (fun hHeld => ?_)
                        clear hK K
                        try simp only [Act.put, List.setIfInBounds_toArray, List.set_cons_zero, List.set_cons_succ]
                        refine wpAnyH_ready (rs := [12]) (by kernel_rfl) (by simp) ?_
                        refine AllReadyH.cons rfl (fun K hK => ?_) AllReadyH.nil
                        refine step_append_files (by rfl) (.tmp 70) (.tmp 73) (by rfl) W0.heap.size (.slice A8 0 c8) 0 [] (by rfl) ho8 (some ⟨W0.heap.size + 1, 0, none⟩) 1 1 [.string s, .slice none 0 0, .slice none 0 0] (by rfl) (by rfl) (fun j u hj => ⟨_, rfl, World.news_of_block (cs := #[.string s, .slice none 0 0, .slice none 0 0]) (t := 82) (fr := (0, 0)) hsrc j u hj⟩) (by simp [Value.oneCell']) HBD1.out (Below.size hb8) ?_
                        intro A9 cc9 w9 ho9 hg9 ha9
                        have hb9 : Below W0.heap.size W0 w9 := Below.grown hb8 hg9 (Below.size hb8) (fun g e => (own_lt ho8 e).1)
                        refine hK.out _ _ (HCL.out _ hb9) (fun hHeld => ?_)
                        clear hK K
                        try simp only [Act.put, List.setIfInBounds_toArray, List.set_cons_zero, List.set_cons_succ]
                        refine wpAnyH_ready (rs := [19]) (by kernel_rfl) (by simp) ?_
                        refine AllReadyH.cons rfl (fun K hK => ?_) AllReadyH.nil
                        refine step_append_files (by rfl) (.tmp 74) (.tmp 80) (by rfl) W0.heap.size (.slice A9 (0 + 1) cc9) (0 + 1) ([] ++ [.string s, .slice none 0 0, .slice none 0 0]) (by rfl) ho9 none 0 0 [] (by rfl) rfl (fun j u hj => by simp at hj) (fun u hu => by cases hu) HBD2.out hb9.size ?_
                        intro A10 c10 w10 ho10 hg10 ha10
                        have hb10 : Below W0.heap.size W0 w10 := hb9.grown hg10 hb9.size (fun g e => (own_lt ho9 e).1)
                        have HG9 := Lib.hid (HFIN.out w10 A10 c10 hb10 ho10)
                        obtain ⟨y0, y1, y2⟩ := HCL.out _ hb10
                        refine hK.out _ _ (HCL.out _ hb10) (fun hHeld => ?_)
                        clear hK K
                        try simp only [Act.put, List.setIfInBounds_toArray, List.set_cons_zero, List.set_cons_succ]
                        refine wpAnyH_take (i := 20) (v := ?_) rfl (by kernel_rfl) (by kernel_rfl) (by kernel_rfl) (fun _ _ _ h => h) (Or.inl ⟨by rfl, ?_⟩) hHeld ?_
                        rotate_left
                        · intro w hSw
                          try dsimp only at hSw
                          go_simp
                          try with_reducible rfl
                        try simp only [Act.put, List.setIfInBounds_toArray, List.set_cons_zero, List.set_cons_succ]
                        refine wpAnyH_take (i := 21) (v := ?_) rfl (by kernel_rfl) (by kernel_rfl) (by kernel_rfl) (fun _ _ _ h => h) (Or.inl ⟨by rfl, ?_⟩) hHeld ?_
                        rotate_left
                        · intro w hSw
                          try dsimp only at hSw
                          go_simp
                          try with_reducible rfl
                        try simp only [Act.put, List.setIfInBounds_toArray, List.set_cons_zero, List.set_cons_succ]
                        refine wpAnyH_done (by kernel_rfl) ?_ _
                        clear ho10 hg10 ha10 hb10 ho9 hg9 ha9 hb9 ho8 hg8 ha8 hb8 hHeld
                        unfold LastQ
                        go_simp
                        go_wp2_with fail
                        go_meet
                        exact HG9.out
                    · go_simp
                      refine hK.out _ _ (HCL.out _ HBD.out) (fun hHeld => ?_)
                      clear hK K
                      try simp only [Act.put, List.setIfInBounds_toArray, List.set_cons_zero, List.set_cons_succ]
                      refine wpAnyH_ready (rs := [1]) (by kernel_rfl) (by simp) ?_
                      refine AllReadyH.cons rfl (fun K hK => ?_) AllReadyH.nil
                      go_simp
                      refine hK.out _ _ (HCL.out _ HBC.out) (fun hHeld => ?_)
                      clear hK K
                      try simp only [Act.put, List.setIfInBounds_toArray, List.set_cons_zero, List.set_cons_succ]
                      refine wpAnyH_ready (rs := [8]) (by kernel_rfl) (by simp) ?_
                      refine AllReadyH.cons rfl (fun K hK => ?_) AllReadyH.nil
                      refine step_append_files0 (by rfl) (.tmp 63) (.tmp 69) (by rfl) W0.heap.size (.slice (some ⟨W0.heap.size + 1, 0, none⟩) 0 0) (by rfl) HOc.out none 0 0 [] (by rfl) rfl (fun j u hj => by simp at hj) (fun u hu => by cases hu) hat1 HBC.out.size ?_
                      intro A8 c8 w8 ho8 hg8 ha8
                      have hb8 : Below W0.heap.size W0 w8 := HBC.out.grown hg8 HBC.out.size (fun g e => by simp [Value.ownBlock] at e; omega)
                      have hsrc := (hg8.block W0.heap.size (by simp; omega) (by simp [Value.ownBlock])).trans HOX.out
                      refine hK.out _ _ (HCL.out _ hb8) (fun hHeld => ?_)
                      clear hK K
                      try simp only [Act.put, List.setIfInBounds_toArray, List.set_cons_zero, List.set_cons_succ]
                      refine wpAnyH_ready (rs := [12]) (by kernel_rfl) (by simp) ?_
                      refine AllReadyH.cons rfl (fun K hK => ?_) AllReadyH.nil
                      refine step_append_files (by rfl) (.tmp 70) (.tmp 73) (by rfl) W0.heap.size (.slice A8 0 c8) 0 [] (by rfl) ho8 (some ⟨W0.heap.size, 0, none⟩) 1 1 [.string s, .slice none 0 0, .slice none 0 0] (by rfl) (by rfl) (fun j u hj => ⟨_, rfl, World.news_of_block (cs := #[.string s, .slice none 0 0, .slice none 0 0]) (t := 82) (fr := (0, 0)) hsrc j u hj⟩) (by simp [Value.oneCell']) HBD1.out (Below.size hb8) ?_
                      intro A9 cc9 w9 ho9 hg9 ha9
                      have hb9 : Below W0.heap.size W0 w9 := Below.grown hb8 hg9 (Below.size hb8) (fun g e => (own_lt ho8 e).1)
                      refine hK.out _ _ (HCL.out _ hb9) (fun hHeld => ?_)
                      clear hK K
                      try simp only [Act.put, List.setIfInBounds_toArray, List.set_cons_zero, List.set_cons_succ]
                      refine wpAnyH_ready (rs := [19]) (by kernel_rfl) (by simp) ?_
                      refine AllReadyH.cons rfl (fun K hK => ?_) AllReadyH.nil
                      refine step_append_files (by rfl) (.tmp 74) (.tmp 80) (by rfl) W0.heap.size (.slice A9 (0 + 1) cc9) (0 + 1) ([] ++ [.string s, .slice none 0 0, .slice none 0 0]) (by rfl) ho9 none 0 0 [] (by rfl) rfl (fun j u hj => by simp at hj) (fun u hu => by cases hu) HBD2.out hb9.size ?_
                      intro A10 c10 w10 ho10 hg10 ha10
                      have hb10 : Below W0.heap.size W0 w10 := hb9.grown hg10 hb9.size (fun g e => (own_lt ho9 e).1)
                      have HG9 := Lib.hid (HFIN.out w10 A10 c10 hb10 ho10)
                      obtain ⟨y0, y1, y2⟩ := HCL.out _ hb10
                      refine hK.out _ _ (HCL.out _ hb10) (fun hHeld => ?_)
                      clear hK K
                      try simp only [Act.put, List.setIfInBounds_toArray, List.set_cons_zero, List.set_cons_succ]
                      refine wpAnyH_take (i := 20) (v := ?_) rfl (by kernel_rfl) (by kernel_rfl) (by kernel_rfl) (fun _ _ _ h => h) (Or.inl ⟨by rfl, ?_⟩) hHeld ?_
                      rotate_left
                      · intro w hSw
                        try dsimp only at hSw
                        go_simp
                        try with_reducible rfl
                      try simp only [Act.put, List.setIfInBounds_toArray, List.set_cons_zero, List.set_cons_succ]
                      refine wpAnyH_take (i := 21) (v := ?_) rfl (by kernel_rfl) (by kernel_rfl) (by kernel_rfl) (fun _ _ _ h => h) (Or.inl ⟨by rfl, ?_⟩) hHeld ?_
                      rotate_left
                      · intro w hSw
                        try dsimp only at hSw
                        go_simp
                        try with_reducible rfl
                      try simp only [Act.put, List.setIfInBounds_toArray, List.set_cons_zero, List.set_cons_succ]
                      refine wpAnyH_done (by kernel_rfl) ?_ _
                      clear ho10 hg10 ha10 hb10 ho9 hg9 ha9 hb9 ho8 hg8 ha8 hb8 hHeld
                      unfold LastQ
                      go_simp
                      go_wp2_with fail
                      go_meet
                      exact HG9.out
                  · by_cases hce : c9 = at'
                    · obtain rfl : c9 = at' := by omega
                      have hLN : L.length = c9 := by omega
                      have HLN' := Lib.hid hLN
                      have HCL : Hid (∀ W, Below W0.heap.size W0 W → W.cell? ⟨x, 1, none⟩ = some (.slice (some ⟨g, 0, none⟩) c9 c9) ∧ True ∧ W.frozen? ⟨x, 1, none⟩ = false) := fun W hW => by
                        have r := HR0.out.below hW
                        exact ⟨by rw [r.cells.2.1, e9, hLN], trivial, r.free 1⟩
                      have hcut := RD.cut2 hnc (by rw [← e9]; exact ho0) (by rw [← e9]; exact HCC.out) hpl
                      have HN' := Lib.hid (And.intro hcut.1 hcut.2.1)
                      have HT := Lib.hid (And.intro hcut.2.2.1 hcut.2.2.2)
                      have HFIN : Hid (∀ w9 A9 c10, Below W0.heap.size W0 w9 → w9.ownsRow W0.heap.size 82 3 (.slice A9 (c9 + 1 + 0) c10) (c9 + 1 + 0) ((cs.take (c9 * 3)) ++ [.string s, .slice none 0 0, .slice none 0 0] ++ []) → WMeet w B x p room v L s bs (.int .i64 (c9 : Int)) (w9.setCell ⟨x, 1, none⟩ (.slice A9 (c9 + 1 + 0) c10))) := fun w9 A9 c10 hb9 ho9 => by
                        have hcs : cs.drop (c9 * 3) = [] := List.eq_nil_of_length_eq_zero (by have := HT.out.2.1; have := HLN'.out; omega)
                        obtain ⟨z1, z2⟩ := HR0.out.ins (n9 := c9 + 1 + 0) (A9 := A9) (c9 := c10) (f := ⟨s, [], []⟩) (k := c9) (F := none) (cf := 0) (G := none) (cg := 0) HCC.out (Nat.le_refl _) (Nat.le_refl _) (by simpa [u8s] using Row.nil) (by simpa [u8s] using Row.nil) hb9 (by have := HLN'.out; omega) (by rw [hcs]; exact ho9) (by have := HLN'.out; omega)
                        refine HMEET.out _ _ ?_ (HC0.out.trans z2)
                        rw [insR, ← HAT.out]
                        exact z1
                      clear hLN
                      clear ho0 hc0 e9 hpl i3 hnc hh hcut
                      have HBD1 : Hid (c9 + 1 ≤ 1000000) := by show _ ≤ _; omega
                      have HBD2 : Hid (c9 + 1 + 0 ≤ 1000000) := by show _ ≤ _; omega
                      have HOa : Hid ((W0.drew.alloc (.cells #[] 82)).ownsRow W0.heap.size 82 3 (.slice (some ⟨W0.heap.size, 0, none⟩) 0 0) 0 []) := World.ownsRow_lit W0.drew #[] 0 (Nat.le_refl _) (by decide) rfl
                      have HOb : Hid (((W0.drew.alloc (.cells #[] 82)).alloc (.cells #[.string s, .slice none 0 0, .slice none 0 0] 82)).ownsRow W0.heap.size 82 3 (.slice (some ⟨W0.heap.size, 0, none⟩) 0 0) 0 []) := HOa.out.alloc _
                      have HOc : Hid (((W0.drew.alloc (.cells #[.string s, .slice none 0 0, .slice none 0 0] 82)).alloc (.cells #[] 82)).ownsRow W0.heap.size 82 3 (.slice (some ⟨W0.heap.size + 1, 0, none⟩) 0 0) 0 []) := by
                        have := World.ownsRow_lit (base := W0.heap.size) (e := 82) (size := 3) (W0.drew.alloc (.cells #[.string s, .slice none 0 0, .slice none 0 0] 82)) #[] 0 (by simp) (by decide) rfl
                        have hz : (W0.drew.alloc (.cells #[.string s, .slice none 0 0, .slice none 0 0] 82)).heap.size = W0.heap.size + 1 := by simp
                        rw [hz] at this
                        exact this
                      have HBA : Hid (Below W0.heap.size W0 (W0.drew.alloc (.cells #[] 82))) := ((Below.refl _ _).drew).alloc (Nat.le_refl _) _
                      have HBB : Hid (Below W0.heap.size W0 ((W0.drew.alloc (.cells #[] 82)).alloc (.cells #[.string s, .slice none 0 0, .slice none 0 0] 82))) := HBA.out.alloc HBA.out.size _
                      have HBD : Hid (Below W0.heap.size W0 (W0.drew.alloc (.cells #[.string s, .slice none 0 0, .slice none 0 0] 82))) := ((Below.refl _ _).drew).alloc (Nat.le_refl _) _
                      have HBC : Hid (Below W0.heap.size W0 ((W0.drew.alloc (.cells #[.string s, .slice none 0 0, .slice none 0 0] 82)).alloc (.cells #[] 82))) := HBD.out.alloc HBD.out.size _
                      have HOO : Hid (((W0.drew.alloc (.cells #[] 82)).alloc (.cells #[.string s, .slice none 0 0, .slice none 0 0] 82)).heap[W0.heap.size + 1]? = some (.cells #[.string s, .slice none 0 0, .slice none 0 0] 82 (0, 0))) := by
                        have := heap_alloc_new (W0.drew.alloc (.cells #[] 82)) (.cells #[.string s, .slice none 0 0, .slice none 0 0] 82)
                        exact (by simpa using this : ((W0.drew.alloc (.cells #[] 82)).alloc (.cells #[.string s, .slice none 0 0, .slice none 0 0] 82)).heap[W0.heap.size + 1]? = some (.cells #[.string s, .slice none 0 0, .slice none 0 0] 82 (0, 0)))
                      have HOX : Hid (((W0.drew.alloc (.cells #[.string s, .slice none 0 0, .slice none 0 0] 82)).alloc (.cells #[] 82)).heap[W0.heap.size]? = some (.cells #[.string s, .slice none 0 0, .slice none 0 0] 82 (0, 0))) := by
                        show _ = _
                        rw [Below.heap_alloc _ _ _ (by simp)]
                        exact heap_alloc_new W0.drew _
                      refine wp_region_pop (S := fun w' => w'.cell? ⟨x, 1, none⟩ = some (.slice (some ⟨g, 0, none⟩) c9 c9) ∧ True ∧ w'.frozen? ⟨x, 1, none⟩ = false) (by kernel_rfl) (by simp only [List.pop_toArray, List.dropLast]; rfl) (by rfl) (by kernel_rfl) (HCL.out _ ((Below.refl _ _).drew)) (fun hHeld => ?_)
                      refine wpAnyH_take (i := 0) (v := ?_) rfl (by kernel_rfl) (by kernel_rfl) (by kernel_rfl) (fun _ _ _ h => h) (Or.inl ⟨by rfl, ?_⟩) hHeld ?_
                      rotate_left
                      · intro w hSw
                        try dsimp only at hSw
                        go_simp
                        try with_reducible rfl
                      try simp only [Act.put, List.setIfInBounds_toArray, List.set_cons_zero, List.set_cons_succ]
                      refine wpAnyH_take (i := 2) (v := ?_) rfl (by kernel_rfl) (by kernel_rfl) (by kernel_rfl) (fun _ _ _ h => h) (Or.inl ⟨by rfl, ?_⟩) hHeld ?_
                      rotate_left
                      · intro w hSw
                        try dsimp only at hSw
                        go_simp
                        try with_reducible rfl
                      try simp only [Act.put, List.setIfInBounds_toArray, List.set_cons_zero, List.set_cons_succ]
                      refine wpAnyH_take (i := 3) (v := ?_) rfl (by kernel_rfl) (by kernel_rfl) (by kernel_rfl) (fun _ _ _ h => h) (Or.inl ⟨by rfl, ?_⟩) hHeld ?_
                      rotate_left
                      · intro w hSw
                        try dsimp only at hSw
                        go_simp
                        try with_reducible rfl
                      try simp only [Act.put, List.setIfInBounds_toArray, List.set_cons_zero, List.set_cons_succ]
                      refine wpAnyH_take (i := 4) (v := ?_) rfl (by kernel_rfl) (by kernel_rfl) (by kernel_rfl) (fun _ _ _ h => h) (Or.inl ⟨by rfl, ?_⟩) hHeld ?_
                      rotate_left
                      · intro w hSw
                        try dsimp only at hSw
                        go_simp
                        try with_reducible rfl
                      try simp only [Act.put, List.setIfInBounds_toArray, List.set_cons_zero, List.set_cons_succ]
                      refine wpAnyH_take (i := 5) (v := ?_) rfl (by kernel_rfl) (by kernel_rfl) (by kernel_rfl) (fun _ _ _ h => h) (Or.inl ⟨by rfl, ?_⟩) hHeld ?_
                      rotate_left
                      · intro w hSw
                        try dsimp only at hSw
                        go_simp
                        try with_reducible rfl
                      try simp only [Act.put, List.setIfInBounds_toArray, List.set_cons_zero, List.set_cons_succ]
                      refine wpAnyH_take (i := 6) (v := ?_) rfl (by kernel_rfl) (by kernel_rfl) (by kernel_rfl) (fun _ _ _ h => h) (Or.inl ⟨by rfl, ?_⟩) hHeld ?_
                      rotate_left
                      · intro w hSw
                        try dsimp only at hSw
                        go_simp
                        try with_reducible rfl
                      try simp only [Act.put, List.setIfInBounds_toArray, List.set_cons_zero, List.set_cons_succ]
                      refine wpAnyH_take (i := 7) (v := ?_) rfl (by kernel_rfl) (by kernel_rfl) (by kernel_rfl) (fun _ _ _ h => h) (Or.inl ⟨by rfl, ?_⟩) hHeld ?_
                      rotate_left
                      · intro w hSw
                        try dsimp only at hSw
                        go_simp
                        try with_reducible rfl
                      try simp only [Act.put, List.setIfInBounds_toArray, List.set_cons_zero, List.set_cons_succ]
                      refine wpAnyH_take (i := 9) (v := ?_) rfl (by kernel_rfl) (by kernel_rfl) (by kernel_rfl) (fun _ _ _ h => h) (Or.inl ⟨by rfl, ?_⟩) hHeld ?_
                      rotate_left
                      · intro w hSw
                        try dsimp only at hSw
                        go_simp
                        try with_reducible rfl
                      try simp only [Act.put, List.setIfInBounds_toArray, List.set_cons_zero, List.set_cons_succ]
                      refine wpAnyH_take (i := 10) (v := ?_) rfl (by kernel_rfl) (by kernel_rfl) (by kernel_rfl) (fun _ _ _ h => h) (Or.inl ⟨by rfl, ?_⟩) hHeld ?_
                      rotate_left
                      · intro w hSw
                        try dsimp only at hSw
                        go_simp
                        try with_reducible rfl
                      try simp only [Act.put, List.setIfInBounds_toArray, List.set_cons_zero, List.set_cons_succ]
                      refine wpAnyH_take (i := 13) (v := ?_) rfl (by kernel_rfl) (by kernel_rfl) (by kernel_rfl) (fun _ _ _ h => h) (Or.inl ⟨by rfl, ?_⟩) hHeld ?_
                      rotate_left
                      · intro w hSw
                        try dsimp only at hSw
                        go_simp
                        try with_reducible rfl
                      try simp only [Act.put, List.setIfInBounds_toArray, List.set_cons_zero, List.set_cons_succ]
                      refine wpAnyH_take (i := 14) (v := ?_) rfl (by kernel_rfl) (by kernel_rfl) (by kernel_rfl) (fun _ _ _ h => h) (Or.inl ⟨by rfl, ?_⟩) hHeld ?_
                      rotate_left
                      · intro w hSw
                        try dsimp only at hSw
                        go_simp
                        try with_reducible rfl
                      try simp only [Act.put, List.setIfInBounds_toArray, List.set_cons_zero, List.set_cons_succ]
                      refine wpAnyH_take (i := 15) (v := ?_) rfl (by kernel_rfl) (by kernel_rfl) (by kernel_rfl) (fun _ _ _ h => h) (Or.inl ⟨by rfl, ?_⟩) hHeld ?_
                      rotate_left
                      · intro w hSw
                        try dsimp only at hSw
                        go_simp
                        try with_reducible rfl
                      try simp only [Act.put, List.setIfInBounds_toArray, List.set_cons_zero, List.set_cons_succ]
                      refine wpAnyH_take (i := 16) (v := ?_) rfl (by kernel_rfl) (by kernel_rfl) (by kernel_rfl) (fun _ _ _ h => h) (Or.inl ⟨by rfl, ?_⟩) hHeld ?_
                      rotate_left
                      · intro w hSw
                        try dsimp only at hSw
                        go_simp
                        try with_reducible rfl
                      try simp only [Act.put, List.setIfInBounds_toArray, List.set_cons_zero, List.set_cons_succ]
                      refine wpAnyH_take (i := 17) (v := ?_) rfl (by kernel_rfl) (by kernel_rfl) (by kernel_rfl) (fun _ _ _ h => h) (Or.inl ⟨by rfl, ?_⟩) hHeld ?_
                      rotate_left
                      · intro w hSw
                        try dsimp only at hSw
                        go_simp
                        try with_reducible rfl
                      try simp only [Act.put, List.setIfInBounds_toArray, List.set_cons_zero, List.set_cons_succ]
                      refine wpAnyH_take (i := 18) (v := ?_) rfl (by kernel_rfl) (by kernel_rfl) (by kernel_rfl) (fun _ _ _ h => h) (Or.inl ⟨by rfl, ?_⟩) hHeld ?_
                      rotate_left
                      · intro w hSw
                        try dsimp only at hSw
                        go_simp
                        try with_reducible rfl
                      try simp only [Act.put, List.setIfInBounds_toArray, List.set_cons_zero, List.set_cons_succ]
                      refine wpAnyH_ready (rs := [1, 11]) (by kernel_rfl) (by simp) ?_
                      refine AllReadyH.cons rfl (fun K hK => ?_) (AllReadyH.cons rfl (fun K hK => ?_) AllReadyH.nil)
                      · go_simp
                        refine hK.out _ _ (HCL.out _ HBA.out) (fun hHeld => ?_)
                        clear hK K
                        try simp only [Act.put, List.setIfInBounds_toArray, List.set_cons_zero, List.set_cons_succ]
                        refine wpAnyH_ready (rs := [8, 11]) (by kernel_rfl) (by simp) ?_
                        refine AllReadyH.cons rfl (fun K hK => ?_) (AllReadyH.cons rfl (fun K hK => ?_) AllReadyH.nil)
                        · skip
                          refine step_append_files0 (by rfl) (.tmp 63) (.tmp 69) (by rfl) W0.heap.size (.slice (some ⟨W0.heap.size, 0, none⟩) 0 0) (by rfl) HOa.out (some ⟨g, 0, none⟩) c9 c9 (cs.take (c9 * 3)) (by rfl) HT.out.1.1 (HN'.out.1 _ HBA.out) HT.out.1.2 hat1 HBA.out.size ?_
                          intro A8 c8 w8 ho8 hg8 ha8
                          have hb8 : Below W0.heap.size W0 w8 := HBA.out.grown hg8 HBA.out.size (fun g e => by simp [Value.ownBlock] at e; omega)
                          have hsrc : (w8.alloc (.cells #[.string s, .slice none 0 0, .slice none 0 0] 82)).heap[w8.heap.size]? = some (.cells #[.string s, .slice none 0 0, .slice none 0 0] 82 (0, 0)) := heap_alloc_new w8 _
                          refine hK.out _ _ (HCL.out _ hb8) (fun hHeld => ?_)
                          clear hK K
                          try simp only [Act.put, List.setIfInBounds_toArray, List.set_cons_zero, List.set_cons_succ]
                          refine wpAnyH_ready (rs := [11]) (by kernel_rfl) (by simp) ?_
                          refine AllReadyH.cons rfl (fun K hK => ?_) AllReadyH.nil
                          go_simp
                          have hb8' : Below W0.heap.size W0 (w8.alloc (.cells #[.string s, .slice none 0 0, .slice none 0 0] 82)) := hb8.alloc hb8.size _
                          refine hK.out _ _ (HCL.out _ hb8') (fun hHeld => ?_)
                          clear hK K
                          try simp only [Act.put, List.setIfInBounds_toArray, List.set_cons_zero, List.set_cons_succ]
                          refine wpAnyH_ready (rs := [12]) (by kernel_rfl) (by simp) ?_
                          refine AllReadyH.cons rfl (fun K hK => ?_) AllReadyH.nil
                          refine step_append_files (by rfl) (.tmp 70) (.tmp 73) (by rfl) W0.heap.size (.slice A8 c9 c8) c9 (cs.take (c9 * 3)) (by rfl) (ho8.alloc _) (some ⟨w8.heap.size, 0, none⟩) 1 1 [.string s, .slice none 0 0, .slice none 0 0] (by rfl) (by rfl) (fun j u hj => ⟨_, rfl, World.news_of_block (cs := #[.string s, .slice none 0 0, .slice none 0 0]) (t := 82) (fr := (0, 0)) hsrc j u hj⟩) (by simp [Value.oneCell']) HBD1.out (Below.size hb8') ?_
                          intro A9 cc9 w9 ho9 hg9 ha9
                          have hb9 : Below W0.heap.size W0 w9 := Below.grown hb8' hg9 (Below.size hb8') (fun g e => (own_lt ho8 e).1)
                          refine hK.out _ _ (HCL.out _ hb9) (fun hHeld => ?_)
                          clear hK K
                          try simp only [Act.put, List.setIfInBounds_toArray, List.set_cons_zero, List.set_cons_succ]
                          refine wpAnyH_ready (rs := [19]) (by kernel_rfl) (by simp) ?_
                          refine AllReadyH.cons rfl (fun K hK => ?_) AllReadyH.nil
                          refine step_append_files (by rfl) (.tmp 74) (.tmp 80) (by rfl) W0.heap.size (.slice A9 (c9 + 1) cc9) (c9 + 1) ((cs.take (c9 * 3)) ++ [.string s, .slice none 0 0, .slice none 0 0]) (by rfl) ho9 (some ⟨g, 0, none⟩) 0 _ [] (by rfl) rfl (fun j u hj => by simp at hj) (fun u hu => by cases hu) HBD2.out hb9.size ?_
                          intro A10 c10 w10 ho10 hg10 ha10
                          have hb10 : Below W0.heap.size W0 w10 := hb9.grown hg10 hb9.size (fun g e => (own_lt ho9 e).1)
                          have HG9 := Lib.hid (HFIN.out w10 A10 c10 hb10 ho10)
                          obtain ⟨y0, y1, y2⟩ := HCL.out _ hb10
                          refine hK.out _ _ (HCL.out _ hb10) (fun hHeld => ?_)
                          clear hK K
                          try simp only [Act.put, List.setIfInBounds_toArray, List.set_cons_zero, List.set_cons_succ]
                          refine wpAnyH_take (i := 20) (v := ?_) rfl (by kernel_rfl) (by kernel_rfl) (by kernel_rfl) (fun _ _ _ h => h) (Or.inl ⟨by rfl, ?_⟩) hHeld ?_
                          rotate_left
                          · intro w hSw
                            try dsimp only at hSw
                            go_simp
                            try with_reducible rfl
                          try simp only [Act.put, List.setIfInBounds_toArray, List.set_cons_zero, List.set_cons_succ]
                          refine wpAnyH_take (i := 21) (v := ?_) rfl (by kernel_rfl) (by kernel_rfl) (by kernel_rfl) (fun _ _ _ h => h) (Or.inl ⟨by rfl, ?_⟩) hHeld ?_
                          rotate_left
                          · intro w hSw
                            try dsimp only at hSw
                            go_simp
                            try with_reducible rfl
                          try simp only [Act.put, List.setIfInBounds_toArray, List.set_cons_zero, List.set_cons_succ]
                          refine wpAnyH_done (by kernel_rfl) ?_ _
                          clear ho10 hg10 ha10 hb10 ho9 hg9 ha9 hb9 ho8 hg8 ha8 hb8 hHeld
                          unfold LastQ
                          go_simp
                          go_wp2_with fail
                          go_meet
                          exact HG9.out
                        · go_simp
                          refine hK.out _ _ (HCL.out _ HBB.out) (fun hHeld => ?_)
                          clear hK K
                          try simp only [Act.put, List.setIfInBounds_toArray, List.set_cons_zero, List.set_cons_succ]
                          refine wpAnyH_ready (rs := [8]) (by kernel_rfl) (by simp) ?_
                          refine AllReadyH.cons rfl (fun K hK => ?_) AllReadyH.nil
                          refine step_append_files0 (by rfl) (.tmp 63) (.tmp 69) (by rfl) W0.heap.size (.slice (some ⟨W0.heap.size, 0, none⟩) 0 0) (by rfl) HOb.out (some ⟨g, 0, none⟩) c9 c9 (cs.take (c9 * 3)) (by rfl) HT.out.1.1 (HN'.out.1 _ HBB.out) HT.out.1.2 hat1 HBB.out.size ?_
                          intro A8 c8 w8 ho8 hg8 ha8
                          have hb8 : Below W0.heap.size W0 w8 := HBB.out.grown hg8 HBB.out.size (fun g e => by simp [Value.ownBlock] at e; omega)
                          have hsrc := (hg8.block (W0.heap.size + 1) (by simp) (by simp [Value.ownBlock])).trans HOO.out
                          refine hK.out _ _ (HCL.out _ hb8) (fun hHeld => ?_)
                          clear hK K
                          try simp only [Act.put, List.setIfInBounds_toArray, List.set_cons_zero, List.set_cons_succ]
                          refine wpAnyH_ready (rs := [12]) (by kernel_rfl) (by simp) ?_
                          refine AllReadyH.cons rfl (fun K hK => ?_) AllReadyH.nil
                          refine step_append_files (by rfl) (.tmp 70) (.tmp 73) (by rfl) W0.heap.size (.slice A8 c9 c8) c9 (cs.take (c9 * 3)) (by rfl) ho8 (some ⟨W0.heap.size + 1, 0, none⟩) 1 1 [.string s, .slice none 0 0, .slice none 0 0] (by rfl) (by rfl) (fun j u hj => ⟨_, rfl, World.news_of_block (cs := #[.string s, .slice none 0 0, .slice none 0 0]) (t := 82) (fr := (0, 0)) hsrc j u hj⟩) (by simp [Value.oneCell']) HBD1.out (Below.size hb8) ?_
                          intro A9 cc9 w9 ho9 hg9 ha9
                          have hb9 : Below W0.heap.size W0 w9 := Below.grown hb8 hg9 (Below.size hb8) (fun g e => (own_lt ho8 e).1)
                          refine hK.out _ _ (HCL.out _ hb9) (fun hHeld => ?_)
                          clear hK K
                          try simp only [Act.put, List.setIfInBounds_toArray, List.set_cons_zero, List.set_cons_succ]
                          refine wpAnyH_ready (rs := [19]) (by kernel_rfl) (by simp) ?_
                          refine AllReadyH.cons rfl (fun K hK => ?_) AllReadyH.nil
                          refine step_append_files (by rfl) (.tmp 74) (.tmp 80) (by rfl) W0.heap.size (.slice A9 (c9 + 1) cc9) (c9 + 1) ((cs.take (c9 * 3)) ++ [.string s, .slice none 0 0, .slice none 0 0]) (by rfl) ho9 (some ⟨g, 0, none⟩) 0 _ [] (by rfl) rfl (fun j u hj => by simp at hj) (fun u hu => by cases hu) HBD2.out hb9.size ?_
                          intro A10 c10 w10 ho10 hg10 ha10
                          have hb10 : Below W0.heap.size W0 w10 := hb9.grown hg10 hb9.size (fun g e => (own_lt ho9 e).1)
                          have HG9 := Lib.hid (HFIN.out w10 A10 c10 hb10 ho10)
                          obtain ⟨y0, y1, y2⟩ := HCL.out _ hb10
                          refine hK.out _ _ (HCL.out _ hb10) (fun hHeld => ?_)
                          clear hK K
                          try simp only [Act.put, List.setIfInBounds_toArray, List.set_cons_zero, List.set_cons_succ]
                          refine wpAnyH_take (i := 20) (v := ?_) rfl (by kernel_rfl) (by kernel_rfl) (by kernel_rfl) (fun _ _ _ h => h) (Or.inl ⟨by rfl, ?_⟩) hHeld ?_
                          rotate_left
                          · intro w hSw
                            try dsimp only at hSw
                            go_simp
                            try with_reducible rfl
                          try simp only [Act.put, List.setIfInBounds_toArray, List.set_cons_zero, List.set_cons_succ]
                          refine wpAnyH_take (i := 21) (v := ?_) rfl (by kernel_rfl) (by kernel_rfl) (by kernel_rfl) (fun _ _ _ h => h) (Or.inl ⟨by rfl, ?_⟩) hHeld ?_
                          rotate_left
                          · intro w hSw
                            try dsimp only at hSw
                            go_simp
                            try with_reducible rfl
                          try simp only [Act.put, List.setIfInBounds_toArray, List.set_cons_zero, List.set_cons_succ]
                          refine wpAnyH_done (by kernel_rfl) ?_ _
                          clear ho10 hg10 ha10 hb10 ho9 hg9 ha9 hb9 ho8 hg8 ha8 hb8 hHeld
                          unfold LastQ
                          go_simp
                          go_wp2_with fail
                          go_meet
                          exact HG9.out
                      · go_simp
                        refine hK.out _ _ (HCL.out _ HBD.out) (fun hHeld => ?_)
                        clear hK K
                        try simp only [Act.put, List.setIfInBounds_toArray, List.set_cons_zero, List.set_cons_succ]
                        refine wpAnyH_ready (rs := [1]) (by kernel_rfl) (by simp) ?_
                        refine AllReadyH.cons rfl (fun K hK => ?_) AllReadyH.nil
                        go_simp
                        refine hK.out _ _ (HCL.out _ HBC.out) (fun hHeld => ?_)
                        clear hK K
                        try simp only [Act.put, List.setIfInBounds_toArray, List.set_cons_zero, List.set_cons_succ]
                        refine wpAnyH_ready (rs := [8]) (by kernel_rfl) (by simp) ?_
                        refine AllReadyH.cons rfl (fun K hK => ?_) AllReadyH.nil
                        refine step_append_files0 (by rfl) (.tmp 63) (.tmp 69) (by rfl) W0.heap.size (.slice (some ⟨W0.heap.size + 1, 0, none⟩) 0 0) (by rfl) HOc.out (some ⟨g, 0, none⟩) c9 c9 (cs.take (c9 * 3)) (by rfl) HT.out.1.1 (HN'.out.1 _ HBC.out) HT.out.1.2 hat1 HBC.out.size ?_
                        intro A8 c8 w8 ho8 hg8 ha8
                        have hb8 : Below W0.heap.size W0 w8 := HBC.out.grown hg8 HBC.out.size (fun g e => by simp [Value.ownBlock] at e; omega)
                        have hsrc := (hg8.block W0.heap.size (by simp; omega) (by simp [Value.ownBlock])).trans HOX.out
                        refine hK.out _ _ (HCL.out _ hb8) (fun hHeld => ?_)
                        clear hK K
                        try simp only [Act.put, List.setIfInBounds_toArray, List.set_cons_zero, List.set_cons_succ]
                        refine wpAnyH_ready (rs := [12]) (by kernel_rfl) (by simp) ?_
                        refine AllReadyH.cons rfl (fun K hK => ?_) AllReadyH.nil
                        refine step_append_files (by rfl) (.tmp 70) (.tmp 73) (by rfl) W0.heap.size (.slice A8 c9 c8) c9 (cs.take (c9 * 3)) (by rfl) ho8 (some ⟨W0.heap.size, 0, none⟩) 1 1 [.string s, .slice none 0 0, .slice none 0 0] (by rfl) (by rfl) (fun j u hj => ⟨_, rfl, World.news_of_block (cs := #[.string s, .slice none 0 0, .slice none 0 0]) (t := 82) (fr := (0, 0)) hsrc j u hj⟩) (by simp [Value.oneCell']) HBD1.out (Below.size hb8) ?_
                        intro A9 cc9 w9 ho9 hg9 ha9
                        have hb9 : Below W0.heap.size W0 w9 := Below.grown hb8 hg9 (Below.size hb8) (fun g e => (own_lt ho8 e).1)
                        refine hK.out _ _ (HCL.out _ hb9) (fun hHeld => ?_)
                        clear hK K
                        try simp only [Act.put, List.setIfInBounds_toArray, List.set_cons_zero, List.set_cons_succ]
                        refine wpAnyH_ready (rs := [19]) (by kernel_rfl) (by simp) ?_
                        refine AllReadyH.cons rfl (fun K hK => ?_) AllReadyH.nil
                        refine step_append_files (by rfl) (.tmp 74) (.tmp 80) (by rfl) W0.heap.size (.slice A9 (c9 + 1) cc9) (c9 + 1) ((cs.take (c9 * 3)) ++ [.string s, .slice none 0 0, .slice none 0 0]) (by rfl) ho9 (some ⟨g, 0, none⟩) 0 _ [] (by rfl) rfl (fun j u hj => by simp at hj) (fun u hu => by cases hu) HBD2.out hb9.size ?_
                        intro A10 c10 w10 ho10 hg10 ha10
                        have hb10 : Below W0.heap.size W0 w10 := hb9.grown hg10 hb9.size (fun g e => (own_lt ho9 e).1)
                        have HG9 := Lib.hid (HFIN.out w10 A10 c10 hb10 ho10)
                        obtain ⟨y0, y1, y2⟩ := HCL.out _ hb10
                        refine hK.out _ _ (HCL.out _ hb10) (fun hHeld => ?_)
                        clear hK K
                        try simp only [Act.put, List.setIfInBounds_toArray, List.set_cons_zero, List.set_cons_succ]
                        refine wpAnyH_take (i := 20) (v := ?_) rfl (by kernel_rfl) (by kernel_rfl) (by kernel_rfl) (fun _ _ _ h => h) (Or.inl ⟨by rfl, ?_⟩) hHeld ?_
                        rotate_left
                        · intro w hSw
                          try dsimp only at hSw
                          go_simp
                          try with_reducible rfl
                        try simp only [Act.put, List.setIfInBounds_toArray, List.set_cons_zero, List.set_cons_succ]
                        refine wpAnyH_take (i := 21) (v := ?_) rfl (by kernel_rfl) (by kernel_rfl) (by kernel_rfl) (fun _ _ _ h => h) (Or.inl ⟨by rfl, ?_⟩) hHeld ?_
                        rotate_left
                        · intro w hSw
                          try dsimp only at hSw
                          go_simp
                          try with_reducible rfl
                        try simp only [Act.put, List.setIfInBounds_toArray, List.set_cons_zero, List.set_cons_succ]
                        refine wpAnyH_done (by kernel_rfl) ?_ _
                        clear ho10 hg10 ha10 hb10 ho9 hg9 ha9 hb9 ho8 hg8 ha8 hb8 hHeld
                        unfold LastQ
                        go_simp
                        go_wp2_with fail
                        go_meet
                        exact HG9.out
                    · have hac : at' < c9 := by omega
                      obtain ⟨ln, hln⟩ : ∃ y, y = L.length := ⟨_, rfl⟩
                      have HLN' := Lib.hid hln
                      have hpl' : at' ≤ ln := by omega
                      have hnc' : ln ≤ c9 := by omega
                      have hln3 : ln ≤ 1000 := by omega
                      have j1 : (at' : Int) ≤ (c9 : Int) := by omega
                      have j2 : (at' : Int) ≤ (ln : Int) := by omega
                      have j3 : (ln : Int) ≤ (c9 : Int) := by omega
                      have j4 : (0 : Int) ≤ (at' : Int) := by omega
                      have HCL : Hid (∀ W, Below W0.heap.size W0 W → W.cell? ⟨x, 1, none⟩ = some (.slice (some ⟨g, 0, none⟩) ln c9) ∧ True ∧ W.frozen? ⟨x, 1, none⟩ = false) := fun W hW => by
                        have r := HR0.out.below hW
                        exact ⟨by rw [r.cells.2.1, e9, hln], trivial, r.free 1⟩
                      have hcut := RD.cut2 hnc (by rw [← e9]; exact ho0) (by rw [← e9]; exact HCC.out) hpl
                      rw [← hln] at hcut
                      have HN' := Lib.hid (And.intro hcut.1 hcut.2.1)
                      have HT := Lib.hid (And.intro hcut.2.2.1 hcut.2.2.2)
                      have HFIN : Hid (∀ w9 A9 c10, Below W0.heap.size W0 w9 → w9.ownsRow W0.heap.size 82 3 (.slice A9 (at' + 1 + (ln - at')) c10) (at' + 1 + (ln - at')) ((cs.take (at' * 3)) ++ [.string s, .slice none 0 0, .slice none 0 0] ++ (cs.drop (at' * 3))) → WMeet w B x p room v L s bs (.int .i64 (at' : Int)) (w9.setCell ⟨x, 1, none⟩ (.slice A9 (at' + 1 + (ln - at')) c10))) := fun w9 A9 c10 hb9 ho9 => by
                        obtain ⟨z1, z2⟩ := HR0.out.ins (n9 := at' + 1 + (ln - at')) (A9 := A9) (c9 := c10) (f := ⟨s, [], []⟩) (k := at') (F := none) (cf := 0) (G := none) (cg := 0) HCC.out (Nat.le_refl _) (Nat.le_refl _) (by simpa [u8s] using Row.nil) (by simpa [u8s] using Row.nil) hb9 (by have := HLN'.out; omega) ho9 (by have := HLN'.out; omega)
                        refine HMEET.out _ _ ?_ (HC0.out.trans z2)
                        rw [insR, ← HAT.out]
                        exact z1
                      clear hln hpl hnc
                      clear ho0 hc0 e9 i3 hh hcut
                      have HBD1 : Hid (at' + 1 ≤ 1000000) := by show _ ≤ _; omega
                      have HBD2 : Hid (at' + 1 + (ln - at') ≤ 1000000) := by show _ ≤ _; omega
                      have HOa : Hid ((W0.drew.alloc (.cells #[] 82)).ownsRow W0.heap.size 82 3 (.slice (some ⟨W0.heap.size, 0, none⟩) 0 0) 0 []) := World.ownsRow_lit W0.drew #[] 0 (Nat.le_refl _) (by decide) rfl
                      have HOb : Hid (((W0.drew.alloc (.cells #[] 82)).alloc (.cells #[.string s, .slice none 0 0, .slice none 0 0] 82)).ownsRow W0.heap.size 82 3 (.slice (some ⟨W0.heap.size, 0, none⟩) 0 0) 0 []) := HOa.out.alloc _
                      have HOc : Hid (((W0.drew.alloc (.cells #[.string s, .slice none 0 0, .slice none 0 0] 82)).alloc (.cells #[] 82)).ownsRow W0.heap.size 82 3 (.slice (some ⟨W0.heap.size + 1, 0, none⟩) 0 0) 0 []) := by
                        have := World.ownsRow_lit (base := W0.heap.size) (e := 82) (size := 3) (W0.drew.alloc (.cells #[.string s, .slice none 0 0, .slice none 0 0] 82)) #[] 0 (by simp) (by decide) rfl
                        have hz : (W0.drew.alloc (.cells #[.string s, .slice none 0 0, .slice none 0 0] 82)).heap.size = W0.heap.size + 1 := by simp
                        rw [hz] at this
                        exact this
                      have HBA : Hid (Below W0.heap.size W0 (W0.drew.alloc (.cells #[] 82))) := ((Below.refl _ _).drew).alloc (Nat.le_refl _) _
                      have HBB : Hid (Below W0.heap.size W0 ((W0.drew.alloc (.cells #[] 82)).alloc (.cells #[.string s, .slice none 0 0, .slice none 0 0] 82))) := HBA.out.alloc HBA.out.size _
                      have HBD : Hid (Below W0.heap.size W0 (W0.drew.alloc (.cells #[.string s, .slice none 0 0, .slice none 0 0] 82))) := ((Below.refl _ _).drew).alloc (Nat.le_refl _) _
                      have HBC : Hid (Below W0.heap.size W0 ((W0.drew.alloc (.cells #[.string s, .slice none 0 0, .slice none 0 0] 82)).alloc (.cells #[] 82))) := HBD.out.alloc HBD.out.size _
                      have HOO : Hid (((W0.drew.alloc (.cells #[] 82)).alloc (.cells #[.string s, .slice none 0 0, .slice none 0 0] 82)).heap[W0.heap.size + 1]? = some (.cells #[.string s, .slice none 0 0, .slice none 0 0] 82 (0, 0))) := by
                        have := heap_alloc_new (W0.drew.alloc (.cells #[] 82)) (.cells #[.string s, .slice none 0 0, .slice none 0 0] 82)
                        exact (by simpa using this : ((W0.drew.alloc (.cells #[] 82)).alloc (.cells #[.string s, .slice none 0 0, .slice none 0 0] 82)).heap[W0.heap.size + 1]? = some (.cells #[.string s, .slice none 0 0, .slice none 0 0] 82 (0, 0)))
                      have HOX : Hid (((W0.drew.alloc (.cells #[.string s, .slice none 0 0, .slice none 0 0] 82)).alloc (.cells #[] 82)).heap[W0.heap.size]? = some (.cells #[.string s, .slice none 0 0, .slice none 0 0] 82 (0, 0))) := by
                        show _ = _
                        rw [Below.heap_alloc _ _ _ (by simp)]
                        exact heap_alloc_new W0.drew _
                      refine wp_region_pop (S := fun w' => w'.cell? ⟨x, 1, none⟩ = some (.slice (some ⟨g, 0, none⟩) ln c9) ∧ True ∧ w'.frozen? ⟨x, 1, none⟩ = false) (by kernel_rfl) (by simp only [List.pop_toArray, List.dropLast]; rfl) (by rfl) (by kernel_rfl) (HCL.out _ ((Below.refl _ _).drew)) (fun hHeld => ?_)
                      refine wpAnyH_take (i := 0) (v := ?_) rfl (by kernel_rfl) (by kernel_rfl) (by kernel_rfl) (fun _ _ _ h => h) (Or.inl ⟨by rfl, ?_⟩) hHeld ?_
                      rotate_left
                      · intro w hSw
                        try dsimp only at hSw
                        go_simp
                        try with_reducible rfl
                      try simp only [Act.put, List.setIfInBounds_toArray, List.set_cons_zero, List.set_cons_succ]
                      refine wpAnyH_take (i := 2) (v := ?_) rfl (by kernel_rfl) (by kernel_rfl) (by kernel_rfl) (fun _ _ _ h => h) (Or.inl ⟨by rfl, ?_⟩) hHeld ?_
                      rotate_left
                      · intro w hSw
                        try dsimp only at hSw
                        go_simp
                        try with_reducible rfl
                      try simp only [Act.put, List.setIfInBounds_toArray, List.set_cons_zero, List.set_cons_succ]
                      refine wpAnyH_take (i := 3) (v := ?_) rfl (by kernel_rfl) (by kernel_rfl) (by kernel_rfl) (fun _ _ _ h => h) (Or.inl ⟨by rfl, ?_⟩) hHeld ?_
                      rotate_left
                      · intro w hSw
                        try dsimp only at hSw
                        go_simp
                        try with_reducible rfl
                      try simp only [Act.put, List.setIfInBounds_toArray, List.set_cons_zero, List.set_cons_succ]
                      refine wpAnyH_take (i := 4) (v := ?_) rfl (by kernel_rfl) (by kernel_rfl) (by kernel_rfl) (fun _ _ _ h => h) (Or.inl ⟨by rfl, ?_⟩) hHeld ?_
                      rotate_left
                      · intro w hSw
                        try dsimp only at hSw
                        go_simp
                        try with_reducible rfl
                      try simp only [Act.put, List.setIfInBounds_toArray, List.set_cons_zero, List.set_cons_succ]
                      refine wpAnyH_take (i := 5) (v := ?_) rfl (by kernel_rfl) (by kernel_rfl) (by kernel_rfl) (fun _ _ _ h => h) (Or.inl ⟨by rfl, ?_⟩) hHeld ?_
                      rotate_left
                      · intro w hSw
                        try dsimp only at hSw
                        go_simp
                        try with_reducible rfl
                      try simp only [Act.put, List.setIfInBounds_toArray, List.set_cons_zero, List.set_cons_succ]
                      refine wpAnyH_take (i := 6) (v := ?_) rfl (by kernel_rfl) (by kernel_rfl) (by kernel_rfl) (fun _ _ _ h => h) (Or.inl ⟨by rfl, ?_⟩) hHeld ?_
                      rotate_left
                      · intro w hSw
                        try dsimp only at hSw
                        go_simp
                        try with_reducible rfl
                      try simp only [Act.put, List.setIfInBounds_toArray, List.set_cons_zero, List.set_cons_succ]
                      refine wpAnyH_take (i := 7) (v := ?_) rfl (by kernel_rfl) (by kernel_rfl) (by kernel_rfl) (fun _ _ _ h => h) (Or.inl ⟨by rfl, ?_⟩) hHeld ?_
                      rotate_left
                      · intro w hSw
                        try dsimp only at hSw
                        go_simp
                        try with_reducible rfl
                      try simp only [Act.put, List.setIfInBounds_toArray, List.set_cons_zero, List.set_cons_succ]
                      refine wpAnyH_take (i := 9) (v := ?_) rfl (by kernel_rfl) (by kernel_rfl) (by kernel_rfl) (fun _ _ _ h => h) (Or.inl ⟨by rfl, ?_⟩) hHeld ?_
                      rotate_left
                      · intro w hSw
                        try dsimp only at hSw
                        go_simp
                        try with_reducible rfl
                      try simp only [Act.put, List.setIfInBounds_toArray, List.set_cons_zero, List.set_cons_succ]
                      refine wpAnyH_take (i := 10) (v := ?_) rfl (by kernel_rfl) (by kernel_rfl) (by kernel_rfl) (fun _ _ _ h => h) (Or.inl ⟨by rfl, ?_⟩) hHeld ?_
                      rotate_left
                      · intro w hSw
                        try dsimp only at hSw
                        go_simp
                        try with_reducible rfl
                      try simp only [Act.put, List.setIfInBounds_toArray, List.set_cons_zero, List.set_cons_succ]
                      refine wpAnyH_take (i := 13) (v := ?_) rfl (by kernel_rfl) (by kernel_rfl) (by kernel_rfl) (fun _ _ _ h => h) (Or.inl ⟨by rfl, ?_⟩) hHeld ?_
                      rotate_left
                      · intro w hSw
                        try dsimp only at hSw
                        go_simp
                        try with_reducible rfl
                      try simp only [Act.put, List.setIfInBounds_toArray, List.set_cons_zero, List.set_cons_succ]
                      refine wpAnyH_take (i := 14) (v := ?_) rfl (by kernel_rfl) (by kernel_rfl) (by kernel_rfl) (fun _ _ _ h => h) (Or.inl ⟨by rfl, ?_⟩) hHeld ?_
                      rotate_left
                      · intro w hSw
                        try dsimp only at hSw
                        go_simp
                        try with_reducible rfl
                      try simp only [Act.put, List.setIfInBounds_toArray, List.set_cons_zero, List.set_cons_succ]
                      refine wpAnyH_take (i := 15) (v := ?_) rfl (by kernel_rfl) (by kernel_rfl) (by kernel_rfl) (fun _ _ _ h => h) (Or.inl ⟨by rfl, ?_⟩) hHeld ?_
                      rotate_left
                      · intro w hSw
                        try dsimp only at hSw
                        go_simp
                        try with_reducible rfl
                      try simp only [Act.put, List.setIfInBounds_toArray, List.set_cons_zero, List.set_cons_succ]
                      refine wpAnyH_take (i := 16) (v := ?_) rfl (by kernel_rfl) (by kernel_rfl) (by kernel_rfl) (fun _ _ _ h => h) (Or.inl ⟨by rfl, ?_⟩) hHeld ?_
                      rotate_left
                      · intro w hSw
                        try dsimp only at hSw
                        go_simp
                        try with_reducible rfl
                      try simp only [Act.put, List.setIfInBounds_toArray, List.set_cons_zero, List.set_cons_succ]
                      refine wpAnyH_take (i := 17) (v := ?_) rfl (by kernel_rfl) (by kernel_rfl) (by kernel_rfl) (fun _ _ _ h => h) (Or.inl ⟨by rfl, ?_⟩) hHeld ?_
                      rotate_left
                      · intro w hSw
                        try dsimp only at hSw
                        go_simp
                        try with_reducible rfl
                      try simp only [Act.put, List.setIfInBounds_toArray, List.set_cons_zero, List.set_cons_succ]
                      refine wpAnyH_take (i := 18) (v := ?_) rfl (by kernel_rfl) (by kernel_rfl) (by kernel_rfl) (fun _ _ _ h => h) (Or.inl ⟨by rfl, ?_⟩) hHeld ?_
                      rotate_left
                      · intro w hSw
                        try dsimp only at hSw
                        go_simp
                        try with_reducible rfl
                      try simp only [Act.put, List.setIfInBounds_toArray, List.set_cons_zero, List.set_cons_succ]
                      refine wpAnyH_ready (rs := [1, 11]) (by kernel_rfl) (by simp) ?_
                      refine AllReadyH.cons rfl (fun K hK => ?_) (AllReadyH.cons rfl (fun K hK => ?_) AllReadyH.nil)
                      · go_simp
                        refine hK.out _ _ (HCL.out _ HBA.out) (fun hHeld => ?_)
                        clear hK K
                        try simp only [Act.put, List.setIfInBounds_toArray, List.set_cons_zero, List.set_cons_succ]
                        refine wpAnyH_ready (rs := [8, 11]) (by kernel_rfl) (by simp) ?_
                        refine AllReadyH.cons rfl (fun K hK => ?_) (AllReadyH.cons rfl (fun K hK => ?_) AllReadyH.nil)
                        · skip
                          refine step_append_files0 (by rfl) (.tmp 63) (.tmp 69) (by rfl) W0.heap.size (.slice (some ⟨W0.heap.size, 0, none⟩) 0 0) (by rfl) HOa.out (some ⟨g, 0, none⟩) at' c9 (cs.take (at' * 3)) (by rfl) HT.out.1.1 (HN'.out.1 _ HBA.out) HT.out.1.2 hat1 HBA.out.size ?_
                          intro A8 c8 w8 ho8 hg8 ha8
                          have hb8 : Below W0.heap.size W0 w8 := HBA.out.grown hg8 HBA.out.size (fun g e => by simp [Value.ownBlock] at e; omega)
                          have hsrc : (w8.alloc (.cells #[.string s, .slice none 0 0, .slice none 0 0] 82)).heap[w8.heap.size]? = some (.cells #[.string s, .slice none 0 0, .slice none 0 0] 82 (0, 0)) := heap_alloc_new w8 _
                          refine hK.out _ _ (HCL.out _ hb8) (fun hHeld => ?_)
                          clear hK K
                          try simp only [Act.put, List.setIfInBounds_toArray, List.set_cons_zero, List.set_cons_succ]
                          refine wpAnyH_ready (rs := [11]) (by kernel_rfl) (by simp) ?_
                          refine AllReadyH.cons rfl (fun K hK => ?_) AllReadyH.nil
                          go_simp
                          have hb8' : Below W0.heap.size W0 (w8.alloc (.cells #[.string s, .slice none 0 0, .slice none 0 0] 82)) := hb8.alloc hb8.size _
                          refine hK.out _ _ (HCL.out _ hb8') (fun hHeld => ?_)
                          clear hK K
                          try simp only [Act.put, List.setIfInBounds_toArray, List.set_cons_zero, List.set_cons_succ]
                          refine wpAnyH_ready (rs := [12]) (by kernel_rfl) (by simp) ?_
                          refine AllReadyH.cons rfl (fun K hK => ?_) AllReadyH.nil
                          refine step_append_files (by rfl) (.tmp 70) (.tmp 73) (by rfl) W0.heap.size (.slice A8 at' c8) at' (cs.take (at' * 3)) (by rfl) (ho8.alloc _) (some ⟨w8.heap.size, 0, none⟩) 1 1 [.string s, .slice none 0 0, .slice none 0 0] (by rfl) (by rfl) (fun j u hj => ⟨_, rfl, World.news_of_block (cs := #[.string s, .slice none 0 0, .slice none 0 0]) (t := 82) (fr := (0, 0)) hsrc j u hj⟩) (by simp [Value.oneCell']) HBD1.out (Below.size hb8') ?_
                          intro A9 cc9 w9 ho9 hg9 ha9
                          have hb9 : Below W0.heap.size W0 w9 := Below.grown hb8' hg9 (Below.size hb8') (fun g e => (own_lt ho8 e).1)
                          refine hK.out _ _ (HCL.out _ hb9) (fun hHeld => ?_)
                          clear hK K
                          try simp only [Act.put, List.setIfInBounds_toArray, List.set_cons_zero, List.set_cons_succ]
                          refine wpAnyH_ready (rs := [19]) (by kernel_rfl) (by simp) ?_
                          refine AllReadyH.cons rfl (fun K hK => ?_) AllReadyH.nil
                          refine step_append_files (by rfl) (.tmp 74) (.tmp 80) (by rfl) W0.heap.size (.slice A9 (at' + 1) cc9) (at' + 1) ((cs.take (at' * 3)) ++ [.string s, .slice none 0 0, .slice none 0 0]) (by rfl) ho9 (some ⟨g, at' * 3, none⟩) (ln - at') (c9 - at') (cs.drop (at' * 3)) (by rfl) HT.out.2.1 (HN'.out.2 _ hb9) HT.out.2.2 HBD2.out hb9.size ?_
                          intro A10 c10 w10 ho10 hg10 ha10
                          have hb10 : Below W0.heap.size W0 w10 := hb9.grown hg10 hb9.size (fun g e => (own_lt ho9 e).1)
                          have HG9 := Lib.hid (HFIN.out w10 A10 c10 hb10 ho10)
                          obtain ⟨y0, y1, y2⟩ := HCL.out _ hb10
                          refine hK.out _ _ (HCL.out _ hb10) (fun hHeld => ?_)
                          clear hK K
                          try simp only [Act.put, List.setIfInBounds_toArray, List.set_cons_zero, List.set_cons_succ]
                          refine wpAnyH_take (i := 20) (v := ?_) rfl (by kernel_rfl) (by kernel_rfl) (by kernel_rfl) (fun _ _ _ h => h) (Or.inl ⟨by rfl, ?_⟩) hHeld ?_
                          rotate_left
                          · intro w hSw
                            try dsimp only at hSw
                            go_simp
                            try with_reducible rfl
                          try simp only [Act.put, List.setIfInBounds_toArray, List.set_cons_zero, List.set_cons_succ]
                          refine wpAnyH_take (i := 21) (v := ?_) rfl (by kernel_rfl) (by kernel_rfl) (by kernel_rfl) (fun _ _ _ h => h) (Or.inl ⟨by rfl, ?_⟩) hHeld ?_
                          rotate_left
                          · intro w hSw
                            try dsimp only at hSw
                            go_simp
                            try with_reducible rfl
                          try simp only [Act.put, List.setIfInBounds_toArray, List.set_cons_zero, List.set_cons_succ]
                          refine wpAnyH_done (by kernel_rfl) ?_ _
                          clear ho10 hg10 ha10 hb10 ho9 hg9 ha9 hb9 ho8 hg8 ha8 hb8 hHeld
                          unfold LastQ
                          go_simp
                          go_wp2_with fail
                          go_meet
                          exact HG9.out
                        · go_simp
                          refine hK.out _ _ (HCL.out _ HBB.out) (fun hHeld => ?_)
                          clear hK K
                          try simp only [Act.put, List.setIfInBounds_toArray, List.set_cons_zero, List.set_cons_succ]
                          refine wpAnyH_ready (rs := [8]) (by kernel_rfl) (by simp) ?_
                          refine AllReadyH.cons rfl (fun K hK => ?_) AllReadyH.nil
                          refine step_append_files0 (by rfl) (.tmp 63) (.tmp 69) (by rfl) W0.heap.size (.slice (some ⟨W0.heap.size, 0, none⟩) 0 0) (by rfl) HOb.out (some ⟨g, 0, none⟩) at' c9 (cs.take (at' * 3)) (by rfl) HT.out.1.1 (HN'.out.1 _ HBB.out) HT.out.1.2 hat1 HBB.out.size ?_
                          intro A8 c8 w8 ho8 hg8 ha8
                          have hb8 : Below W0.heap.size W0 w8 := HBB.out.grown hg8 HBB.out.size (fun g e => by simp [Value.ownBlock] at e; omega)
                          have hsrc := (hg8.block (W0.heap.size + 1) (by simp) (by simp [Value.ownBlock])).trans HOO.out
                          refine hK.out _ _ (HCL.out _ hb8) (fun hHeld => ?_)
                          clear hK K
                          try simp only [Act.put, List.setIfInBounds_toArray, List.set_cons_zero, List.set_cons_succ]
                          refine wpAnyH_ready (rs := [12]) (by kernel_rfl) (by simp) ?_
                          refine AllReadyH.cons rfl (fun K hK => ?_) AllReadyH.nil
                          refine step_append_files (by rfl) (.tmp 70) (.tmp 73) (by rfl) W0.heap.size (.slice A8 at' c8) at' (cs.take (at' * 3)) (by rfl) ho8 (some ⟨W0.heap.size + 1, 0, none⟩) 1 1 [.string s, .slice none 0 0, .slice none 0 0] (by rfl) (by rfl) (fun j u hj => ⟨_, rfl, World.news_of_block (cs := #[.string s, .slice none 0 0, .slice none 0 0]) (t := 82) (fr := (0, 0)) hsrc j u hj⟩) (by simp [Value.oneCell']) HBD1.out (Below.size hb8) ?_
                          intro A9 cc9 w9 ho9 hg9 ha9
                          have hb9 : Below W0.heap.size W0 w9 := Below.grown hb8 hg9 (Below.size hb8) (fun g e => (own_lt ho8 e).1)
                          refine hK.out _ _ (HCL.out _ hb9) (fun hHeld => ?_)
                          clear hK K
                          try simp only [Act.put, List.setIfInBounds_toArray, List.set_cons_zero, List.set_cons_succ]
                          refine wpAnyH_ready (rs := [19]) (by kernel_rfl) (by simp) ?_
                          refine AllReadyH.cons rfl (fun K hK => ?_) AllReadyH.nil
                          refine step_append_files (by rfl) (.tmp 74) (.tmp 80) (by rfl) W0.heap.size (.slice A9 (at' + 1) cc9) (at' + 1) ((cs.take (at' * 3)) ++ [.string s, .slice none 0 0, .slice none 0 0]) (by rfl) ho9 (some ⟨g, at' * 3, none⟩) (ln - at') (c9 - at') (cs.drop (at' * 3)) (by rfl) HT.out.2.1 (HN'.out.2 _ hb9) HT.out.2.2 HBD2.out hb9.size ?_
                          intro A10 c10 w10 ho10 hg10 ha10
                          have hb10 : Below W0.heap.size W0 w10 := hb9.grown hg10 hb9.size (fun g e => (own_lt ho9 e).1)
                          have HG9 := Lib.hid (HFIN.out w10 A10 c10 hb10 ho10)
                          obtain ⟨y0, y1, y2⟩ := HCL.out _ hb10
                          refine hK.out _ _ (HCL.out _ hb10) (fun hHeld => ?_)
                          clear hK K
                          try simp only [Act.put, List.setIfInBounds_toArray, List.set_cons_zero, List.set_cons_succ]
                          refine wpAnyH_take (i := 20) (v := ?_) rfl (by kernel_rfl) (by kernel_rfl) (by kernel_rfl) (fun _ _ _ h => h) (Or.inl ⟨by rfl, ?_⟩) hHeld ?_
                          rotate_left
                          · intro w hSw
                            try dsimp only at hSw
                            go_simp
                            try with_reducible rfl
                          try simp only [Act.put, List.setIfInBounds_toArray, List.set_cons_zero, List.set_cons_succ]
                          refine wpAnyH_take (i := 21) (v := ?_) rfl (by kernel_rfl) (by kernel_rfl) (by kernel_rfl) (fun _ _ _ h => h) (Or.inl ⟨by rfl, ?_⟩) hHeld ?_
                          rotate_left
                          · intro w hSw
                            try dsimp only at hSw
                            go_simp
                            try with_reducible rfl
                          try simp only [Act.put, List.setIfInBounds_toArray, List.set_cons_zero, List.set_cons_succ]
                          refine wpAnyH_done (by kernel_rfl) ?_ _
                          clear ho10 hg10 ha10 hb10 ho9 hg9 ha9 hb9 ho8 hg8 ha8 hb8 hHeld
                          unfold LastQ
                          go_simp
                          go_wp2_with fail
                          go_meet
                          exact HG9.out
                      · go_simp
                        refine hK.out _ _ (HCL.out _ HBD.out) (fun hHeld => ?_)
                        clear hK K
                        try simp only [Act.put, List.setIfInBounds_toArray, List.set_cons_zero, List.set_cons_succ]
                        refine wpAnyH_ready (rs := [1]) (by kernel_rfl) (by simp) ?_
                        refine AllReadyH.cons rfl (fun K hK => ?_) AllReadyH.nil
                        go_simp
                        refine hK.out _ _ (HCL.out _ HBC.out) (fun hHeld => ?_)
                        clear hK K
                        try simp only [Act.put, List.setIfInBounds_toArray, List.set_cons_zero, List.set_cons_succ]
                        refine wpAnyH_ready (rs := [8]) (by kernel_rfl) (by simp) ?_
                        refine AllReadyH.cons rfl (fun K hK => ?_) AllReadyH.nil
                        refine step_append_files0 (by rfl) (.tmp 63) (.tmp 69) (by rfl) W0.heap.size (.slice (some ⟨W0.heap.size + 1, 0, none⟩) 0 0) (by rfl) HOc.out (some ⟨g, 0, none⟩) at' c9 (cs.take (at' * 3)) (by rfl) HT.out.1.1 (HN'.out.1 _ HBC.out) HT.out.1.2 hat1 HBC.out.size ?_
                        intro A8 c8 w8 ho8 hg8 ha8
                        have hb8 : Below W0.heap.size W0 w8 := HBC.out.grown hg8 HBC.out.size (fun g e => by simp [Value.ownBlock] at e; omega)
                        have hsrc := (hg8.block W0.heap.size (by simp; omega) (by simp [Value.ownBlock])).trans HOX.out
                        refine hK.out _ _ (HCL.out _ hb8) (fun hHeld => ?_)
                        clear hK K
                        try simp only [Act.put, List.setIfInBounds_toArray, List.set_cons_zero, List.set_cons_succ]
                        refine wpAnyH_ready (rs := [12]) (by kernel_rfl) (by simp) ?_
                        refine AllReadyH.cons rfl (fun K hK => ?_) AllReadyH.nil
                        refine step_append_files (by rfl) (.tmp 70) (.tmp 73) (by rfl) W0.heap.size (.slice A8 at' c8) at' (cs.take (at' * 3)) (by rfl) ho8 (some ⟨W0.heap.size, 0, none⟩) 1 1 [.string s, .slice none 0 0, .slice none 0 0] (by rfl) (by rfl) (fun j u hj => ⟨_, rfl, World.news_of_block (cs := #[.string s, .slice none 0 0, .slice none 0 0]) (t := 82) (fr := (0, 0)) hsrc j u hj⟩) (by simp [Value.oneCell']) HBD1.out (Below.size hb8) ?_
                        intro A9 cc9 w9 ho9 hg9 ha9
                        have hb9 : Below W0.heap.size W0 w9 := Below.grown hb8 hg9 (Below.size hb8) (fun g e => (own_lt ho8 e).1)
                        refine hK.out _ _ (HCL.out _ hb9) (fun hHeld => ?_)
                        clear hK K
                        try simp only [Act.put, List.setIfInBounds_toArray, List.set_cons_zero, List.set_cons_succ]
                        refine wpAnyH_ready (rs := [19]) (by kernel_rfl) (by simp) ?_
                        refine AllReadyH.cons rfl (fun K hK => ?_) AllReadyH.nil
                        refine step_append_files (by rfl) (.tmp 74) (.tmp 80) (by rfl) W0.heap.size (.slice A9 (at' + 1) cc9) (at' + 1) ((cs.take (at' * 3)) ++ [.string s, .slice none 0 0, .slice none 0 0]) (by rfl) ho9 (some ⟨g, at' * 3, none⟩) (ln - at') (c9 - at') (cs.drop (at' * 3)) (by rfl) HT.out.2.1 (HN'.out.2 _ hb9) HT.out.2.2 HBD2.out hb9.size ?_
                        intro A10 c10 w10 ho10 hg10 ha10
                        have hb10 : Below W0.heap.size W0 w10 := hb9.grown hg10 hb9.size (fun g e => (own_lt ho9 e).1)
                        have HG9 := Lib.hid (HFIN.out w10 A10 c10 hb10 ho10)
                        obtain ⟨y0, y1, y2⟩ := HCL.out _ hb10
                        refine hK.out _ _ (HCL.out _ hb10) (fun hHeld => ?_)
                        clear hK K
                        try simp only [Act.put, List.setIfInBounds_toArray, List.set_cons_zero, List.set_cons_succ]
                        refine wpAnyH_take (i := 20) (v := ?_) rfl (by kernel_rfl) (by kernel_rfl) (by kernel_rfl) (fun _ _ _ h => h) (Or.inl ⟨by rfl, ?_⟩) hHeld ?_
                        rotate_left
                        · intro w hSw
                          try dsimp only at hSw
                          go_simp
                          try with_reducible rfl
                        try simp only [Act.put, List.setIfInBounds_toArray, List.set_cons_zero, List.set_cons_succ]
                        refine wpAnyH_take (i := 21) (v := ?_) rfl (by kernel_rfl) (by kernel_rfl) (by kernel_rfl) (fun _ _ _ h => h) (Or.inl ⟨by rfl, ?_⟩) hHeld ?_
                        rotate_left
                        · intro w hSw
                          try dsimp only at hSw
                          go_simp
                          try with_reducible rfl
                        try simp only [Act.put, List.setIfInBounds_toArray, List.set_cons_zero, List.set_cons_succ]
                        refine wpAnyH_done (by kernel_rfl) ?_ _
                        clear ho10 hg10 ha10 hb10 ho9 hg9 ha9 hb9 ho8 hg8 ha8 hb8 hHeld
                        unfold LastQ
                        go_simp
                        go_wp2_with fail
                        go_meet
                        exact HG9.out
            case rest =>
              obtain ⟨k1, v1, L1, W0, rfl, rfl, hk1, hl1, R1, C1, hz1, hWL⟩ := hcut
              obtain ⟨g, cc, hv1, hBg, hgx, hgl, _⟩ := R1.addr hk1
              have hvg : v1.ownBlock = some g := by rw [hv1]; rfl
              obtain ⟨F, cf, G, cg, hcf, hcg, hfc⟩ := file_cells R1 hk1 hvg
              rw [getD_at hk1] at hz1 hWL
              have HWL := Lib.hid hWL
              have HR1' := Lib.hid R1
              have HC1 := Lib.hid C1
              have HVG := Lib.hid hvg
              have HFC := Lib.hid hfc
              obtain ⟨lg, hlg⟩ : ∃ y, y = L1[k1].loose.length := ⟨_, rfl⟩
              rw [← hlg] at hz1 hcg
              have HLG := Lib.hid hlg
              have HCL : Hid (∀ W, Below W0.heap.size W0 W → W.cell? ⟨x, 1, none⟩ = some (.slice (some ⟨g, 0, none⟩) L1.length cc) ∧ W.cell? ⟨g, k1 * 3 + 2, none⟩ = some (.slice G lg cg) ∧ W.frozen? ⟨g, k1 * 3 + 2, none⟩ = false) := fun W hW => by
                obtain ⟨_, m2, _, m2f, _, _⟩ := HFC.out W hW
                rw [← HLG.out] at m2
                exact ⟨by rw [(HR1'.out.below hW).cells.2.1, hv1], m2, m2f⟩
              have HCP : Hid (Calls Try.prog 57 #[.slice G lg cg] W0.drew fun e w' => ∃ A c, e = .returned (.slice A lg c) ∧ w'.ownsRow W0.heap.size 5 1 (.slice A lg c) lg (u8s L1[k1].loose) ∧ Below W0.heap.size W0 w') := by
                obtain ⟨_, _, _, _, _, rG⟩ := HFC.out _ ((Below.refl _ _).drew)
                have hcp := rcopy_any (fun q => B.K q ∧ q ≠ x ∧ some q ≠ v1.ownBlock) G cg L1[k1].loose W0.drew rG (by rw [← HLG.out]; omega)
                unfold GivesO at hcp
                rw [← HLG.out] at hcp
                exact hcp.mono fun e w' ⟨A, c, e1, e2, e3⟩ => ⟨A, c, e1, e2, ⟨e3.os, e3.tape, e3.output, e3.size, e3.block⟩⟩
              have HPR : Hid (∀ W, Below W0.heap.size W0 W → Row (fun _ => True) W A (u8s bs)) := fun W hW => ((HKEEP.out W0 v1 HC1.out).below hW).any
              have HLB : Hid ((u8s bs).length = n) := by show _ = _; rw [u8s_len, HN.out]
              have HFIN : Hid (∀ w9 A9 c9, Below W0.heap.size W0 w9 → w9.ownsRow W0.heap.size 5 1 (.slice A9 (lg + n) c9) (lg + n) (u8s L1[k1].loose ++ u8s bs) → RWrite w B x p room v L s bs (.returned (.int .i64 0)) (w9.setCell ⟨g, k1 * 3 + 2, none⟩ (.slice A9 (lg + n) c9))) := fun w9 A9 c9 hb9 ho9 => by
                rw [show u8s L1[k1].loose ++ u8s bs = u8s (L1[k1].loose ++ bs) by simp [u8s]] at ho9
                obtain ⟨c1, c2', c3⟩ := own_new HR1'.out HVG.out ho9
                obtain ⟨q1, q2⟩ := (HR1'.out.below hb9).putL hk1 HVG.out (loose := L1[k1].loose ++ bs) (G := A9) (cg := c9) (by omega) c3
                rw [← c2'] at q1 q2
                refine ⟨by rw [HE.out], v1, ?_, (HC1.out.trans (AddC.below hb9 v1)).trans (AddC.only q2 HVG.out)⟩
                rw [HE.out, if_pos rfl, HWL.out]
                exact q1
              have i1 : (k1 : Int) < (L1.length : Int) := by omega
              have i2 : ¬ (k1 : Int) < 0 := by omega
              have hbd : lg + n ≤ 3000000 := by omega
              have H1B := Lib.hid (u8s_one bs)
              clear hWL R1 C1 hvg hfc hlg hv1 hcf hcg hz1 d1 d2 HD2 hb45
              go_wp2_with fail
              refine wp_region_pop (S := fun w' => w'.cell? ⟨x, 1, none⟩ = some (.slice (some ⟨g, 0, none⟩) L1.length cc) ∧ w'.cell? ⟨g, k1 * 3 + 2, none⟩ = some (.slice G lg cg) ∧ w'.frozen? ⟨g, k1 * 3 + 2, none⟩ = false) (by kernel_rfl) (by simp only [List.pop_toArray, List.dropLast]; rfl) (by rfl) (by kernel_rfl) (HCL.out _ ((Below.refl _ _).drew)) (fun hHeld => ?_)
              refine wpAnyH_take (i := 0) (v := ?_) rfl (by kernel_rfl) (by kernel_rfl) (by kernel_rfl) (fun _ _ _ h => h) (Or.inl ⟨by rfl, ?_⟩) hHeld ?_
              rotate_left
              · intro w hSw
                try dsimp only at hSw
                go_simp
                try with_reducible rfl
              try simp only [Act.put, List.setIfInBounds_toArray, List.set_cons_zero, List.set_cons_succ]
              refine wpAnyH_take (i := 1) (v := ?_) rfl (by kernel_rfl) (by kernel_rfl) (by kernel_rfl) (fun _ _ _ h => h) (Or.inl ⟨by rfl, ?_⟩) hHeld ?_
              rotate_left
              · intro w hSw
                try dsimp only at hSw
                go_simp
                try with_reducible rfl
              try simp only [Act.put, List.setIfInBounds_toArray, List.set_cons_zero, List.set_cons_succ]
              refine wpAnyH_take (i := 2) (v := ?_) rfl (by kernel_rfl) (by kernel_rfl) (by kernel_rfl) (fun _ _ _ h => h) (Or.inl ⟨by rfl, ?_⟩) hHeld ?_
              rotate_left
              · intro w hSw
                try dsimp only at hSw
                go_simp
                try with_reducible rfl
              try simp only [Act.put, List.setIfInBounds_toArray, List.set_cons_zero, List.set_cons_succ]
              refine wpAnyH_take (i := 3) (v := ?_) rfl (by kernel_rfl) (by kernel_rfl) (by kernel_rfl) (fun _ _ _ h => h) (Or.inl ⟨by rfl, ?_⟩) hHeld ?_
              rotate_left
              · intro w hSw
                try dsimp only at hSw
                go_simp
                try with_reducible rfl
              try simp only [Act.put, List.setIfInBounds_toArray, List.set_cons_zero, List.set_cons_succ]
              refine wpAnyH_take (i := 4) (v := ?_) rfl (by kernel_rfl) (by kernel_rfl) (by kernel_rfl) (fun _ _ _ h => h) (Or.inl ⟨by rfl, ?_⟩) hHeld ?_
              rotate_left
              · intro w hSw
                try dsimp only at hSw
                go_simp
                try with_reducible rfl
              try simp only [Act.put, List.setIfInBounds_toArray, List.set_cons_zero, List.set_cons_succ]
              refine wpAnyH_take (i := 5) (v := ?_) rfl (by kernel_rfl) (by kernel_rfl) (by kernel_rfl) (fun _ _ _ h => h) (Or.inl ⟨by rfl, ?_⟩) hHeld ?_
              rotate_left
              · intro w hSw
                try dsimp only at hSw
                go_simp
                try with_reducible rfl
              try simp only [Act.put, List.setIfInBounds_toArray, List.set_cons_zero, List.set_cons_succ]
              refine wpAnyH_take (i := 6) (v := ?_) rfl (by kernel_rfl) (by kernel_rfl) (by kernel_rfl) (fun _ _ _ h => h) (Or.inl ⟨by rfl, ?_⟩) hHeld ?_
              rotate_left
              · intro w hSw
                try dsimp only at hSw
                go_simp
                try with_reducible rfl
              try simp only [Act.put, List.setIfInBounds_toArray, List.set_cons_zero, List.set_cons_succ]
              refine wpAnyH_take (i := 7) (v := ?_) rfl (by kernel_rfl) (by kernel_rfl) (by kernel_rfl) (fun _ _ _ h => h) (Or.inl ⟨by rfl, ?_⟩) hHeld ?_
              rotate_left
              · intro w hSw
                try dsimp only at hSw
                go_simp
                try with_reducible rfl
              try simp only [Act.put, List.setIfInBounds_toArray, List.set_cons_zero, List.set_cons_succ]
              refine wpAnyH_take (i := 8) (v := ?_) rfl (by kernel_rfl) (by kernel_rfl) (by kernel_rfl) (fun _ _ _ h => h) (Or.inl ⟨by rfl, ?_⟩) hHeld ?_
              rotate_left
              · intro w hSw
                try dsimp only at hSw
                go_simp
                try with_reducible rfl
              try simp only [Act.put, List.setIfInBounds_toArray, List.set_cons_zero, List.set_cons_succ]
              refine wpAnyH_take (i := 9) (v := ?_) rfl (by kernel_rfl) (by kernel_rfl) (by kernel_rfl) (fun _ _ _ h => h) (Or.inl ⟨by rfl, ?_⟩) hHeld ?_
              rotate_left
              · intro w hSw
                try dsimp only at hSw
                go_simp
                try with_reducible rfl
              try simp only [Act.put, List.setIfInBounds_toArray, List.set_cons_zero, List.set_cons_succ]
              refine wpAnyH_take (i := 10) (v := ?_) rfl (by kernel_rfl) (by kernel_rfl) (by kernel_rfl) (fun _ _ _ h => h) (Or.inl ⟨by rfl, ?_⟩) hHeld ?_
              rotate_left
              · intro w hSw
                try dsimp only at hSw
                go_simp
                try with_reducible rfl
              try simp only [Act.put, List.setIfInBounds_toArray, List.set_cons_zero, List.set_cons_succ]
              refine wpAnyH_take (i := 11) (v := ?_) rfl (by kernel_rfl) (by kernel_rfl) (by kernel_rfl) (fun _ _ _ h => h) (Or.inl ⟨by rfl, ?_⟩) hHeld ?_
              rotate_left
              · intro w hSw
                try dsimp only at hSw
                go_simp
                try with_reducible rfl
              try simp only [Act.put, List.setIfInBounds_toArray, List.set_cons_zero, List.set_cons_succ]
              refine wpAnyH_take (i := 12) (v := ?_) rfl (by kernel_rfl) (by kernel_rfl) (by kernel_rfl) (fun _ _ _ h => h) (Or.inl ⟨by rfl, ?_⟩) hHeld ?_
              rotate_left
              · intro w hSw
                try dsimp only at hSw
                go_simp
                try with_reducible rfl
              try simp only [Act.put, List.setIfInBounds_toArray, List.set_cons_zero, List.set_cons_succ]
              refine wpAnyH_take (i := 14) (v := ?_) rfl (by kernel_rfl) (by kernel_rfl) (by kernel_rfl) (fun _ _ _ h => h) (Or.inl ⟨by rfl, ?_⟩) hHeld ?_
              rotate_left
              · intro w hSw
                try dsimp only at hSw
                go_simp
                try with_reducible rfl
              try simp only [Act.put, List.setIfInBounds_toArray, List.set_cons_zero, List.set_cons_succ]
              refine wpAnyH_ready (rs := [13]) (by kernel_rfl) (by simp) ?_
              refine AllReadyH.cons rfl (fun K hK => ?_) AllReadyH.nil
              go_simp
              go_at_call 57
              refine (HCP.out).mono ?_
              rintro e w7 ⟨A7, c7, rfl, ho7, hb7⟩
              refine hK.out _ _ (HCL.out _ hb7) (fun hHeld => ?_)
              clear hK K
              try simp only [Act.put, List.setIfInBounds_toArray, List.set_cons_zero, List.set_cons_succ]
              refine wpAnyH_ready (rs := [15]) (by kernel_rfl) (by simp) ?_
              refine AllReadyH.cons rfl (fun K hK => ?_) AllReadyH.nil
              refine step_append_bytes (by rfl) (.tmp 97) (.tmp 98) (by rfl) W0.heap.size (.slice A7 lg c7) lg (u8s L1[k1].loose) (by rfl) ho7 (fun _ => True) A n c (u8s bs) (by rfl) HLB.out (HPR.out _ hb7) H1B.out hbd hb7.size ?_
              intro A9 c9 w9 ho9 hg9 ha9
              have hb9 : Below W0.heap.size W0 w9 := hb7.grown hg9 hb7.size (fun g e => (own_lt ho7 e).1)
              refine hK.out _ _ (HCL.out _ hb9) (fun hHeld => ?_)
              clear hK K
              try simp only [Act.put, List.setIfInBounds_toArray, List.set_cons_zero, List.set_cons_succ]
              refine wpAnyH_take (i := 16) (v := ?_) rfl (by kernel_rfl) (by kernel_rfl) (by kernel_rfl) (fun _ _ _ h => h) (Or.inl ⟨by rfl, ?_⟩) hHeld ?_
              rotate_left
              · intro w hSw
                try dsimp only at hSw
                go_simp
                try with_reducible rfl
              try simp only [Act.put, List.setIfInBounds_toArray, List.set_cons_zero, List.set_cons_succ]
              refine wpAnyH_take (i := 17) (v := ?_) rfl (by kernel_rfl) (by kernel_rfl) (by kernel_rfl) (fun _ _ _ h => h) (Or.inl ⟨by rfl, ?_⟩) hHeld ?_
              rotate_left
              · intro w hSw
                try dsimp only at hSw
                go_simp
                try with_reducible rfl
              try simp only [Act.put, List.setIfInBounds_toArray, List.set_cons_zero, List.set_cons_succ]
              have HG9 := Lib.hid (HFIN.out w9 A9 c9 hb9 ho9)
              obtain ⟨y0, y1, y2⟩ := HCL.out _ hb9
              refine wpAnyH_done (by kernel_rfl) ?_ _
              clear ho9 hg9 ha9 hb9 ho7 hb7 hHeld
              unfold LastQ
              go_simp
              go_wp2_with fail
              go_ret
              exact HG9.out
end

end Go.Proofs.Ytchedflfinkppaa
