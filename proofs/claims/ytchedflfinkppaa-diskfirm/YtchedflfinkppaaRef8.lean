/-
  The contract of ref05's Crash.
-/
import Derived.Test.YtchedflfinkppaaRef7
import Derived.Test.YtchedflfinkppaaCrash
namespace Go.Proofs.Ytchedflfinkppaa
open Go.RowKit Go.Maps

/-- one file behind a crash; the first k of them -/
def rcr1 (keep : List Int) (i : Nat) (f : RF) : RF := ⟨f.name, f.firm ++ f.loose.take (keptN i keep f.loose.length), []⟩
def rcrL (L : List RF) (keep : List Int) (k : Nat) : List RF := (List.range k).foldl (fun M i => M.set i (rcr1 keep i (M.getD i ⟨⟨#[]⟩, [], []⟩))) L
theorem rcrL_succ (L : List RF) (keep : List Int) (k : Nat) : rcrL L keep (k + 1) = (rcrL L keep k).set k (rcr1 keep k ((rcrL L keep k).getD k ⟨⟨#[]⟩, [], []⟩)) := by
  rw [rcrL, List.range_succ, List.foldl_append]
  rfl
theorem rcrL_len (L : List RF) (keep : List Int) : ∀ k, (rcrL L keep k).length = L.length
  | 0 => rfl
  | k + 1 => by rw [rcrL_succ, List.length_set, rcrL_len L keep k]
theorem sumR_set_le {L : List RF} {k : Nat} (hk : k < L.length) (f : RF) (hf : f.size ≤ L[k].size) : sumR (L.set k f) ≤ sumR L := by
  induction L generalizing k with
  | nil => exact absurd hk (Nat.not_lt_zero _)
  | cons a t ih =>
    cases k with
    | zero => simp [sumR] at *; exact hf
    | succ k =>
      have h := ih (k := k) (by simpa using hk) (by simpa using hf)
      simp [sumR] at *
      exact h
theorem rcrL_sum (L : List RF) (keep : List Int) : ∀ k, k ≤ L.length → sumR (rcrL L keep k) ≤ sumR L
  | 0, _ => Nat.le_refl _
  | k + 1, h => by
    have hk : k < (rcrL L keep k).length := by rw [rcrL_len]; omega
    rw [rcrL_succ]
    refine Nat.le_trans (sumR_set_le hk _ ?_) (rcrL_sum L keep k (by omega))
    rw [List.getD_eq_getElem?_getD, List.getElem?_eq_getElem hk]
    simp [rcr1, RF.size]
    omega

def RCrash (w : World) (B : BK) (x : Nat) (p : Pw) (room : Nat) (v : Value) (L : List RF) (keep : List Int) (e : Ending) (w' : World) : Prop :=
  e = .returned (.tuple #[]) ∧ RD w' B x ⟨false, false, p.left⟩ room v (rcrL L keep L.length) ∧ AddC x w w' v v

section
variable (w : World) (B : BK) (x room : Nat) (p : Pw) (v : Value) (L : List RF)

set_option maxRecDepth 100000 in
set_option maxHeartbeats 1000000 in
theorem rcrash_any (S : Nat → Prop) (A : Option Addr) (c : Nat) (keep : List Int) (h : RD w B x p room v L) (hl : L.length ≤ 1000) (hz : sumR L ≤ 1048576) (hr : Row S w A (i64s keep)) (hS : ∀ g, S g → g ≠ x ∧ some g ≠ v.ownBlock) (hn : keep.length ≤ 1000000) :
    Calls Try.prog 31 #[.pointer (some ⟨x, 0, none⟩), .slice A keep.length c] w fun e w' => RCrash w B x p room v L keep e w' := by
  have HR := Lib.hid hr
  have HS := Lib.hid hS
  have HKEEP : Hid (∀ W, AddC x w W v v → Row S W A (i64s keep)) := fun W hC => HR.out.kept hC.size fun g hg s => hC.block g hg (HS.out g s).1 (HS.out g s).2
  clear hr hS
  have HD := Lib.hid h
  obtain ⟨_, c1, _, _, _⟩ := h.cells
  obtain ⟨FA, fc, hvv, hfc, hF⟩ := h.files
  rw [hvv] at c1
  clear h hF
  go_enter Try.func31, Try.ntmps31
  go_wp2_with fail
  go_loopw [4, 5, 6, 14] (fun _ _ _ i wr => ∃ k : Nat, k ≤ L.length ∧ i = .int .i64 k ∧ RD wr B x p room v (rcrL L keep k) ∧ AddC x w wr v v) (fun _ _ _ i _ => L.length - (intOf i).toNat)
  case atStart => exact ⟨0, Nat.zero_le _, rfl, HD.out, AddC.below (Below.refl _ _) v⟩
  case round =>
    obtain ⟨k, hk, rfl, R, C⟩ := hrel
    by_cases hlt : k < L.length
    · have i1 : (k : Int) < (L.length : Int) := by omega
      obtain ⟨M, hM⟩ : ∃ M, M = rcrL L keep k := ⟨_, rfl⟩
      rw [← hM] at R
      have hMl : M.length = L.length := by rw [hM]; exact rcrL_len _ _ _
      have hMz : sumR M ≤ sumR L := by rw [hM]; exact rcrL_sum _ _ _ hk
      have hkM : k < M.length := by omega
      have hzk := size_at hkM
      have HNEXT : Hid (rcrL L keep (k + 1) = M.set k ⟨M[k].name, M[k].firm ++ M[k].loose.take (keptN k keep M[k].loose.length), []⟩) := by
        show _ = _
        rw [rcrL_succ, ← hM, List.getD_eq_getElem?_getD, List.getElem?_eq_getElem hkM]
        rfl
      obtain ⟨g, cc, hv, hBg, hgx, hgl, hfr⟩ := R.addr hkM
      have hvg : v.ownBlock = some g := by rw [hv]; rfl
      have cx := R.cells.2.1
      rw [hv, hMl] at cx
      obtain ⟨F, cf, G, cg, hcf, hcg, hfc⟩ := file_cells R hkM hvg
      have HFC := Lib.hid hfc
      obtain ⟨k1, k2, k1f, k2f, _, _⟩ := hfc wr (Below.refl _ _)
      have HRK := Lib.hid (HKEEP.out wr C)
      have hml := keptN_le k keep M[k].loose.length
      have HKV : Hid (∀ lg, lg = M[k].loose.length → keptN k keep lg = keptN k keep M[k].loose.length) := fun lg e => by rw [e]
      obtain ⟨m, hm⟩ : ∃ m, m = keptN k keep M[k].loose.length := ⟨_, rfl⟩
      rw [← hm] at hml
      have HRR := Lib.hid R
      have HCC := Lib.hid C
      have HVG := Lib.hid hvg
      obtain ⟨lf, hlf⟩ : ∃ y, y = M[k].firm.length := ⟨_, rfl⟩
      obtain ⟨lg, hlg⟩ : ∃ y, y = M[k].loose.length := ⟨_, rfl⟩
      rw [← hlf] at k1 hcf hzk
      rw [← hlg] at k2 hcg hzk hml hm
      have HLF := Lib.hid hlf
      have HLG := Lib.hid hlg
      have HM := Lib.hid hm
      have hwm : IntKind.i64.wrap (m : Int) = (m : Int) := by rw [IntKind.wrap_i64]; omega
      have hm0 : (0 : Int) ≤ (m : Int) := by omega
      have hmc : (m : Int) ≤ (cg : Int) := by omega
      have hmc' : m ≤ cg := by omega
      have HLL : Hid ((u8s (M[k].loose.take m)).length = m) := by show _ = _; rw [u8s_len, List.length_take, ← HLG.out]; omega
      have H1C := Lib.hid (u8s_one (M[k].loose.take m))
      have HRL : Hid (∀ W, Below wr.heap.size wr W → Row (fun _ => True) W G (u8s (M[k].loose.take m))) := fun W hW => by
        rw [← u8s_take]
        exact ((hfc W hW).2.2.2.2.2.take m).any
      have HCP : Hid (∀ W, Below wr.heap.size wr W → Calls Try.prog 57 #[.slice F lf cf] W fun e w' => ∃ A c, e = .returned (.slice A lf c) ∧ w'.ownsRow W.heap.size 5 1 (.slice A lf c) lf (u8s M[k].firm) ∧ Below W.heap.size W w') := fun W hW => by
        have hcp := rcopy_any (fun q => B.K q ∧ q ≠ x ∧ some q ≠ v.ownBlock) F cf M[k].firm W (hfc W hW).2.2.2.2.1 (by rw [← HLF.out]; omega)
        unfold GivesO at hcp
        rw [← HLF.out] at hcp
        exact hcp.mono fun e w' ⟨A', c', e1, e2, e3⟩ => ⟨A', c', e1, e2, e3⟩
      have HFC2 : Hid (∀ W, Below wr.heap.size wr W → W.cell? ⟨g, k * 3 + 1, none⟩ = some (.slice F lf cf) ∧ W.cell? ⟨g, k * 3 + 2, none⟩ = some (.slice G lg cg) ∧ W.frozen? ⟨g, k * 3 + 1, none⟩ = false ∧ W.frozen? ⟨g, k * 3 + 2, none⟩ = false) := fun W hW => by
        obtain ⟨a1, a2, a3, a4, _, _⟩ := HFC.out W hW
        rw [← HLF.out] at a1
        rw [← HLG.out] at a2
        exact ⟨a1, a2, a3, a4⟩
      have HFIN : Hid (∀ w5 A9 c9 w9, Below wr.heap.size wr w5 → w9.ownsRow w5.heap.size 5 1 (.slice A9 (lf + m) c9) (lf + m) (u8s M[k].firm ++ u8s (M[k].loose.take m)) → Below w5.heap.size w5 w9 →
          RD ((w9.setCell ⟨g, k * 3 + 1, none⟩ (.slice A9 (lf + m) c9)).setCell ⟨g, k * 3 + 2, none⟩ (.slice none 0 0)) B x p room v (rcrL L keep (k + 1)) ∧
          AddC x w ((w9.setCell ⟨g, k * 3 + 1, none⟩ (.slice A9 (lf + m) c9)).setCell ⟨g, k * 3 + 2, none⟩ (.slice none 0 0)) v v) := fun w5 A9 c9 w9 hb5 ho9 hb9 => by
        have hap : u8s M[k].firm ++ u8s (M[k].loose.take m) = u8s (M[k].firm ++ M[k].loose.take m) := by simp [u8s]
        rw [hap] at ho9
        obtain ⟨a1, a2, a3⟩ := own_new (HRR.out.below hb5) HVG.out ho9
        obtain ⟨q1, q2⟩ := ((HRR.out.below hb5).below hb9).put hkM HVG.out (firm := M[k].firm ++ M[k].loose.take m) (loose := []) (F := A9) (G := none) (cf := c9) (cg := 0) (by omega) (Nat.le_refl _) a3 (by simpa [u8s] using Row.nil)
        rw [← a2] at q1 q2
        refine ⟨?_, ((HCC.out.trans (AddC.below hb5 v)).trans (AddC.below hb9 v)).trans (AddC.only q2 HVG.out)⟩
        rw [HNEXT.out, ← HLG.out, ← HM.out]
        exact q1
      clear R C hv hvg hfc hM HKV hlf hlg hfr HNEXT HRR HCC HFC HVG HM
      clear HLF HLG
      generalize u8s M[k].firm = uf at *
      generalize u8s (M[k].loose.take m) = ul at *
      by_cases h1 : k < keep.length
      · obtain ⟨ad, rfl, _, _, hc⟩ := HRK.out k (by rw [i64s_len]; exact h1)
        rw [i64s_at h1] at hc
        have j1 : (k : Int) < (keep.length : Int) := by omega
        by_cases h2 : 0 < keep[k]
        · have hmv : m = (keep[k]).toNat % (lg + 1) := by rw [hm]; unfold keptN; rw [List.getElem?_eq_getElem h1]; simp; intro h; omega
          obtain ⟨y, hy⟩ : ∃ y : Nat, keep[k] = (y : Int) := ⟨(keep[k]).toNat, by omega⟩
          rw [hy] at hc hmv h2
          rw [Int.toNat_natCast] at hmv
          have t1 : Int.tmod (y : Int) ((lg : Int) + 1) = (m : Int) := by
            rw [hmv, Int.tmod_eq_emod_of_nonneg (by omega), Int.natCast_emod, Int.natCast_add]
            rfl
          have t2 : (y : Int) % ((lg : Int) + 1) = (m : Int) := by rw [hmv, Int.natCast_emod, Int.natCast_add]; rfl
          clear hy hmv hm HRK
          have wl1 : IntKind.i64.wrap ((lg : Int) + 1) = (lg : Int) + 1 := by rw [IntKind.wrap_i64]; omega
          have wl2 : ¬ ((lg : Int) + 1 = 0) := by omega
          obtain ⟨_, e2d, _, _⟩ := HFC2.out wr.drew ((Below.refl _ _).drew)
          go_wp2_with fail
          go_quiet (fail)
          obtain ⟨w3, hw3⟩ : ∃ y, y = wr.drewN nq := ⟨_, rfl⟩
          have hb3 : Below wr.heap.size wr w3 := by rw [hw3]; exact ⟨rfl, rfl, rfl, Nat.le_refl _, fun _ _ => rfl⟩
          rw [← hw3]
          clear hw3
          obtain ⟨n1, n2, n1f, n2f⟩ := HFC2.out w3 hb3
          have hb55 : Below wr.heap.size wr w3.drew := hb3.drew
          obtain ⟨m1d, m2d, _, _⟩ := HFC2.out w3.drew hb55
          have HCP5 : Hid (Calls Try.prog 57 #[.slice F lf cf] w3.drew fun e w' => ∃ A c, e = .returned (.slice A lf c) ∧ w'.ownsRow w3.heap.size 5 1 (.slice A lf c) lf uf ∧ Below w3.heap.size w3 w') := (HCP.out w3.drew hb55).mono fun e w' ⟨A, c, e1, e2, e3⟩ => ⟨A, c, e1, e2, ⟨e3.os, e3.tape, e3.output, e3.size, e3.block⟩⟩
          go_wp2_with fail
          go_region_law
            (first
              | (go_simp; go_at_call 57; refine (HCP5.out).mono ?_; rintro e w7 ⟨A7, c7, rfl, ho7, hb7⟩; obtain ⟨s1, s2, s1f, s2f⟩ := HFC2.out w7 (hb3.trans (hb7.mono hb3.size)))
              | (refine step_append_bytes (by rfl) (.tmp 51) (.tmp 57) (by rfl) w3.heap.size _ lf uf (by rfl) ho7 (fun _ => True) G m cg ul (by rfl) HLL.out (HRL.out _ (hb3.trans (hb7.mono hb3.size))) H1C.out (by omega) hb7.size ?_; intro A9 c9 w9 ho9 hg9 ha9; have hb9 : Below w3.heap.size w3 w9 := hb7.grown hg9 hb7.size (fun g e => (own_lt ho7 e).1); have HF9 := Lib.hid (HFIN.out w3 A9 c9 w9 hb3 ho9 hb9); obtain ⟨t1, t2, t1f, t2f⟩ := HFC2.out w9 (hb3.trans (hb9.mono hb3.size)))
              | fail)
          all_goals
            have HG := Lib.hid (HF9.out)
            clear ho9 hg9 ha9 hb9 ho7 hb7 HF9
            go_wp2_with fail
            go_roundw
            case rel => exact ⟨k + 1, by omega, by go_num, HG.out.1, HG.out.2⟩
            case measure => simp [intOf]; omega
        · have hmv : m = 0 := by
            rw [hm]; unfold keptN; rw [List.getElem?_eq_getElem h1]
            by_cases h3 : keep[k] < 0
            · simp [h3]
            · have h4 : keep[k] = 0 := by omega
              simp [h4]
          subst hmv
          generalize keep[k] = y at *
          clear hm HRK
          have hb55 : Below wr.heap.size wr wr.drew := (Below.refl _ _).drew
          obtain ⟨m1d, m2d, _, _⟩ := HFC2.out wr.drew hb55
          have HCP5 : Hid (Calls Try.prog 57 #[.slice F lf cf] wr.drew fun e w' => ∃ A c, e = .returned (.slice A lf c) ∧ w'.ownsRow wr.heap.size 5 1 (.slice A lf c) lf uf ∧ Below wr.heap.size wr w') := (HCP.out wr.drew hb55).mono fun e w' ⟨A, c, e1, e2, e3⟩ => ⟨A, c, e1, e2, ⟨e3.os, e3.tape, e3.output, e3.size, e3.block⟩⟩
          go_wp2_with fail
          go_region_law
            (first
              | (go_simp; go_at_call 57; refine (HCP5.out).mono ?_; rintro e w7 ⟨A7, c7, rfl, ho7, hb7⟩; obtain ⟨s1, s2, s1f, s2f⟩ := HFC2.out w7 hb7)
              | (refine step_append_bytes (by rfl) (.tmp 51) (.tmp 57) (by rfl) wr.heap.size _ lf uf (by rfl) ho7 (fun _ => True) G 0 cg ul (by rfl) HLL.out (HRL.out _ hb7) H1C.out (by omega) hb7.size ?_; intro A9 c9 w9 ho9 hg9 ha9; have hb9 : Below wr.heap.size wr w9 := hb7.grown hg9 hb7.size (fun g e => (own_lt ho7 e).1); have HF9 := Lib.hid (HFIN.out wr A9 c9 w9 (Below.refl _ _) ho9 hb9); obtain ⟨t1, t2, t1f, t2f⟩ := HFC2.out w9 hb9)
              | fail)
          all_goals
            have HG := Lib.hid (HF9.out)
            clear ho9 hg9 ha9 hb9 ho7 hb7 HF9
            go_wp2_with fail
            go_roundw
            case rel => exact ⟨k + 1, by omega, by go_num, HG.out.1, HG.out.2⟩
            case measure => simp [intOf]; omega
      · have hmv : m = 0 := by rw [hm]; unfold keptN; rw [List.getElem?_eq_none (by omega)]
        have j1 : ¬ (k : Int) < (keep.length : Int) := by omega
        subst hmv
        clear hm HRK
        have hb55 : Below wr.heap.size wr wr.drew := (Below.refl _ _).drew
        obtain ⟨m1d, m2d, _, _⟩ := HFC2.out wr.drew hb55
        have HCP5 : Hid (Calls Try.prog 57 #[.slice F lf cf] wr.drew fun e w' => ∃ A c, e = .returned (.slice A lf c) ∧ w'.ownsRow wr.heap.size 5 1 (.slice A lf c) lf uf ∧ Below wr.heap.size wr w') := (HCP.out wr.drew hb55).mono fun e w' ⟨A, c, e1, e2, e3⟩ => ⟨A, c, e1, e2, ⟨e3.os, e3.tape, e3.output, e3.size, e3.block⟩⟩
        go_wp2_with fail
        go_region_law
          (first
            | (go_simp; go_at_call 57; refine (HCP5.out).mono ?_; rintro e w7 ⟨A7, c7, rfl, ho7, hb7⟩; obtain ⟨s1, s2, s1f, s2f⟩ := HFC2.out w7 hb7)
            | (refine step_append_bytes (by rfl) (.tmp 51) (.tmp 57) (by rfl) wr.heap.size _ lf uf (by rfl) ho7 (fun _ => True) G 0 cg ul (by rfl) HLL.out (HRL.out _ hb7) H1C.out (by omega) hb7.size ?_; intro A9 c9 w9 ho9 hg9 ha9; have hb9 : Below wr.heap.size wr w9 := hb7.grown hg9 hb7.size (fun g e => (own_lt ho7 e).1); have HF9 := Lib.hid (HFIN.out wr A9 c9 w9 (Below.refl _ _) ho9 hb9); obtain ⟨t1, t2, t1f, t2f⟩ := HFC2.out w9 hb9)
            | fail)
        all_goals
          have HG := Lib.hid (HF9.out)
          clear ho9 hg9 ha9 hb9 ho7 hb7 HF9
          go_wp2_with fail
          go_roundw
          case rel => exact ⟨k + 1, by omega, by go_num, HG.out.1, HG.out.2⟩
          case measure => simp [intOf]; omega
    · have i1 : ¬ (k : Int) < (L.length : Int) := by omega
      obtain rfl : k = L.length := by omega
      obtain ⟨_, _, _, c3, c4⟩ := R.cells
      have f3 := R.free 3
      have f4 := R.free 4
      have HE : Hid (RD ((wr.setCell ⟨x, 4, none⟩ (.bool false)).setCell ⟨x, 3, none⟩ (.bool false)) B x ⟨false, false, p.left⟩ room v (rcrL L keep L.length) ∧ AddC x w ((wr.setCell ⟨x, 4, none⟩ (.bool false)).setCell ⟨x, 3, none⟩ (.bool false)) v v) :=
        ⟨R.power (((Only.refl x wr).set _ _).set _ _) (r5_set3 (r5_set4 R.blk)), C.trans (Only.addC (((Only.refl x wr).set _ _).set _ _) v)⟩
      clear R C
      go_wp2_with fail
      rw [← hvv]
      go_end0
      exact ⟨rfl, HE.out.1, HE.out.2⟩
end

end Go.Proofs.Ytchedflfinkppaa
