/-
  The contract of ref05's Firm.
-/
import Derived.Test.YtchedflfinkppaaRef4
import Derived.Deep.RegionHeld3
namespace Go.Proofs.Ytchedflfinkppaa
open Go.RowKit Go.Maps

def rfirmF (f : RF) : RF := ⟨f.name, f.firm ++ f.loose, []⟩
/-- one file made firm; so many -/
def rfirm1 (L : List RF) (s : ByteArray) : List RF := match L.findIdx? (fun f => decide (f.name = s)) with | some k => L.set k (rfirmF (L.getD k ⟨s, [], []⟩)) | none => L
def rfirmL (L : List RF) (ns : List ByteArray) : List RF := ns.foldl rfirm1 L

theorem findR_some {L : List RF} {s : ByteArray} (h : 0 ≤ findR L s) : ∃ k, ∃ _ : k < L.length, findR L s = (k : Int) ∧ L.findIdx? (fun f => decide (f.name = s)) = some k := by
  unfold findR at *
  cases hf : L.findIdx? (fun f => decide (f.name = s)) with
  | none => rw [hf] at h; exact absurd h (by decide)
  | some k => exact ⟨k, (List.findIdx?_eq_some_iff_getElem.1 hf).1, rfl, rfl⟩
theorem rfirm1_at {L : List RF} {s : ByteArray} {k : Nat} (hk : k < L.length) (h : L.findIdx? (fun f => decide (f.name = s)) = some k) : rfirm1 L s = L.set k ⟨L[k].name, L[k].firm ++ L[k].loose, []⟩ := by
  unfold rfirm1
  rw [h]
  show L.set k (rfirmF (L.getD k ⟨s, [], []⟩)) = _
  rw [List.getD_eq_getElem?_getD, List.getElem?_eq_getElem hk]
  rfl
theorem names_set {L : List RF} {k : Nat} (hk : k < L.length) (f : RF) (hf : f.name = L[k].name) : (L.set k f).map RF.name = L.map RF.name := by
  rw [List.map_set, hf]
  have : L[k].name = (L.map RF.name)[k]'(by simpa using hk) := by simp
  rw [this, List.set_getElem_self]
theorem names_rfirm1 (L : List RF) (s : ByteArray) : (rfirm1 L s).map RF.name = L.map RF.name := by
  cases hf : L.findIdx? (fun f => decide (f.name = s)) with
  | none => unfold rfirm1; rw [hf]
  | some k =>
    have hk := (List.findIdx?_eq_some_iff_getElem.1 hf).1
    rw [rfirm1_at hk hf]
    exact names_set hk _ rfl
theorem findR_names {L M : List RF} (h : L.map RF.name = M.map RF.name) (s : ByteArray) : findR L s = findR M s := by
  have e : ∀ N : List RF, N.findIdx? (fun f => decide (f.name = s)) = (N.map RF.name).findIdx? (fun n => decide (n = s)) := fun N => by rw [List.findIdx?_map]; rfl
  unfold findR
  rw [e L, e M, h]
theorem sumR_set {L : List RF} {k : Nat} (hk : k < L.length) (f : RF) (hf : f.size = L[k].size) : sumR (L.set k f) = sumR L := by
  unfold sumR
  rw [List.map_set, hf]
  have : L[k].size = (L.map RF.size)[k]'(by simpa using hk) := by simp
  rw [this, List.set_getElem_self]
theorem sumR_rfirm1 (L : List RF) (s : ByteArray) : sumR (rfirm1 L s) = sumR L := by
  cases hf : L.findIdx? (fun f => decide (f.name = s)) with
  | none => unfold rfirm1; rw [hf]
  | some k =>
    have hk := (List.findIdx?_eq_some_iff_getElem.1 hf).1
    rw [rfirm1_at hk hf]
    exact sumR_set hk _ (by simp [RF.size])
theorem names_rfirmL : ∀ (ns : List ByteArray) (L : List RF), (rfirmL L ns).map RF.name = L.map RF.name
  | [], L => rfl
  | s :: ns, L => (names_rfirmL ns (rfirm1 L s)).trans (names_rfirm1 L s)
theorem sumR_rfirmL : ∀ (ns : List ByteArray) (L : List RF), sumR (rfirmL L ns) = sumR L
  | [], L => rfl
  | s :: ns, L => (sumR_rfirmL ns (rfirm1 L s)).trans (sumR_rfirm1 L s)
theorem rfirmL_snoc (L : List RF) (ns : List ByteArray) (s : ByteArray) : rfirmL L (ns ++ [s]) = rfirm1 (rfirmL L ns) s := by unfold rfirmL; rw [List.foldl_append]; rfl
theorem len_rfirmL (L : List RF) (ns : List ByteArray) : (rfirmL L ns).length = L.length := by
  have := congrArg List.length (names_rfirmL ns L)
  simpa using this
theorem size_at {L : List RF} {k : Nat} (hk : k < L.length) : L[k].firm.length + L[k].loose.length ≤ sumR L := by
  have h1 := sumR_succ hk
  have h2 := sumR_le L (k + 1)
  omega

/-- what ref05's Firm answers -/
def rfirmE (p : Pw) (L : List RF) (ns : List ByteArray) : Int := if p.spent.down = true then 9 else if allR L ns = true then 0 else 6
def RFirm (w : World) (B : BK) (x : Nat) (p : Pw) (room : Nat) (v : Value) (L : List RF) (ns : List ByteArray) (e : Ending) (w' : World) : Prop :=
  e = .returned (.int .i64 (rfirmE p L ns)) ∧ RD w' B x p.spent room v (if rfirmE p L ns = 0 then rfirmL L ns else L) ∧ AddC x w w' v v

theorem Only.addC {x : Nat} {w w' : World} (h : Only x w w') (v : Value) : AddC x w w' v v := ⟨h.os, h.tape, h.output, h.size, fun g hg h1 _ => h.block g hg h1, .inl rfl⟩
theorem AddC.below {x : Nat} {w w' : World} (h : Below w.heap.size w w') (v : Value) : AddC x w w' v v := ⟨h.os, h.tape, h.output, h.size, fun g hg _ _ => h.block g hg, .inl rfl⟩
theorem AddC.only {x g : Nat} {w w' : World} {v : Value} (h : Only g w w') (hv : v.ownBlock = some g) : AddC x w w' v v := ⟨h.os, h.tape, h.output, h.size, fun g' hg _ h2 => h.block g' hg (fun e => h2 (by rw [hv, e])), .inl rfl⟩

section
variable (w : World) (B : BK) (x room : Nat) (p : Pw) (v : Value) (L : List RF) (s : ByteArray)

/-- One file made firm: the two statements of a round. -/
theorem rfirm_put {w w9 : World} {B : BK} {x room k g c9 n : Nat} {p : Pw} {v : Value} {L : List RF} {A9 : Option Addr} (h : RD w B x p room v L) (hk : k < L.length) (hv : v.ownBlock = some g) (hb : Below w.heap.size w w9) (hn : n = L[k].firm.length + L[k].loose.length)
    (ho : w9.ownsRow w.heap.size 5 1 (.slice A9 n c9) n (u8s (L[k].firm ++ L[k].loose))) :
    RD ((w9.setCell ⟨g, k * 3 + 1, none⟩ (.slice A9 n c9)).setCell ⟨g, k * 3 + 2, none⟩ (.slice none 0 0)) B x p room v (L.set k ⟨L[k].name, L[k].firm ++ L[k].loose, []⟩) ∧
    AddC x w ((w9.setCell ⟨g, k * 3 + 1, none⟩ (.slice A9 n c9)).setCell ⟨g, k * 3 + 2, none⟩ (.slice none 0 0)) v v := by
  have h9 := h.below hb
  obtain ⟨A2, c2, e2, hc2, _, hr2⟩ := Row.of_own ho
  injection e2 with e21 _ e23
  subst e21 e23
  obtain ⟨g', c, hv', hBg, hgx, hgl, _⟩ := h.addr hk
  have hxl := lt_of_block h.blk
  have hB := h.low
  have hgg : g' = g := by
    rw [hv'] at hv
    simpa [Value.ownBlock] using hv
  subst hgg
  have hnl : n = (L[k].firm ++ L[k].loose).length := by rw [List.length_append]; exact hn
  subst hnl
  have hvg : v.ownBlock = some g' := hv
  obtain ⟨k1, k2⟩ := h9.put hk hvg (firm := L[k].firm ++ L[k].loose) (loose := []) (F := A9) (G := none) (cf := c9) (cg := 0) hc2 (Nat.le_refl _)
    (hr2.mono fun q _ sq => ⟨h.new q sq.1, by have := sq.1; omega, fun e => by rw [hvg] at e; injection e with e; have := sq.1; omega⟩) (by simpa [u8s] using Row.nil)
  exact ⟨k1, (AddC.below hb v).trans (AddC.only k2 hvg)⟩

set_option maxRecDepth 100000 in
set_option maxHeartbeats 1000000 in
theorem rfirm_any (S : Nat → Prop) (A : Option Addr) (c : Nat) (ns : List ByteArray) (h : RD w B x p room v L) (hp : p.ok) (hl : L.length ≤ 1000) (hz : sumR L ≤ 1048576) (hr : Row S w A (strs ns)) (hS : ∀ g, S g → g ≠ x ∧ some g ≠ v.ownBlock) (hn : ns.length ≤ 1000) :
    Calls Try.prog 33 #[.pointer (some ⟨x, 0, none⟩), .slice A ns.length c] w fun e w' => RFirm w B x p room v L ns e w' := by
  have HB := Lib.hid (begin_any w B x room p v L h hp)
  have HR := Lib.hid hr
  have HS := Lib.hid hS
  have HKEEP : Hid (∀ W, AddC x w W v v → Row S W A (strs ns)) := fun W hC => HR.out.kept hC.size fun g hg s => hC.block g hg (HS.out g s).1 (HS.out g s).2
  clear h hr hS
  cases hd : p.spent.down with
  | true =>
    have he : p.err = 9 := by unfold Pw.err; rw [hd]; rfl
    have HE : Hid (rfirmE p L ns = 9) := by show _ = _; unfold rfirmE; rw [if_pos hd]
    rw [he] at HB
    clear hd he
    go_enter Try.func33, Try.ntmps33
    go_wp2_with fail
    refine (HB.out).mono ?_
    rintro e w1 ⟨rfl, R1, O1⟩
    have HF : Hid (RFirm w B x p room v L ns (.returned (.int .i64 9)) w1) := ⟨by rw [HE.out], by rw [HE.out]; exact R1, O1.addC v⟩
    clear R1 O1
    go_wp2_with fail
    go_ret
    exact HF.out
  | false =>
    have he : p.err = 0 := by unfold Pw.err; rw [hd]; rfl
    have HE : Hid (rfirmE p L ns = if allR L ns = true then 0 else 6) := by show _ = _; unfold rfirmE; rw [if_neg (by rw [hd]; decide)]
    rw [he] at HB
    clear hd he
    go_enter Try.func33, Try.ntmps33
    go_wp2_with fail
    refine (HB.out).mono ?_
    rintro e w1 ⟨rfl, R1, O1⟩
    have HC1 := Lib.hid (O1.addC v)
    have HAL := Lib.hid (rall_any w1 B x room p.spent v L S A c ns R1 hl (HKEEP.out w1 HC1.out) hn)
    have HR1 := Lib.hid R1
    clear R1 O1 HB
    cases ha : allR L ns with
    | false =>
      rw [ha] at HAL HE
      clear ha
      go_wp2_with fail
      refine (HAL.out).mono ?_
      rintro e w2 ⟨rfl, hb2⟩
      have HF : Hid (RFirm w B x p room v L ns (.returned (.int .i64 6)) w2) := ⟨by rw [HE.out]; rfl, by rw [HE.out]; exact HR1.out.below hb2, HC1.out.trans (AddC.below hb2 v)⟩
      clear hb2
      go_wp2_with fail
      go_ret
      exact HF.out
    | true =>
      rw [ha] at HAL HE
      have HALL : Hid (∀ s ∈ ns, 0 ≤ findR L s) := fun s hs => by
        unfold allR at ha
        simpa using List.all_eq_true.1 ha s hs
      clear ha
      go_wp2_with fail
      refine (HAL.out).mono ?_
      rintro e w2 ⟨rfl, hb2⟩
      have HR2 := Lib.hid (HR1.out.below hb2)
      have HC2 := Lib.hid (HC1.out.trans (AddC.below hb2 v))
      clear hb2 HAL HR1 HC1
      go_wp2_with fail
      go_loopw [7, 8, 20] (fun _ _ i wr => ∃ k : Nat, k ≤ ns.length ∧ i = .int .i64 k ∧ RD wr B x p.spent room v (rfirmL L (ns.take k)) ∧ AddC x w wr v v) (fun _ _ i _ => ns.length - (intOf i).toNat)
      case atStart => exact ⟨0, Nat.zero_le _, rfl, HR2.out, HC2.out⟩
      case round =>
        obtain ⟨k, hk, rfl, R, C⟩ := hrel
        by_cases hlt : k < ns.length
        · obtain ⟨ad, rfl, _, _, hcs⟩ := (HKEEP.out wr C) k (by rw [strs_len]; exact hlt)
          rw [strs_at hlt] at hcs
          have i1 : (k : Int) < (ns.length : Int) := by omega
          obtain ⟨M, hM⟩ : ∃ M, M = rfirmL L (ns.take k) := ⟨_, rfl⟩
          rw [← hM] at R
          have hMl : M.length = L.length := by rw [hM]; exact len_rfirmL _ _
          have hMz : sumR M ≤ 1048576 := by rw [hM, sumR_rfirmL]; exact hz
          have hfind : findR M ns[k] = findR L ns[k] := by rw [hM]; exact findR_names (names_rfirmL _ _) _
          have hpos : 0 ≤ findR M ns[k] := by rw [hfind]; exact HALL.out _ (List.getElem_mem hlt)
          obtain ⟨j, hj, hfj, hidx⟩ := findR_some hpos
          have HNEXT : Hid (rfirmL L (ns.take (k + 1)) = M.set j ⟨M[j].name, M[j].firm ++ M[j].loose, []⟩) := by
            show _ = _
            rw [List.take_succ_eq_append_getElem hlt, rfirmL_snoc, ← hM, rfirm1_at hj hidx]
          have hzj := size_at hj
          obtain ⟨g, cc, hv, hBg, hgx, hgl, hfr⟩ := R.addr hj
          have hvg : v.ownBlock = some g := by rw [hv]; rfl
          have hf := rfind_any wr.drew B x room p.spent v M ns[k] (R.below ((Below.refl _ _).drew)) (by omega)
          rw [hfj] at hf
          have HFI : Hid (Calls Try.prog 32 #[.pointer (some ⟨x, 0, none⟩), .string ns[k]] wr.drew fun e w' => e = .returned (.int .i64 (j : Int)) ∧ Below wr.heap.size wr w') := hf.mono fun e w' ⟨e1, e2⟩ => ⟨e1, ⟨e2.os, e2.tape, e2.output, e2.size, e2.block⟩⟩
          have HRR := Lib.hid R
          have HCC := Lib.hid C
          have HVG := Lib.hid hvg
          have cx := R.cells.2.1
          rw [hv] at cx
          have HCX : Hid (∀ W, Below wr.heap.size wr W → W.cell? ⟨x, 1, none⟩ = some (.slice (some ⟨g, 0, none⟩) M.length cc)) := fun W hW => (hW.cell (lt_of_cell cx)).trans cx
          have hjl : (j : Int) < (M.length : Int) := by omega
          obtain ⟨csR, hoR, hcR⟩ := R.row
          obtain ⟨_, ⟨F, cf, f1, f2, f3⟩, G, cg, g1, g2, g3⟩ := hcR.2 j hj
          have k1 := hoR.cells (g := g) hvg _ _ f1
          have k2 := hoR.cells (g := g) hvg _ _ g1
          rw [Addr.add_lit, Nat.zero_add] at k1 k2
          have HFC : Hid (∀ W, Below wr.heap.size wr W → W.cell? ⟨g, j * 3 + 1, none⟩ = some (.slice F M[j].firm.length cf) ∧ W.cell? ⟨g, j * 3 + 2, none⟩ = some (.slice G M[j].loose.length cg)) := fun W hW => ⟨(hW.cell (lt_of_cell k1)).trans k1, (hW.cell (lt_of_cell k2)).trans k2⟩
          have HCP : Hid (∀ W, Below wr.heap.size wr W → Calls Try.prog 57 #[.slice F M[j].firm.length cf] W fun e w' => ∃ A c, e = .returned (.slice A M[j].firm.length c) ∧ w'.ownsRow W.heap.size 5 1 (.slice A M[j].firm.length c) M[j].firm.length (u8s M[j].firm) ∧ Below W.heap.size W w') := fun W hW => by
            refine (rcopy_any _ F cf M[j].firm W (f3.below hW) (by omega)).mono ?_
            rintro e w' ⟨A', c', rfl, ho, hb'⟩
            exact ⟨A', c', rfl, ho, hb'⟩
          have HRL : Hid (∀ W, Below wr.heap.size wr W → Row (fun _ => True) W G (u8s M[j].loose)) := fun W hW => (g3.below hW).any
          have HLL := Lib.hid (u8s_len M[j].loose)
          have H1C := Lib.hid (u8s_one M[j].loose)
          have hap : u8s M[j].firm ++ u8s M[j].loose = u8s (M[j].firm ++ M[j].loose) := by simp [u8s]
          have HFIN : Hid (∀ w5 A9 c9 w9, Below wr.heap.size wr w5 → w9.ownsRow w5.heap.size 5 1 (.slice A9 (M[j].firm.length + M[j].loose.length) c9) (M[j].firm.length + M[j].loose.length) (u8s M[j].firm ++ u8s M[j].loose) → Below w5.heap.size w5 w9 →
              (w9.cell? ⟨g, j * 3 + 1, none⟩ = some (.slice F M[j].firm.length cf) ∧ w9.frozen? ⟨g, j * 3 + 1, none⟩ = false ∧ w9.cell? ⟨g, j * 3 + 2, none⟩ = some (.slice G M[j].loose.length cg) ∧ w9.frozen? ⟨g, j * 3 + 2, none⟩ = false) ∧
              RD ((w9.setCell ⟨g, j * 3 + 1, none⟩ (.slice A9 (M[j].firm.length + M[j].loose.length) c9)).setCell ⟨g, j * 3 + 2, none⟩ (.slice none 0 0)) B x p.spent room v (rfirmL L (ns.take (k + 1))) ∧
              AddC x w ((w9.setCell ⟨g, j * 3 + 1, none⟩ (.slice A9 (M[j].firm.length + M[j].loose.length) c9)).setCell ⟨g, j * 3 + 2, none⟩ (.slice none 0 0)) v v) := fun w5 A9 c9 w9 hb5 ho9 hb9 => by
            have R5 := R.below hb5
            have hb59 : Below wr.heap.size wr w9 := hb5.trans (hb9.mono hb5.size)
            obtain ⟨m1, m2⟩ := HFC.out w9 hb59
            have R9 := R.below hb59
            obtain ⟨g9, c9', hv9, _, _, _, fr9⟩ := R9.addr hj
            have hgg : g9 = g := by
              rw [hv9] at hvg
              simpa [Value.ownBlock] using hvg
            subst hgg
            obtain ⟨q1, q2⟩ := rfirm_put R5 hj hvg hb9 rfl (by rw [← hap]; exact ho9)
            refine ⟨⟨m1, fr9 _, m2, fr9 _⟩, by rw [HNEXT.out]; exact q1, (C.trans (AddC.below hb5 v)).trans q2⟩
          have HSK := Lib.hid hlt
          clear hf hM hMl hfind hpos hfj hidx R C hv hvg hoR hcR f1 f2 f3 g1 g2 g3 k1 k2 hap
          generalize ns[k] = sk at *
          generalize u8s M[j].firm = uf at *
          generalize u8s M[j].loose = ul at *
          generalize M[j].firm.length = lf at *
          generalize M[j].loose.length = lg at *
          go_wp2_with fail
          go_region_held3 (fun w' => w'.cell? ⟨x, 1, none⟩ = some (.slice (some ⟨g, 0, none⟩) M.length cc)) (first | exact cx | exact HCX.out _ hb5 | fail)
            (first | (go_at_call 32; refine (HFI.out).mono ?_; rintro e w5 ⟨rfl, hb5⟩) | fail)
          have HB5 := Lib.hid hb5
          have hb5d : Below wr.heap.size wr w5.drew := hb5.drew
          have hb55 : Below w5.heap.size w5 w5.drew := (Below.refl _ _).drew
          obtain ⟨m1, m2⟩ := HFC.out w5 hb5
          obtain ⟨m1d, m2d⟩ := HFC.out w5.drew hb5d
          have HCP5 : Hid (Calls Try.prog 57 #[.slice F lf cf] w5.drew fun e w' => ∃ A c, e = .returned (.slice A lf c) ∧ w'.ownsRow w5.heap.size 5 1 (.slice A lf c) lf uf ∧ Below w5.heap.size w5 w') := (HCP.out w5.drew hb5d).mono fun e w' ⟨A, c, e1, e2, e3⟩ => ⟨A, c, e1, e2, ⟨e3.os, e3.tape, e3.output, e3.size, e3.block⟩⟩
          clear hb5 cx
          go_wp2_with fail
          go_region_law
            (first
              | (go_simp; go_at_call 57; refine (HCP5.out).mono ?_; rintro e w7 ⟨A7, c7, rfl, ho7, hb7⟩; obtain ⟨s1, s2⟩ := HFC.out w7 (HB5.out.trans (hb7.mono HB5.out.size)))
              | (refine step_append_bytes (by rfl) (.tmp 38) (.tmp 42) (by rfl) w5.heap.size _ lf uf (by rfl) ho7 (fun _ => True) G lg cg ul (by rfl) HLL.out (HRL.out _ (HB5.out.trans (hb7.mono HB5.out.size))) H1C.out (by omega) hb7.size ?_; intro A9 c9 w9 ho9 hg9 ha9; have hb9 : Below w5.heap.size w5 w9 := hb7.grown hg9 hb7.size (fun g e => (own_lt ho7 e).1); have HF9 := Lib.hid (HFIN.out w5 A9 c9 w9 HB5.out ho9 hb9); obtain ⟨t1, t1f, t2, t2f⟩ := (HF9.out).1)
              | fail)
          all_goals
            have HG := Lib.hid (HF9.out).2
            clear ho9 hg9 ha9 hb9 ho7 hb7 HF9
            go_wp2_with fail
            go_roundw
            case rel => exact ⟨k + 1, by omega, by go_num, HG.out.1, HG.out.2⟩
            case measure => simp [intOf]; omega
        · have i1 : ¬ (k : Int) < (ns.length : Int) := by omega
          rw [List.take_of_length_le (by omega)] at R
          have HF : Hid (RFirm w B x p room v L ns (.returned (.int .i64 0)) wr) := ⟨by rw [HE.out]; rfl, by rw [HE.out]; exact R, C⟩
          clear R C
          go_wp2_with fail
          go_ret
          exact HF.out
end

end Go.Proofs.Ytchedflfinkppaa
