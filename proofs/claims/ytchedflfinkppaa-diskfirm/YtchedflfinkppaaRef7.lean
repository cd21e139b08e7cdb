/-
  The contract of ref05's Trim.
-/
import Derived.Test.YtchedflfinkppaaRef6
namespace Go.Proofs.Ytchedflfinkppaa
open Go.RowKit Go.Maps

/-- a file cut to n bytes -/
def trimF (f : RF) (n : Nat) : RF := if n ≤ f.firm.length then ⟨f.name, f.firm.take n, []⟩ else ⟨f.name, f.firm, f.loose.take (n - f.firm.length)⟩
def rtrimE (p : Pw) (L : List RF) (s : ByteArray) (n : Int) : Int :=
  if p.spent.down = true then 9 else match L.findIdx? (fun f => decide (f.name = s)) with | none => 6 | some k => if n < 0 ∨ (((L.getD k ⟨s, [], []⟩).size : Nat) : Int) < n then 1 else 0
def rtrimL (L : List RF) (s : ByteArray) (n : Int) : List RF := match L.findIdx? (fun f => decide (f.name = s)) with | none => L | some k => L.set k (trimF (L.getD k ⟨s, [], []⟩) n.toNat)
def RTrim (w : World) (B : BK) (x : Nat) (p : Pw) (room : Nat) (v : Value) (L : List RF) (s : ByteArray) (n : Int) (e : Ending) (w' : World) : Prop :=
  e = .returned (.int .i64 (rtrimE p L s n)) ∧ RD w' B x p.spent room v (if rtrimE p L s n = 0 then rtrimL L s n else L) ∧ AddC x w w' v v
theorem getD_at {L : List RF} {s : ByteArray} {k : Nat} (hk : k < L.length) : L.getD k ⟨s, [], []⟩ = L[k] := by
  rw [List.getD_eq_getElem?_getD, List.getElem?_eq_getElem hk]; rfl

section
variable (w : World) (B : BK) (x room : Nat) (p : Pw) (v : Value) (L : List RF) (s : ByteArray)

/-- a file's cells, in every world behind w -/
theorem file_cells {w : World} {B : BK} {x room k g : Nat} {p : Pw} {v : Value} {L : List RF} (h : RD w B x p room v L) (hk : k < L.length) (hv : v.ownBlock = some g) :
    ∃ F cf G cg, L[k].firm.length ≤ cf ∧ L[k].loose.length ≤ cg ∧ ∀ W, Below w.heap.size w W → W.cell? ⟨g, k * 3 + 1, none⟩ = some (.slice F L[k].firm.length cf) ∧ W.cell? ⟨g, k * 3 + 2, none⟩ = some (.slice G L[k].loose.length cg) ∧ W.frozen? ⟨g, k * 3 + 1, none⟩ = false ∧ W.frozen? ⟨g, k * 3 + 2, none⟩ = false ∧
      Row (fun q => B.K q ∧ q ≠ x ∧ some q ≠ v.ownBlock) W F (u8s L[k].firm) ∧ Row (fun q => B.K q ∧ q ≠ x ∧ some q ≠ v.ownBlock) W G (u8s L[k].loose) := by
  obtain ⟨csR, hoR, hcR⟩ := h.row
  obtain ⟨_, ⟨F, cf, f1, f2, f3⟩, G, cg, g1, g2, g3⟩ := hcR.2 k hk
  have k1 := hoR.cells (g := g) hv _ _ f1
  have k2 := hoR.cells (g := g) hv _ _ g1
  rw [Addr.add_lit, Nat.zero_add] at k1 k2
  refine ⟨F, cf, G, cg, f2, g2, fun W hW => ?_⟩
  obtain ⟨g9, c9, hv9, _, _, _, fr9⟩ := (h.below hW).addr hk
  have hgg : g9 = g := by
    rw [hv9] at hv
    simpa [Value.ownBlock] using hv
  subst hgg
  exact ⟨(hW.cell (lt_of_cell k1)).trans k1, (hW.cell (lt_of_cell k2)).trans k2, fr9 _, fr9 _, f3.below hW, g3.below hW⟩

theorem own_new {w w9 : World} {B : BK} {x room g c9 n : Nat} {p : Pw} {v : Value} {L : List RF} {A9 : Option Addr} {l : List Int} (h : RD w B x p room v L) (hv : v.ownBlock = some g) (ho : w9.ownsRow w.heap.size 5 1 (.slice A9 n c9) n (u8s l)) : n ≤ c9 ∧ n = l.length ∧ Row (fun q => B.K q ∧ q ≠ x ∧ some q ≠ v.ownBlock) w9 A9 (u8s l) := by
  obtain ⟨A2, c2, e2, hc2, hl2, hr2⟩ := Row.of_own ho
  injection e2 with e21 _ e23
  subst e21 e23
  have hxl := lt_of_block h.blk
  have hB := h.low
  obtain ⟨cs, h1, _⟩ := h.row
  have hgl := (own_lt h1 hv).2
  exact ⟨hc2, by rw [← hl2, u8s_len], hr2.mono fun q _ sq => ⟨h.new q sq.1, by have := sq.1; omega, fun e => by rw [hv] at e; injection e with e; have := sq.1; omega⟩⟩

/-- a file's loose bytes changed in memory -/
theorem RD.putL {w : World} {B : BK} {x room k g : Nat} {p : Pw} {v : Value} {L : List RF} (h : RD w B x p room v L) (hk : k < L.length) (hv : v.ownBlock = some g) {loose : List Int} {G : Option Addr} {cg : Nat} (hg : loose.length ≤ cg)
    (rg : Row (fun g' => B.K g' ∧ g' ≠ x ∧ some g' ≠ v.ownBlock) w G (u8s loose)) :
    RD (w.setCell ⟨g, k * 3 + 2, none⟩ (.slice G loose.length cg)) B x p room v (L.set k ⟨L[k].name, L[k].firm, loose⟩) ∧ Only g w (w.setCell ⟨g, k * 3 + 2, none⟩ (.slice G loose.length cg)) := by
  have ho : Only g w (w.setCell ⟨g, k * 3 + 2, none⟩ (.slice G loose.length cg)) := (Only.refl g w).set _ _
  obtain ⟨cs, h1, h2⟩ := h.row
  have hl := h2.1
  have hgx : x ≠ g := fun e => h.off (by rw [hv, e])
  obtain ⟨_, ⟨F, cf, f1, f2, f3⟩, _⟩ := h2.2 k hk
  have hset : cs.set (k * 3 + 1) (.slice F L[k].firm.length cf) = cs := by
    have hlt : k * 3 + 1 < cs.length := by omega
    rw [List.getElem?_eq_getElem hlt] at f1
    injection f1 with f1
    rw [← f1, List.set_getElem_self]
  have hc := h2.set hk f2 hg f3 rg
  rw [hset] at hc
  refine ⟨⟨(ho.block x (lt_of_block h.blk) hgx).trans h.blk, ⟨_, by rw [List.length_set]; exact own_set h1 hv (by omega), hc.kept ho.size fun g' hg' s => ⟨ho.block g' hg' fun e => s.2.2 (by rw [hv, e]), s⟩⟩, h.off, h.low, h.kx, h.kv, fun g hg => h.new g (Nat.le_trans ho.size hg)⟩, ho⟩

theorem u8s_take (l : List Int) (n : Nat) : (u8s l).take n = u8s (l.take n) := by unfold u8s; rw [List.map_take]

set_option maxRecDepth 100000 in
set_option maxHeartbeats 1000000 in
theorem rtrim_any (n : Int) (h : RD w B x p room v L) (hp : p.ok) (hl : L.length ≤ 1000) (hz : sumR L ≤ 1048576) :
    Calls Try.prog 35 #[.pointer (some ⟨x, 0, none⟩), .string s, .int .i64 n] w fun e w' => RTrim w B x p room v L s n e w' := by
  have HB := Lib.hid (begin_any w B x room p v L h hp)
  clear h
  cases hd : p.spent.down with
  | true =>
    have he : p.err = 9 := by unfold Pw.err; rw [hd]; rfl
    have HE : Hid (rtrimE p L s n = 9) := by show _ = _; unfold rtrimE; rw [if_pos hd]
    rw [he] at HB
    clear hd he
    go_enter Try.func35, Try.ntmps35
    go_wp2_with fail
    refine (HB.out).mono ?_
    rintro e w1 ⟨rfl, R1, O1⟩
    have HF : Hid (RTrim w B x p room v L s n (.returned (.int .i64 9)) w1) := ⟨by rw [HE.out], by rw [HE.out]; exact R1, O1.addC v⟩
    clear R1 O1
    go_wp2_with fail
    go_ret
    exact HF.out
  | false =>
    have he : p.err = 0 := by unfold Pw.err; rw [hd]; rfl
    have hdn : ¬ p.spent.down = true := by rw [hd]; decide
    rw [he] at HB
    rcases findR_low L s with hn | hn
    · have HE : Hid (rtrimE p L s n = 6) := by show _ = _; unfold rtrimE; rw [if_neg hdn, findR_idx hn]
      clear hd he hdn
      go_enter Try.func35, Try.ntmps35
      go_wp2_with fail
      refine (HB.out).mono ?_
      rintro e w1 ⟨rfl, R1, O1⟩
      have hf := rfind_any w1 B x room p.spent v L s R1 hl
      rw [hn] at hf
      have HFI := Lib.hid hf
      have HR1 := Lib.hid R1
      have HC1 := Lib.hid (O1.addC v)
      clear R1 O1 hf HB hn
      go_wp2_with fail
      refine (HFI.out).mono ?_
      rintro e w2 ⟨rfl, hb2⟩
      have HF : Hid (RTrim w B x p room v L s n (.returned (.int .i64 6)) w2) := ⟨by rw [HE.out], by rw [HE.out]; exact HR1.out.below hb2, HC1.out.trans (AddC.below hb2 v)⟩
      clear hb2
      go_wp2_with fail
      go_ret
      exact HF.out
    · obtain ⟨k, hk, hfk, hidx⟩ := findR_some hn
      have hzk := size_at hk
      have HE : Hid (rtrimE p L s n = if n < 0 ∨ ((L[k].firm.length : Int) + (L[k].loose.length : Int)) < n then 1 else 0) := by
        show _ = _
        unfold rtrimE
        rw [if_neg hdn, hidx]
        show (if n < 0 ∨ (((L.getD k ⟨s, [], []⟩).size : Nat) : Int) < n then _ else _) = _
        rw [getD_at hk]
        unfold RF.size
        rw [Int.natCast_add]
      have HL : Hid (rtrimL L s n = L.set k (trimF L[k] n.toNat)) := by
        show _ = _
        unfold rtrimL
        rw [hidx]
        show L.set k (trimF (L.getD k ⟨s, [], []⟩) n.toNat) = _
        rw [getD_at hk]
      clear hd he hdn
      go_enter Try.func35, Try.ntmps35
      go_wp2_with fail
      refine (HB.out).mono ?_
      rintro e w1 ⟨rfl, R1, O1⟩
      have hf := rfind_any w1 B x room p.spent v L s R1 hl
      rw [hfk] at hf
      have HFI := Lib.hid hf
      have HR1 := Lib.hid R1
      have HC1 := Lib.hid (O1.addC v)
      clear R1 O1 hf HB hn hfk hidx
      go_wp2_with fail
      refine (HFI.out).mono ?_
      rintro e w2 ⟨rfl, hb2⟩
      have R2 := HR1.out.below hb2
      have HC2 := Lib.hid (HC1.out.trans (AddC.below hb2 v))
      obtain ⟨g, cc, hv, hBg, hgx, hgl, _⟩ := R2.addr hk
      have hvg : v.ownBlock = some g := by rw [hv]; rfl
      obtain ⟨F, cf, G, cg, hcf, hcg, hfc⟩ := file_cells R2 hk hvg
      have HFC := Lib.hid hfc
      have cx := R2.cells.2.1
      rw [hv] at cx
      have i1 : (k : Int) < (L.length : Int) := by omega
      have i2 : ¬ (k : Int) < 0 := by omega
      obtain ⟨k1, k2, k1f, k2f, rF, rG⟩ := hfc w2 (Below.refl _ _)
      have HR2 := Lib.hid R2
      have HVG := Lib.hid hvg
      have HRF := Lib.hid rF
      have HRG := Lib.hid rG
      have HLN := Lib.hid hl
      clear hb2 R2 hv hvg hfc rF rG HFI HR1 HC1
      obtain ⟨lf, hlf⟩ : ∃ y, y = L[k].firm.length := ⟨_, rfl⟩
      obtain ⟨lg, hlg⟩ : ∃ y, y = L[k].loose.length := ⟨_, rfl⟩
      rw [← hlf] at k1 HE hzk hcf
      rw [← hlg] at k2 HE hzk hcg
      have HLF := Lib.hid hlf
      have HLG := Lib.hid hlg
      clear hlf hlg
      have HBAD : Hid ((n < 0 ∨ (lf : Int) + (lg : Int) < n) → ∀ W, Below w2.heap.size w2 W → RTrim w B x p room v L s n (.returned (.int .i64 1)) W) := fun hb W hW => by
        have h1 := HE.out
        rw [if_pos hb] at h1
        exact ⟨by rw [h1], by rw [h1]; exact HR2.out.below hW, HC2.out.trans (AddC.below hW v)⟩
      by_cases hn0 : n < 0
      · have HF := Lib.hid (fun m => HBAD.out (.inl hn0) (w2.drewN m) ⟨rfl, rfl, rfl, Nat.le_refl _, fun _ _ => rfl⟩)
        have hd0 : decide (n < 0) = true := by simpa using hn0
        clear HBAD k1f k2f
        go_wp2_with fail
        go_quiet (fail)
        go_wp2_with fail
        go_ret
        exact HF.out _
      · have hd0 : decide (n < 0) = false := by simpa using hn0
        have iw : IntKind.i64.wrap ((lf : Int) + (lg : Int)) = (lf : Int) + (lg : Int) := by rw [IntKind.wrap_i64]; omega
        by_cases hn1 : (lf : Int) + (lg : Int) < n
        · have HF := Lib.hid (fun m => HBAD.out (.inr hn1) (w2.drewN m) ⟨rfl, rfl, rfl, Nat.le_refl _, fun _ _ => rfl⟩)
          clear HBAD k1f k2f
          go_wp2_with fail
          go_quiet (fail)
          go_wp2_with fail
          go_ret
          exact HF.out _
        · obtain ⟨m, rfl⟩ : ∃ m : Nat, n = (m : Int) := ⟨n.toNat, by omega⟩
          have hml : m ≤ lf + lg := by omega
          have h1 := HE.out
          rw [if_neg (by omega)] at h1
          have HZ := Lib.hid h1
          have HTL' : rtrimL L s (m : Int) = L.set k (trimF L[k] m) := by have := HL.out; simpa using this
          have HTL := Lib.hid HTL'
          clear HTL'
          clear HBAD h1 HE HL
          go_wp2_with fail
          go_quiet (fail)
          obtain ⟨w3, hw3⟩ : ∃ y, y = w2.drewN nq := ⟨_, rfl⟩
          have hb3 : Below w2.heap.size w2 w3 := by rw [hw3]; exact ⟨rfl, rfl, rfl, Nat.le_refl _, fun _ _ => rfl⟩
          rw [← hw3]
          clear hw3 k1 k2 k1f k2f
          have R3 := HR2.out.below hb3
          have HR3 := Lib.hid R3
          have HC3 := Lib.hid (HC2.out.trans (AddC.below hb3 v))
          obtain ⟨k1, k2, k1f, k2f, rF, rG⟩ := HFC.out w3 hb3
          rw [← HLF.out] at k1
          rw [← HLG.out] at k2
          by_cases hmf : m ≤ lf
          · have hmf' : (m : Int) ≤ (lf : Int) := by omega
            have hmc : m ≤ cf := by omega
            have htk : (L[k].firm.take m).length = m := by rw [List.length_take, ← HLF.out]; omega
            have hcp := rcopy_any (fun q => B.K q ∧ q ≠ x ∧ some q ≠ v.ownBlock) F cf (L[k].firm.take m) w3 (by rw [← u8s_take]; exact rF.take m) (by omega)
            unfold GivesO at hcp
            rw [htk] at hcp
            have HCP := Lib.hid hcp
            have HFIN : Hid (∀ w5 A9 c9, Below w3.heap.size w3 w5 → w5.ownsRow w3.heap.size 5 1 (.slice A9 m c9) m (u8s (L[k].firm.take m)) →
                (w5.cell? ⟨g, k * 3 + 1, none⟩ = some (.slice F lf cf) ∧ w5.frozen? ⟨g, k * 3 + 1, none⟩ = false ∧ w5.cell? ⟨g, k * 3 + 2, none⟩ = some (.slice G lg cg) ∧ w5.frozen? ⟨g, k * 3 + 2, none⟩ = false) ∧
                RTrim w B x p room v L s (m : Int) (.returned (.int .i64 0)) ((w5.setCell ⟨g, k * 3 + 1, none⟩ (.slice A9 m c9)).setCell ⟨g, k * 3 + 2, none⟩ (.slice none 0 0))) := fun w5 A9 c9 hb5 ho => by
              obtain ⟨m1, m2, m1f, m2f, _, _⟩ := HFC.out w5 (hb3.trans (hb5.mono hb3.size))
              rw [← HLF.out] at m1
              rw [← HLG.out] at m2
              refine ⟨⟨m1, m1f, m2, m2f⟩, by rw [HZ.out], ?_, ?_⟩
              all_goals
                obtain ⟨c1, c2, c3⟩ := own_new HR3.out HVG.out ho
                obtain ⟨q1, q2⟩ := (HR3.out.below hb5).put hk HVG.out (firm := L[k].firm.take m) (loose := []) (F := A9) (G := none) (cf := c9) (cg := 0) (by omega) (Nat.le_refl _) c3 (by simpa [u8s] using Row.nil)
                rw [htk] at q1 q2
              · rw [HZ.out, if_pos rfl, HTL.out]
                have : trimF L[k] m = ⟨L[k].name, L[k].firm.take m, []⟩ := by unfold trimF; rw [if_pos (by rw [← HLF.out]; exact hmf)]
                rw [this]; exact q1
              · exact (HC3.out.trans (AddC.below hb5 v)).trans (AddC.only q2 HVG.out)
            clear hcp rF rG R3 htk hb3 HRF HRG
            go_wp2_with fail
            refine (HCP.out).mono ?_
            rintro e w5 ⟨A9, c9, rfl, ho, hb5⟩
            obtain ⟨⟨m1, m1f, m2, m2f⟩, hfin⟩ := HFIN.out w5 A9 c9 hb5 ho
            have HG := Lib.hid hfin
            clear hfin ho hb5
            go_wp2_with fail
            go_ret
            exact HG.out
          · have hmf' : ¬ (m : Int) ≤ (lf : Int) := by omega
            have hd2 : IntKind.i64.wrap ((m : Int) - (lf : Int)) = ((m - lf : Nat) : Int) := by rw [IntKind.wrap_i64]; omega
            have hd3 : (m : Int) - (lf : Int) = ((m - lf : Nat) : Int) := by omega
            obtain ⟨d, hd⟩ : ∃ d, d = m - lf := ⟨_, rfl⟩
            rw [← hd] at hd2 hd3
            have hdg : d ≤ lg := by omega
            have hdg' : (d : Int) ≤ (cg : Int) := by omega
            have hd0' : (0 : Int) ≤ (d : Int) := by omega
            have hdc : d ≤ cg := by omega
            have hwd : IntKind.i64.wrap (d : Int) = (d : Int) := by rw [IntKind.wrap_i64]; omega
            have htk : (L[k].loose.take d).length = d := by rw [List.length_take, ← HLG.out]; omega
            have HD := Lib.hid hd
            have HFIN : Hid (∀ w5 A9 c9, Below w3.heap.size w3 w5 → w5.ownsRow w3.heap.size 5 1 (.slice A9 d c9) d (u8s (L[k].loose.take d)) →
                RTrim w B x p room v L s (m : Int) (.returned (.int .i64 0)) (w5.setCell ⟨g, k * 3 + 2, none⟩ (.slice A9 d c9))) := fun w5 A9 c9 hb5 ho => by
              obtain ⟨c1, c2, c3⟩ := own_new HR3.out HVG.out ho
              obtain ⟨q1, q2⟩ := (HR3.out.below hb5).putL hk HVG.out (loose := L[k].loose.take d) (G := A9) (cg := c9) (by omega) c3
              rw [htk] at q1 q2
              refine ⟨by rw [HZ.out], ?_, (HC3.out.trans (AddC.below hb5 v)).trans (AddC.only q2 HVG.out)⟩
              rw [HZ.out, if_pos rfl, HTL.out]
              have : trimF L[k] m = ⟨L[k].name, L[k].firm, L[k].loose.take d⟩ := by unfold trimF; rw [if_neg (by rw [← HLF.out]; omega), ← HLF.out, HD.out]
              rw [this]; exact q1
            have HFC3 : Hid (∀ W, Below w3.heap.size w3 W → W.cell? ⟨g, k * 3 + 1, none⟩ = some (.slice F lf cf) ∧ W.cell? ⟨g, k * 3 + 2, none⟩ = some (.slice G lg cg) ∧ W.frozen? ⟨g, k * 3 + 2, none⟩ = false) := fun W hW => by
              obtain ⟨m1, m2, _, m2f, _, _⟩ := HFC.out W (hb3.trans (hW.mono hb3.size))
              rw [← HLF.out] at m1
              rw [← HLG.out] at m2
              exact ⟨m1, m2, m2f⟩
            have HCP : Hid (Calls Try.prog 57 #[.slice G d cg] w3.drew fun e w' => ∃ A c, e = .returned (.slice A d c) ∧ w'.ownsRow w3.heap.size 5 1 (.slice A d c) d (u8s (L[k].loose.take d)) ∧ Below w3.heap.size w3 w') := by
              have hcp := rcopy_any (fun q => B.K q ∧ q ≠ x ∧ some q ≠ v.ownBlock) G cg (L[k].loose.take d) w3.drew (by rw [← u8s_take]; exact (rG.below ((Below.refl _ _).drew)).take d) (by omega)
              unfold GivesO at hcp
              rw [htk] at hcp
              exact hcp.mono fun e w' ⟨A, c, e1, e2, e3⟩ => ⟨A, c, e1, e2, ⟨e3.os, e3.tape, e3.output, e3.size, e3.block⟩⟩
            obtain ⟨m1, m2, m2f⟩ := HFC3.out w3.drew ((Below.refl _ _).drew)
            clear hd rF rG R3 htk hb3 HRF HRG
            go_wp2_with fail
            go_region_law
              (first
                | (go_simp; go_at_call 57; refine (HCP.out).mono ?_; rintro e w5 ⟨A9, c9, rfl, ho, hb5⟩; obtain ⟨s1, s2, s2f⟩ := HFC3.out w5 hb5)
                | fail)
            all_goals
              have HG := Lib.hid (HFIN.out w5 A9 c9 hb5 ho)
              clear ho hb5
              go_wp2_with fail
              go_ret
              exact HG.out
end

end Go.Proofs.Ytchedflfinkppaa
