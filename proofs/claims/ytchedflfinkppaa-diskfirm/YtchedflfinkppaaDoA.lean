/-
  A call of a script, behind few, beside both disks: what each change of one of them leaves.
-/
import Derived.Test.YtchedflfinkppaaDuo
import Derived.Test.YtchedflfinkppaaTieA
import Derived.Deep.RegionHeld3
namespace Go.Proofs.Ytchedflfinkppaa
open Go.RowKit Go.Maps Go.Sort Go.Shelf
set_option linter.unusedSimpArgs false
set_option linter.unusedVariables false

structure DoS (w0 w : World) (P : Nat → Prop) (b mb x : Nat) (p pr : Pw) (room : Nat) (E : List Ent) (v : Value) (L : List RF) (q : Nat) (o : Opn) (A1 : Option Addr) (c1 : Nat) (A2 : Option Addr) (c2 : Nat) (A3 : Option Addr) (c3 : Nat) : Prop where
  duo : Duo w0 w P b mb x p pr room E v L
  cell : w.heap[q]? = some (.cells [.int .u8 o.d, .string o.nm, .string o.to, .slice A1 o.ns.length c1, .slice A2 o.ps.length c2, .int .i64 o.n, .slice A3 o.ks.length c3].toArray 34 (0, 0))
  at' : OpAt (fun g => P g ∧ g ≠ q) w o A1 c1 A2 c2 A3 c3
  free : FreeT (fun g => P g ∧ g ≠ q) w A2 o.ps.length
  pq : P q

section
variable {w0 w w' : World} {P : Nat → Prop} {b mb x q : Nat} {p p' pr pr' : Pw} {room : Nat} {E E' : List Ent} {v v' : Value} {L L' : List RF} {o : Opn} {A1 A2 A3 : Option Addr} {c1 c2 c3 : Nat}
theorem DoS.go (h : DoS w0 w P b mb x p pr room E v L q o A1 c1 A2 c2 A3 c3) (d : Duo w0 w' P b mb x p' pr' room E' v' L') (hs : w.heap.size ≤ w'.heap.size) (hk : ∀ g, g < w.heap.size → P g → w'.heap[g]? = w.heap[g]?) : DoS w0 w' P b mb x p' pr' room E' v' L' q o A1 c1 A2 c2 A3 c3 := by
  have k : ∀ g, g < w.heap.size → (P g ∧ g ≠ q) → w'.heap[g]? = w.heap[g]? := fun g hg s => hk g hg s.1
  exact ⟨d, (hk q (lt_of_block h.cell) h.pq).trans h.cell, ⟨h.at'.k1, h.at'.k2, h.at'.k3, h.at'.ns.kept hs k, h.at'.ps.kept hs k, h.at'.ks.kept hs k⟩, FreeT.kept h.at'.ps h.free hs (fun g hg s => ⟨k g hg s, s⟩), h.pq⟩
theorem DoS.cells (h : DoS w0 w P b mb x p pr room E v L q o A1 c1 A2 c2 A3 c3) :
    w.cell? ⟨q, 0, none⟩ = some (.int .u8 o.d) ∧ w.cell? ⟨q, 1, none⟩ = some (.string o.nm) ∧ w.cell? ⟨q, 2, none⟩ = some (.string o.to) ∧ w.cell? ⟨q, 3, none⟩ = some (.slice A1 o.ns.length c1) ∧ w.cell? ⟨q, 4, none⟩ = some (.slice A2 o.ps.length c2) ∧ w.cell? ⟨q, 5, none⟩ = some (.int .i64 o.n) ∧ w.cell? ⟨q, 6, none⟩ = some (.slice A3 o.ks.length c3) :=
  ⟨sv_cell h.cell 0, sv_cell h.cell 1, sv_cell h.cell 2, sv_cell h.cell 3, sv_cell h.cell 4, sv_cell h.cell 5, sv_cell h.cell 6⟩
theorem DoS.below (h : DoS w0 w P b mb x p pr room E v L q o A1 c1 A2 c2 A3 c3) (hb : Below w.heap.size w w') : DoS w0 w' P b mb x p pr room E v L q o A1 c1 A2 c2 A3 c3 :=
  h.go (h.duo.below hb) hb.size fun g hg _ => hb.block g hg
theorem DoS.disk {A' : List AFile} (h : DoS w0 w P b mb x p pr room E v L q o A1 c1 A2 c2 A3 c3) (hl : LvTo w0 w w' b mb p' room E A') : ∃ E', abs E' = A' ∧ DoS w0 w' P b mb x p' pr room E' v L q o A1 c1 A2 c2 A3 c3 := by
  obtain ⟨E', h1, h2, h3⟩ := h.duo.disk hl
  exact ⟨E', h1, h.go h2 h3.size fun g hg hp => h3.block g hg (h.duo.np g hp).2.1⟩
theorem DoS.ref (h : DoS w0 w P b mb x p pr room E v L q o A1 c1 A2 c2 A3 c3) : ∃ B : BK, RD w B x pr room v L ∧ (∀ g, (P g ∧ g ≠ q) → g ≠ x ∧ some g ≠ v.ownBlock) ∧ ∀ w' pr' v' L', RD w' B x pr' room v' L' → AddC x w w' v v' → DoS w0 w' P b mb x p pr' room E v' L' q o A1 c1 A2 c2 A3 c3 := by
  obtain ⟨B, h1, h2, h3⟩ := h.duo.ref
  exact ⟨B, h1, fun g hg => h2 g hg.1, fun w' pr' v' L' r c => h.go (h3 w' pr' v' L' r c) c.size fun g hg hp => c.block g hg (h2 g hp).1 (h2 g hp).2⟩
theorem DoS.offE (h : DoS w0 w P b mb x p pr room E v L q o A1 c1 A2 c2 A3 c3) : ∀ g, g < w.heap.size → (P g ∧ g ≠ q) → ¬ Of b mb E g := fun g _ hg => (h.duo.np g hg.1).2.1

/-- a change of the program's disk: what it answers, what it leaves -/
def EndD (w0 : World) (P : Nat → Prop) (b mb x : Nat) (p' pr : Pw) (room : Nat) (v : Value) (L : List RF) (q : Nat) (o : Opn) (A1 : Option Addr) (c1 : Nat) (A2 : Option Addr) (c2 : Nat) (A3 : Option Addr) (c3 : Nat) (r : Int × List AFile) (e : Ending) (w' : World) : Prop :=
  e = .returned (.int .i64 r.1) ∧ ∃ E2, abs E2 = r.2 ∧ DoS w0 w' P b mb x p' pr room E2 v L q o A1 c1 A2 c2 A3 c3
def EndR (w0 : World) (P : Nat → Prop) (b mb x : Nat) (p pr' : Pw) (room : Nat) (E : List Ent) (q : Nat) (o : Opn) (A1 : Option Addr) (c1 : Nat) (A2 : Option Addr) (c2 : Nat) (A3 : Option Addr) (c3 : Nat) (k : Int) (L' : List RF) (e : Ending) (w' : World) : Prop :=
  e = .returned (.int .i64 k) ∧ ∃ v2, DoS w0 w' P b mb x p pr' room E v2 L' q o A1 c1 A2 c2 A3 c3

/-- what few gives isn't much -/
structure OpFew (o : Opn) : Prop where
  nm : o.nm.size ≤ 12
  too : o.to.size ≤ 12
  ns : o.ns.length ≤ 4
  nss : ∀ s ∈ o.ns, s.size ≤ 12
  ps : o.ps.length ≤ 4
  pss : ∀ t ∈ o.ps, t.length ≤ 200
  d : 0 ≤ o.d ∧ o.d < 256
  n : -9223372036854775808 ≤ o.n ∧ o.n ≤ 9223372036854775807
  ks : o.ks.length ≤ 20
  b8 : ∀ t ∈ o.ps, Bytes8 t
theorem OpFew.of {o : Opn} (h : OpOk o) : OpFew (fewO o) :=
  ⟨cutS_size _, cutS_size _, fewNs_len _ _, fewNs_most _ _, fewPs_len _ _, fewPs_most _ _, h.d, h.n, by show (o.ks.take 20).length ≤ 20; rw [List.length_take]; omega, fun t ht => by
    obtain ⟨y, hy, rfl⟩ := List.mem_map.1 ht
    exact fun n hn => h.b8 y (List.mem_of_mem_take hy) n (List.mem_of_mem_take hn)⟩
theorem small_max {n : Nat} (h : n ≤ 12) : n ≤ maxLen := by unfold maxLen; omega

theorem firmD (h : DoS w0 w P b mb x p pr room E v L q o A1 c1 A2 c2 A3 c3) (hf : OpFew o) : Calls Try.prog 16 #[.pointer (some ⟨b, 0, none⟩), .slice A1 o.ns.length c1] w fun e w' => EndD w0 P b mb x p.spent pr room v L q o A1 c1 A2 c2 A3 c3 (firmAll p (abs E) o.ns) e w' := by
  refine (firmAll_lv w0 w b mb p room E A1 c1 o.ns h.duo.lv (h.at'.ns.mono h.offE) (by have := hf.ns; omega) (fun s hs => small_max (hf.nss s hs))).mono ?_
  rintro e w' ⟨e1, hl⟩
  exact ⟨e1, h.disk hl⟩
theorem dropD (h : DoS w0 w P b mb x p pr room E v L q o A1 c1 A2 c2 A3 c3) (hf : OpFew o) : Calls Try.prog 28 #[.pointer (some ⟨b, 0, none⟩), .slice A1 o.ns.length c1] w fun e w' => EndD w0 P b mb x p.spent pr room v L q o A1 c1 A2 c2 A3 c3 (dropAll p (abs E) o.ns) e w' := by
  refine (dropAll_lv w0 w b mb p room E A1 c1 o.ns h.duo.lv (h.at'.ns.mono h.offE) (by have := hf.ns; omega) (fun s hs => small_max (hf.nss s hs))).mono ?_
  rintro e w' ⟨e1, hl⟩
  exact ⟨e1, h.disk hl⟩
theorem swapD (h : DoS w0 w P b mb x p pr room E v L q o A1 c1 A2 c2 A3 c3) (hf : OpFew o) : Calls Try.prog 26 #[.pointer (some ⟨b, 0, none⟩), .string o.nm, .string o.to] w fun e w' => EndD w0 P b mb x p.spent pr room v L q o A1 c1 A2 c2 A3 c3 (swapA p (abs E) o.nm o.to) e w' := by
  refine (swapAll_lv w0 w b mb p room E o.nm o.to h.duo.lv (small_max hf.too) (small_max hf.nm)).mono ?_
  rintro e w' ⟨e1, hl⟩
  exact ⟨e1, h.disk hl⟩
theorem trimD (h : DoS w0 w P b mb x p pr room E v L q o A1 c1 A2 c2 A3 c3) (hf : OpFew o) : Calls Try.prog 27 #[.pointer (some ⟨b, 0, none⟩), .string o.nm, .int .i64 o.n] w fun e w' => EndD w0 P b mb x p.spent pr room v L q o A1 c1 A2 c2 A3 c3 (trimA p (abs E) o.nm o.n) e w' := by
  refine (trim_lv w0 w b mb p room E o.nm o.n h.duo.lv (small_max hf.nm)).mono ?_
  rintro e w' ⟨e1, hl⟩
  exact ⟨e1, h.disk hl⟩
theorem writeD (h : DoS w0 w P b mb x p pr room E v L q o A1 c1 A2 c2 A3 c3) (hf : OpFew o) : Calls Try.prog 19 #[.pointer (some ⟨b, 0, none⟩), .string o.nm, .slice A2 o.ps.length c2] w fun e w' => EndD w0 P b mb x p.spent pr room v L q o A1 c1 A2 c2 A3 c3 (writeA p room (abs E) o.nm o.ps.flatten) e w' := by
  refine (write_lv w0 w b mb p room E o.nm A2 c2 o.ps h.duo.lv (small_max hf.nm) (h.at'.ps.mono h.offE) (by have := hf.ps; omega) (fun t ht => by have := hf.pss t ht; omega)).mono ?_
  rintro e w' ⟨e1, hl⟩
  exact ⟨e1, h.disk hl⟩
theorem crashD (h : DoS w0 w P b mb x p pr room E v L q o A1 c1 A2 c2 A3 c3) (hf : OpFew o) : Calls Try.prog 20 #[.pointer (some ⟨b, 0, none⟩), .slice A3 o.ks.length c3] w fun e w' => e = .returned (.tuple #[]) ∧ ∃ E2, abs E2 = crashA (abs E) o.ks ∧ DoS w0 w' P b mb x Pw.fresh pr room E2 v L q o A1 c1 A2 c2 A3 c3 := by
  refine (crash_lv w0 w b mb p room E A3 c3 o.ks h.duo.lv (h.at'.ks.mono h.offE) (by have := hf.ks; omega)).mono ?_
  rintro e w' ⟨e1, hl⟩
  exact ⟨e1, h.disk hl⟩
theorem armD (h : DoS w0 w P b mb x p pr room E v L q o A1 c1 A2 c2 A3 c3) (hf : OpFew o) : Calls Try.prog 24 #[.pointer (some ⟨b, 0, none⟩), .int .i64 o.n] w fun e w' => e = .returned (.tuple #[]) ∧ ∃ E2, abs E2 = abs E ∧ DoS w0 w' P b mb x (p.arm o.n) pr room E2 v L q o A1 c1 A2 c2 A3 c3 := by
  refine (arm_lv w0 w b mb p room E o.n h.duo.lv hf.n.2).mono ?_
  rintro e w' ⟨e1, hl⟩
  exact ⟨e1, h.disk hl⟩

theorem firmR (hl : L.length ≤ 1000) (hz : sumR L ≤ 1048576) (hp : pr.ok) (h : DoS w0 w P b mb x p pr room E v L q o A1 c1 A2 c2 A3 c3) (hf : OpFew o) : Calls Try.prog 33 #[.pointer (some ⟨x, 0, none⟩), .slice A1 o.ns.length c1] w fun e w' => EndR w0 P b mb x p pr.spent room E q o A1 c1 A2 c2 A3 c3 (rfirmE pr L o.ns) (if rfirmE pr L o.ns = 0 then rfirmL L o.ns else L) e w' := by
  obtain ⟨B, h1, h2, h3⟩ := h.ref
  refine (rfirm_any w B x room pr v L _ A1 c1 o.ns h1 hp hl hz h.at'.ns h2 (by have := hf.ns; omega)).mono ?_
  rintro e w' ⟨e1, r, c⟩
  exact ⟨e1, v, h3 _ _ _ _ r c⟩
theorem dropR (hl : L.length ≤ 1000) (hp : pr.ok) (h : DoS w0 w P b mb x p pr room E v L q o A1 c1 A2 c2 A3 c3) (hf : OpFew o) : Calls Try.prog 36 #[.pointer (some ⟨x, 0, none⟩), .slice A1 o.ns.length c1] w fun e w' => EndR w0 P b mb x p pr.spent room E q o A1 c1 A2 c2 A3 c3 (rdropE pr L o.ns) (if rdropE pr L o.ns = 0 then rdropL L o.ns else L) e w' := by
  obtain ⟨B, h1, h2, h3⟩ := h.ref
  refine (rdrop_any w B x room pr v L _ A1 c1 o.ns h1 hp hl h.at'.ns h2 (by have := hf.ns; omega)).mono ?_
  rintro e w' ⟨e1, v2, r, c⟩
  exact ⟨e1, v2, h3 _ _ _ _ r c⟩
theorem swapR (hl : L.length ≤ 1000) (hp : pr.ok) (h : DoS w0 w P b mb x p pr room E v L q o A1 c1 A2 c2 A3 c3) (hf : OpFew o) : Calls Try.prog 34 #[.pointer (some ⟨x, 0, none⟩), .string o.nm, .string o.to] w fun e w' => EndR w0 P b mb x p pr.spent room E q o A1 c1 A2 c2 A3 c3 (rswapE pr L o.nm o.to) (if rswapE pr L o.nm o.to = 0 then rswapL L o.nm o.to else L) e w' := by
  obtain ⟨B, h1, h2, h3⟩ := h.ref
  refine (rswap_any w B x room pr v L o.nm o.to h1 hp hl (by have := hf.too; omega)).mono ?_
  rintro e w' ⟨e1, v2, r, c⟩
  exact ⟨e1, v2, h3 _ _ _ _ r c⟩
theorem trimR (hl : L.length ≤ 1000) (hz : sumR L ≤ 1048576) (hp : pr.ok) (h : DoS w0 w P b mb x p pr room E v L q o A1 c1 A2 c2 A3 c3) : Calls Try.prog 35 #[.pointer (some ⟨x, 0, none⟩), .string o.nm, .int .i64 o.n] w fun e w' => EndR w0 P b mb x p pr.spent room E q o A1 c1 A2 c2 A3 c3 (rtrimE pr L o.nm o.n) (if rtrimE pr L o.nm o.n = 0 then rtrimL L o.nm o.n else L) e w' := by
  obtain ⟨B, h1, h2, h3⟩ := h.ref
  refine (rtrim_any w B x room pr v L o.nm o.n h1 hp hl hz).mono ?_
  rintro e w' ⟨e1, r, c⟩
  exact ⟨e1, v, h3 _ _ _ _ r c⟩
theorem writeR {S : Nat → Prop} {A : Option Addr} {c : Nat} {bs : List Int} (hl : L.length ≤ 1000) (hz : sumR L ≤ 1048576) (hp : pr.ok) (h : DoS w0 w P b mb x p pr room E v L q o A1 c1 A2 c2 A3 c3) (hf : OpFew o) (hro : room ≤ 1048576) (hr : Row S w A (u8s bs)) (hS : ∀ g, S g → P g ∧ g ≠ q) (hb : bs.length ≤ 1000000) : Calls Try.prog 38 #[.pointer (some ⟨x, 0, none⟩), .string o.nm, .slice A bs.length c] w fun e w' => EndR w0 P b mb x p pr.spent room E q o A1 c1 A2 c2 A3 c3 (rwriteE pr room L o.nm bs.length) (if rwriteE pr room L o.nm bs.length = 0 then rwriteL L o.nm bs else L) e w' := by
  obtain ⟨B, h1, h2, h3⟩ := h.ref
  refine (rwrite_any w B x room pr v L o.nm S A c bs h1 hp hl hz (by have := hf.nm; omega) hro hr (fun g hg => h2 g (hS g hg)) hb).mono ?_
  rintro e w' ⟨e1, v2, r, c⟩
  exact ⟨e1, v2, h3 _ _ _ _ r c⟩
theorem crashR (hl : L.length ≤ 1000) (hz : sumR L ≤ 1048576) (h : DoS w0 w P b mb x p pr room E v L q o A1 c1 A2 c2 A3 c3) (hf : OpFew o) : Calls Try.prog 31 #[.pointer (some ⟨x, 0, none⟩), .slice A3 o.ks.length c3] w fun e w' => e = .returned (.tuple #[]) ∧ ∃ v2, DoS w0 w' P b mb x p ⟨false, false, pr.left⟩ room E v2 (rcrL L o.ks L.length) q o A1 c1 A2 c2 A3 c3 := by
  obtain ⟨B, h1, h2, h3⟩ := h.ref
  refine (rcrash_any w B x room pr v L _ A3 c3 o.ks h1 hl hz h.at'.ks h2 (by have := hf.ks; omega)).mono ?_
  rintro e w' ⟨e1, r, c⟩
  exact ⟨e1, v, h3 _ _ _ _ r c⟩
theorem armR (h : DoS w0 w P b mb x p pr room E v L q o A1 c1 A2 c2 A3 c3) : Calls Try.prog 37 #[.pointer (some ⟨x, 0, none⟩), .int .i64 o.n] w fun e w' => e = .returned (.tuple #[]) ∧ ∃ v2, DoS w0 w' P b mb x p (pr.arm o.n) room E v2 L q o A1 c1 A2 c2 A3 c3 := by
  obtain ⟨B, h1, h2, h3⟩ := h.ref
  refine (rarm_any w B x room pr v L o.n h1).mono ?_
  rintro e w' ⟨e1, r, c⟩
  exact ⟨e1, v, h3 _ _ _ _ r (c.addC v)⟩
end

end Go.Proofs.Ytchedflfinkppaa

/-
  The contract of the law's do: a call of a script on both disks, each kind by itself.
-/
namespace Go.Proofs.Ytchedflfinkppaa
open Go.RowKit Go.Maps Go.Sort Go.Shelf
set_option linter.unusedSimpArgs false
set_option linter.unusedVariables false

/-- neither down nor armed -/
def Calm (p : Pw) : Prop := p.armed = false ∧ p.down = false
theorem Calm.spent {p : Pw} (h : Calm p) : Calm p.spent := by
  obtain ⟨d, a, l⟩ := p
  obtain ⟨rfl, rfl⟩ := h
  exact ⟨rfl, rfl⟩
def DoGave (w0 : World) (b mb x room : Nat) (p : Pw) (o : Opn) (e : Ending) (w' : World) : Prop :=
  ∃ E' v' L' p' pr', e = .returned (.bool true) ∧ Duo w0 w' (fun _ => False) b mb x p' pr' room E' v' L' ∧ Tied (abs E') L' ∧ PwEq p' pr' ∧ (Calm p → o.d % 11 ≠ 9 → Calm p')
theorem DoS.gave {w0 w : World} {P : Nat → Prop} {b mb x q room : Nat} {p pr : Pw} {E : List Ent} {v : Value} {L : List RF} {o : Opn} {A1 A2 A3 : Option Addr} {c1 c2 c3 : Nat} (h : DoS w0 w P b mb x p pr room E v L q o A1 c1 A2 c2 A3 c3) {p0 : Pw} {o0 : Opn} (ht : Tied (abs E) L) (hp : PwEq p pr) (hc : Calm p0 → o0.d % 11 ≠ 9 → Calm p) : DoGave w0 b mb x room p0 o0 (.returned (.bool true)) w :=
  ⟨E, v, L, p, pr, rfl, h.duo.less (fun _ hg => hg.elim), ht, hp, hc⟩
theorem PwEq.ok {p pr : Pw} (h : PwEq p pr) (hp : p.ok) : pr.ok := fun ha => by
  have := hp (by rw [h.2.1]; exact ha)
  rw [h.2.2 (by rw [h.2.1]; exact ha)] at this
  exact this
/-- behind few and the stores: the call of its own beside both disks -/
theorem DoS.mk' {w0 w wa w3 w4 : World} {b mb x q room : Nat} {p pr : Pw} {E : List Ent} {v : Value} {L : List RF} {o : Opn} {x0 x1 x2 x3 x4 x5 x6 : Value} {A1 A2 A3 : Option Addr} {c1 c2 c3 : Nat} (h : Duo w0 w (fun _ => False) b mb x p pr room E v L) (hba : Below w.heap.size w wa) (hq : q = w.heap.size) (hqa : q < wa.heap.size) (hb3 : Below wa.heap.size wa w3)
    (hT3 : w3.heap[q]? = some (.cells [x0, x1, x2, x3, x4, x5, x6].toArray 34 (0, 0))) (hat : OpAt (fun g => wa.heap.size ≤ g) w3 o A1 c1 A2 c2 A3 c3) (hfr : FreeT (fun g => wa.heap.size ≤ g) w3 A2 o.ps.length)
    (h4 : w4 = ((((((w3.setCell ⟨q, 0, none⟩ (.int .u8 o.d)).setCell ⟨q, 1, none⟩ (.string o.nm)).setCell ⟨q, 2, none⟩ (.string o.to)).setCell ⟨q, 3, none⟩ (.slice A1 o.ns.length c1)).setCell ⟨q, 4, none⟩ (.slice A2 o.ps.length c2)).setCell ⟨q, 5, none⟩ (.int .i64 o.n)).setCell ⟨q, 6, none⟩ (.slice A3 o.ks.length c3)) :
    DoS w0 w4 (fun g => w.heap.size ≤ g ∧ g < w3.heap.size) b mb x p pr room E v L q o A1 c1 A2 c2 A3 c3 := by
  obtain ⟨k1, k2⟩ := sev_set (v0 := .int .u8 o.d) (v1 := .string o.nm) (v2 := .string o.to) (v3 := .slice A1 o.ns.length c1) (v4 := .slice A2 o.ps.length c2) (v5 := .int .i64 o.n) (v6 := .slice A3 o.ks.length c3) hT3
  rw [← h4] at k1 k2
  have hsa := hba.size
  have hs3 := hb3.size
  have hall : Below w.heap.size w w3 := hba.trans (hb3.mono hsa)
  have d3 : Duo w0 w3 (fun g => w.heap.size ≤ g ∧ g < w3.heap.size) b mb x p pr room E v L := (h.more hall).less fun g hg => .inr hg
  have d4 : Duo w0 w4 (fun g => w.heap.size ≤ g ∧ g < w3.heap.size) b mb x p pr room E v L := d3.law k1.os k1.tape k1.output k1.size fun g hg hp => k1.block g hg fun e => hp (by omega)
  have hS : ∀ g, g < w3.heap.size → wa.heap.size ≤ g → (w.heap.size ≤ g ∧ g < w3.heap.size) ∧ g ≠ q := fun g hg hw => ⟨⟨by omega, hg⟩, by omega⟩
  have kk : ∀ g, g < w3.heap.size → ((w.heap.size ≤ g ∧ g < w3.heap.size) ∧ g ≠ q) → w4.heap[g]? = w3.heap[g]? := fun g hg s => k1.block g hg s.2
  have hat' := hat.mono hS
  have hfr' : FreeT (fun g => (w.heap.size ≤ g ∧ g < w3.heap.size) ∧ g ≠ q) w3 A2 o.ps.length := fun j hj ad X m c ea hc => (hfr j hj ad X m c ea hc).mono fun g hg s => hS g hg s
  exact ⟨d4, k2, ⟨hat'.k1, hat'.k2, hat'.k3, hat'.ns.kept k1.size kk, hat'.ps.kept k1.size kk, hat'.ks.kept k1.size kk⟩, FreeT.kept hat'.ps hfr' k1.size (fun g hg s => ⟨kk g hg s, s⟩), by omega, by have := lt_of_block hT3; exact this⟩

section
variable (w0 w : World) (b mb x : Nat) (p pr : Pw) (room : Nat) (E : List Ent) (v : Value) (L : List RF) (S : Nat → Prop) (o : Opn) (A1 : Option Addr) (c1 : Nat) (A2 : Option Addr) (c2 : Nat) (A3 : Option Addr) (c3 : Nat)

set_option maxRecDepth 100000 in
set_option maxHeartbeats 2000000 in
theorem do_firm4 (h : Duo w0 w (fun _ => False) b mb x p pr room E v L) (ht : Tied (abs E) L) (hp : PwEq p pr) (hat : OpAt S w o A1 c1 A2 c2 A3 c3) (hok : OpOk o) (hk : o.d % 11 = 4) :
    Calls Try.prog 13 #[.pointer (some ⟨b, 0, none⟩), .pointer (some ⟨x, 0, none⟩), .agg (opV o A1 c1 A2 c2 A3 c3).toArray] w fun e w' => DoGave w0 b mb x room p o e w' := by
  have hfit := h.lv.fits
  have hL16 : L.length ≤ 16 := by rw [← ht.len]; exact hfit.2.2
  have hL1 : L.length ≤ 1000 := by omega
  have hLz : sumR L ≤ 1048576 := by rw [← ht.sum]; omega
  have hpo : pr.ok := by
    obtain ⟨D, hD⟩ := h.lv.dsk
    exact hp.ok hD.ok
  have HDU := Lib.hid h
  have HT := Lib.hid ht
  have HP := Lib.hid hp
  have HAT := Lib.hid hat
  have HOK := Lib.hid hok
  have HL1 := Lib.hid hL1
  have HLZ := Lib.hid hLz
  have HPO := Lib.hid hpo
  unfold opV
  have HKK := Lib.hid hk
  clear h ht hp hat hok hfit hL16 hL1 hLz hpo
  go_enter Try.func13, Try.ntmps13
  go_wp2_with fail
  obtain ⟨wa, hwa⟩ : ∃ y, y = w.alloc (.cells #[.int .u8 o.d, .string o.nm, .string o.to, .slice A1 o.ns.length c1, .slice A2 o.ps.length c2, .int .i64 o.n, .slice A3 o.ks.length c3] 34) := ⟨_, rfl⟩
  rw [← hwa]
  have hTa : wa.heap[w.heap.size]? = some (.cells [.int .u8 o.d, .string o.nm, .string o.to, .slice A1 o.ns.length c1, .slice A2 o.ps.length c2, .int .i64 o.n, .slice A3 o.ks.length c3].toArray 34 (0, 0)) := by rw [hwa]; exact new_at rfl
  have hba : Below w.heap.size w wa := by rw [hwa]; exact (Below.refl _ _).alloc (Nat.le_refl _) _
  have hsa : wa.heap.size = w.heap.size + 1 := by rw [hwa]; simp
  obtain ⟨q, hq⟩ : ∃ q, q = w.heap.size := ⟨_, rfl⟩
  rw [← hq] at hTa hsa ⊢
  have HFW := Lib.hid (few_any _ o A1 A2 A3 c1 c2 c3 wa (HAT.out.below hba) HOK.out)
  have HTa := Lib.hid hTa
  have HBa := Lib.hid hba
  have HQ := Lib.hid hq
  clear hwa hTa hba hq
  refine (HFW.out).mono ?_
  rintro e w3 ⟨B1, e1', B2, e2', B3, e3', rfl, hat3, hfr3, hb3⟩
  have hfew := OpFew.of HOK.out
  have hdd : (fewO o).d = o.d := rfl
  obtain ⟨o', ho'⟩ : ∃ x, x = fewO o := ⟨_, rfl⟩
  rw [← ho'] at hat3 hfr3 hfew hdd ⊢
  have hT3 : w3.heap[q]? = _ := (hb3.block q (by omega)).trans HTa.out
  have y0 := sv_cell hT3 0
  have y1 := sv_cell hT3 1
  have y2 := sv_cell hT3 2
  have y3 := sv_cell hT3 3
  have y4 := sv_cell hT3 4
  have y5 := sv_cell hT3 5
  have y6 := sv_cell hT3 6
  simp only [List.getElem?_cons_zero, List.getElem?_cons_succ] at y0 y1 y2 y3 y4 y5 y6
  have p0 := sv_free (k := 0) hT3
  have p1 := sv_free (k := 1) hT3
  have p2 := sv_free (k := 2) hT3
  have p3 := sv_free (k := 3) hT3
  have p4 := sv_free (k := 4) hT3
  have p5 := sv_free (k := 5) hT3
  have p6 := sv_free (k := 6) hT3
  have HT3 := Lib.hid hT3
  have HAT3 := Lib.hid hat3
  have HFR3 := Lib.hid hfr3
  have HB3 := Lib.hid hb3
  have HFEW := Lib.hid hfew
  have d1 : o'.d.tmod 11 = 4 := by rw [hdd, Int.tmod_eq_emod_of_nonneg HOK.out.d.1]; omega
  have d2 : o'.d % 11 = 4 := by rw [hdd]; omega
  unfold opV
  clear hT3 hat3 hfr3 hb3 hfew ho' hdd
  go_upto_region 2 with fail
  obtain ⟨w4, hw4⟩ : ∃ x, x = ((((((w3.setCell ⟨q, 0, none⟩ (.int .u8 o'.d)).setCell ⟨q, 1, none⟩ (.string o'.nm)).setCell ⟨q, 2, none⟩ (.string o'.to)).setCell ⟨q, 3, none⟩ (.slice B1 o'.ns.length e1')).setCell ⟨q, 4, none⟩ (.slice B2 o'.ps.length e2')).setCell ⟨q, 5, none⟩ (.int .i64 o'.n)).setCell ⟨q, 6, none⟩ (.slice B3 o'.ks.length e3') := ⟨_, rfl⟩
  rw [← hw4]
  have hS4 := DoS.mk' HDU.out HBa.out HQ.out (by omega) HB3.out HT3.out HAT3.out HFR3.out hw4
  obtain ⟨P, hP⟩ : ∃ P : Nat → Prop, P = fun g => w.heap.size ≤ g ∧ g < w3.heap.size := ⟨_, rfl⟩
  rw [← hP] at hS4
  have HS4 := Lib.hid hS4
  obtain ⟨z0, z1, z2, z3, z4, z5, z6⟩ := hS4.cells
  clear hw4 hP hS4 y0 y1 y2 y3 y4 y5 y6 p0 p1 p2 p3 p4 p5 p6 HT3 HAT3 HFR3 HB3 HTa HFW HBa HQ HDU HAT HOK hsa
  have hti := HT.out.firm HP.out o'.ns
  obtain ⟨er, her⟩ : ∃ y, y = (firmAll p (abs E) o'.ns).1 := ⟨_, rfl⟩
  have HTI := Lib.hid hti.2
  have HD : Hid (∀ W pr' v' L', DoS w0 W P b mb x p pr' room E v' L' q o' B1 e1' B2 e2' B3 e3' → Calls Try.prog 16 #[.pointer (some ⟨b, 0, none⟩), .slice B1 o'.ns.length e1'] W fun e w' => e = .returned (.int .i64 er) ∧ ∃ E2, abs E2 = (firmAll p (abs E) o'.ns).2 ∧ DoS w0 w' P b mb x p.spent pr' room E2 v' L' q o' B1 e1' B2 e2' B3 e3') := fun W pr' v' L' hs => by
    rw [her]
    exact firmD hs HFEW.out
  have HR : Hid (∀ W p' E', DoS w0 W P b mb x p' pr room E' v L q o' B1 e1' B2 e2' B3 e3' → Calls Try.prog 33 #[.pointer (some ⟨x, 0, none⟩), .slice B1 o'.ns.length e1'] W fun e w' => e = .returned (.int .i64 er) ∧ ∃ v2, DoS w0 w' P b mb x p' pr.spent room E' v2 (if rfirmE pr L o'.ns = 0 then rfirmL L o'.ns else L) q o' B1 e1' B2 e2' B3 e3') := fun W p' E' hs => by
    rw [her, hti.1]
    exact firmR HL1.out HLZ.out HPO.out hs HFEW.out
  have HFIN : Hid (∀ W E7 v7, abs E7 = (firmAll p (abs E) o'.ns).2 → DoS w0 W P b mb x p.spent pr.spent room E7 v7 (if rfirmE pr L o'.ns = 0 then rfirmL L o'.ns else L) q o' B1 e1' B2 e2' B3 e3' → DoGave w0 b mb x room p o (.returned (.bool true)) W) := fun W E7 v7 ha hs => hs.gave (by rw [ha]; exact HTI.out) HP.out.spent (fun hc _ => hc.spent)
  have hs0 := HS4.out.below ((Below.refl _ w4).drew)
  have hc0 := hs0.cells
  have hs0' := HS4.out
  clear hti her
  generalize (firmAll p (abs E) o'.ns).2 = da at *
  generalize (if rfirmE pr L o'.ns = 0 then rfirmL L o'.ns else L) = lr at *
  go_wp2_with fail
  go_region_held3 (fun w' => w'.cell? ⟨q, 0, none⟩ = some (.int .u8 o'.d) ∧ w'.cell? ⟨q, 1, none⟩ = some (.string o'.nm) ∧ w'.cell? ⟨q, 2, none⟩ = some (.string o'.to) ∧ w'.cell? ⟨q, 3, none⟩ = some (.slice B1 o'.ns.length e1') ∧ w'.cell? ⟨q, 4, none⟩ = some (.slice B2 o'.ps.length e2') ∧ w'.cell? ⟨q, 5, none⟩ = some (.int .i64 o'.n) ∧ w'.cell? ⟨q, 6, none⟩ = some (.slice B3 o'.ks.length e3')) (first | exact hc0 | exact hc5 | exact hc6 | exact hc7 | fail)
    (first
      | (go_at_call 16; refine (HD.out _ _ _ _ hs0).mono ?_; rintro e w5 ⟨rfl, E5, hA5, hs5⟩; have hc5 := hs5.cells)
      | (go_at_call 16; refine (HD.out _ _ _ _ hs6).mono ?_; rintro e w7 ⟨rfl, E5, hA5, hs7⟩; have hc7 := hs7.cells)
      | (go_at_call 33; refine (HR.out _ _ _ hs0).mono ?_; rintro e w6 ⟨rfl, v6, hs6⟩; have hc6 := hs6.cells)
      | (go_at_call 33; refine (HR.out _ _ _ hs5).mono ?_; rintro e w7 ⟨rfl, v7, hs7⟩; have hc7 := hs7.cells)
      | fail)
  all_goals
    have HG := Lib.hid (HFIN.out _ _ _ hA5 hs7)
    clear hA5 hs7 hc7
    go_wp2_with fail
    go_ret
    exact HG.out

set_option maxRecDepth 100000 in
set_option maxHeartbeats 2000000 in
theorem do_firm5 (h : Duo w0 w (fun _ => False) b mb x p pr room E v L) (ht : Tied (abs E) L) (hp : PwEq p pr) (hat : OpAt S w o A1 c1 A2 c2 A3 c3) (hok : OpOk o) (hk : o.d % 11 = 5) :
    Calls Try.prog 13 #[.pointer (some ⟨b, 0, none⟩), .pointer (some ⟨x, 0, none⟩), .agg (opV o A1 c1 A2 c2 A3 c3).toArray] w fun e w' => DoGave w0 b mb x room p o e w' := by
  have hfit := h.lv.fits
  have hL16 : L.length ≤ 16 := by rw [← ht.len]; exact hfit.2.2
  have hL1 : L.length ≤ 1000 := by omega
  have hLz : sumR L ≤ 1048576 := by rw [← ht.sum]; omega
  have hpo : pr.ok := by
    obtain ⟨D, hD⟩ := h.lv.dsk
    exact hp.ok hD.ok
  have HDU := Lib.hid h
  have HT := Lib.hid ht
  have HP := Lib.hid hp
  have HAT := Lib.hid hat
  have HOK := Lib.hid hok
  have HL1 := Lib.hid hL1
  have HLZ := Lib.hid hLz
  have HPO := Lib.hid hpo
  unfold opV
  have HKK := Lib.hid hk
  clear h ht hp hat hok hfit hL16 hL1 hLz hpo
  go_enter Try.func13, Try.ntmps13
  go_wp2_with fail
  obtain ⟨wa, hwa⟩ : ∃ y, y = w.alloc (.cells #[.int .u8 o.d, .string o.nm, .string o.to, .slice A1 o.ns.length c1, .slice A2 o.ps.length c2, .int .i64 o.n, .slice A3 o.ks.length c3] 34) := ⟨_, rfl⟩
  rw [← hwa]
  have hTa : wa.heap[w.heap.size]? = some (.cells [.int .u8 o.d, .string o.nm, .string o.to, .slice A1 o.ns.length c1, .slice A2 o.ps.length c2, .int .i64 o.n, .slice A3 o.ks.length c3].toArray 34 (0, 0)) := by rw [hwa]; exact new_at rfl
  have hba : Below w.heap.size w wa := by rw [hwa]; exact (Below.refl _ _).alloc (Nat.le_refl _) _
  have hsa : wa.heap.size = w.heap.size + 1 := by rw [hwa]; simp
  obtain ⟨q, hq⟩ : ∃ q, q = w.heap.size := ⟨_, rfl⟩
  rw [← hq] at hTa hsa ⊢
  have HFW := Lib.hid (few_any _ o A1 A2 A3 c1 c2 c3 wa (HAT.out.below hba) HOK.out)
  have HTa := Lib.hid hTa
  have HBa := Lib.hid hba
  have HQ := Lib.hid hq
  clear hwa hTa hba hq
  refine (HFW.out).mono ?_
  rintro e w3 ⟨B1, e1', B2, e2', B3, e3', rfl, hat3, hfr3, hb3⟩
  have hfew := OpFew.of HOK.out
  have hdd : (fewO o).d = o.d := rfl
  obtain ⟨o', ho'⟩ : ∃ x, x = fewO o := ⟨_, rfl⟩
  rw [← ho'] at hat3 hfr3 hfew hdd ⊢
  have hT3 : w3.heap[q]? = _ := (hb3.block q (by omega)).trans HTa.out
  have y0 := sv_cell hT3 0
  have y1 := sv_cell hT3 1
  have y2 := sv_cell hT3 2
  have y3 := sv_cell hT3 3
  have y4 := sv_cell hT3 4
  have y5 := sv_cell hT3 5
  have y6 := sv_cell hT3 6
  simp only [List.getElem?_cons_zero, List.getElem?_cons_succ] at y0 y1 y2 y3 y4 y5 y6
  have p0 := sv_free (k := 0) hT3
  have p1 := sv_free (k := 1) hT3
  have p2 := sv_free (k := 2) hT3
  have p3 := sv_free (k := 3) hT3
  have p4 := sv_free (k := 4) hT3
  have p5 := sv_free (k := 5) hT3
  have p6 := sv_free (k := 6) hT3
  have HT3 := Lib.hid hT3
  have HAT3 := Lib.hid hat3
  have HFR3 := Lib.hid hfr3
  have HB3 := Lib.hid hb3
  have HFEW := Lib.hid hfew
  have d1 : o'.d.tmod 11 = 5 := by rw [hdd, Int.tmod_eq_emod_of_nonneg HOK.out.d.1]; omega
  have d2 : o'.d % 11 = 5 := by rw [hdd]; omega
  unfold opV
  clear hT3 hat3 hfr3 hb3 hfew ho' hdd
  go_upto_region 2 with fail
  obtain ⟨w4, hw4⟩ : ∃ x, x = ((((((w3.setCell ⟨q, 0, none⟩ (.int .u8 o'.d)).setCell ⟨q, 1, none⟩ (.string o'.nm)).setCell ⟨q, 2, none⟩ (.string o'.to)).setCell ⟨q, 3, none⟩ (.slice B1 o'.ns.length e1')).setCell ⟨q, 4, none⟩ (.slice B2 o'.ps.length e2')).setCell ⟨q, 5, none⟩ (.int .i64 o'.n)).setCell ⟨q, 6, none⟩ (.slice B3 o'.ks.length e3') := ⟨_, rfl⟩
  rw [← hw4]
  have hS4 := DoS.mk' HDU.out HBa.out HQ.out (by omega) HB3.out HT3.out HAT3.out HFR3.out hw4
  obtain ⟨P, hP⟩ : ∃ P : Nat → Prop, P = fun g => w.heap.size ≤ g ∧ g < w3.heap.size := ⟨_, rfl⟩
  rw [← hP] at hS4
  have HS4 := Lib.hid hS4
  obtain ⟨z0, z1, z2, z3, z4, z5, z6⟩ := hS4.cells
  clear hw4 hP hS4 y0 y1 y2 y3 y4 y5 y6 p0 p1 p2 p3 p4 p5 p6 HT3 HAT3 HFR3 HB3 HTa HFW HBa HQ HDU HAT HOK hsa
  have hti := HT.out.firm HP.out o'.ns
  obtain ⟨er, her⟩ : ∃ y, y = (firmAll p (abs E) o'.ns).1 := ⟨_, rfl⟩
  have HTI := Lib.hid hti.2
  have HD : Hid (∀ W pr' v' L', DoS w0 W P b mb x p pr' room E v' L' q o' B1 e1' B2 e2' B3 e3' → Calls Try.prog 16 #[.pointer (some ⟨b, 0, none⟩), .slice B1 o'.ns.length e1'] W fun e w' => e = .returned (.int .i64 er) ∧ ∃ E2, abs E2 = (firmAll p (abs E) o'.ns).2 ∧ DoS w0 w' P b mb x p.spent pr' room E2 v' L' q o' B1 e1' B2 e2' B3 e3') := fun W pr' v' L' hs => by
    rw [her]
    exact firmD hs HFEW.out
  have HR : Hid (∀ W p' E', DoS w0 W P b mb x p' pr room E' v L q o' B1 e1' B2 e2' B3 e3' → Calls Try.prog 33 #[.pointer (some ⟨x, 0, none⟩), .slice B1 o'.ns.length e1'] W fun e w' => e = .returned (.int .i64 er) ∧ ∃ v2, DoS w0 w' P b mb x p' pr.spent room E' v2 (if rfirmE pr L o'.ns = 0 then rfirmL L o'.ns else L) q o' B1 e1' B2 e2' B3 e3') := fun W p' E' hs => by
    rw [her, hti.1]
    exact firmR HL1.out HLZ.out HPO.out hs HFEW.out
  have HFIN : Hid (∀ W E7 v7, abs E7 = (firmAll p (abs E) o'.ns).2 → DoS w0 W P b mb x p.spent pr.spent room E7 v7 (if rfirmE pr L o'.ns = 0 then rfirmL L o'.ns else L) q o' B1 e1' B2 e2' B3 e3' → DoGave w0 b mb x room p o (.returned (.bool true)) W) := fun W E7 v7 ha hs => hs.gave (by rw [ha]; exact HTI.out) HP.out.spent (fun hc _ => hc.spent)
  have hs0 := HS4.out.below ((Below.refl _ w4).drew)
  have hc0 := hs0.cells
  have hs0' := HS4.out
  clear hti her
  generalize (firmAll p (abs E) o'.ns).2 = da at *
  generalize (if rfirmE pr L o'.ns = 0 then rfirmL L o'.ns else L) = lr at *
  go_wp2_with fail
  go_region_held3 (fun w' => w'.cell? ⟨q, 0, none⟩ = some (.int .u8 o'.d) ∧ w'.cell? ⟨q, 1, none⟩ = some (.string o'.nm) ∧ w'.cell? ⟨q, 2, none⟩ = some (.string o'.to) ∧ w'.cell? ⟨q, 3, none⟩ = some (.slice B1 o'.ns.length e1') ∧ w'.cell? ⟨q, 4, none⟩ = some (.slice B2 o'.ps.length e2') ∧ w'.cell? ⟨q, 5, none⟩ = some (.int .i64 o'.n) ∧ w'.cell? ⟨q, 6, none⟩ = some (.slice B3 o'.ks.length e3')) (first | exact hc0 | exact hc5 | exact hc6 | exact hc7 | fail)
    (first
      | (go_at_call 16; refine (HD.out _ _ _ _ hs0).mono ?_; rintro e w5 ⟨rfl, E5, hA5, hs5⟩; have hc5 := hs5.cells)
      | (go_at_call 16; refine (HD.out _ _ _ _ hs6).mono ?_; rintro e w7 ⟨rfl, E5, hA5, hs7⟩; have hc7 := hs7.cells)
      | (go_at_call 33; refine (HR.out _ _ _ hs0).mono ?_; rintro e w6 ⟨rfl, v6, hs6⟩; have hc6 := hs6.cells)
      | (go_at_call 33; refine (HR.out _ _ _ hs5).mono ?_; rintro e w7 ⟨rfl, v7, hs7⟩; have hc7 := hs7.cells)
      | fail)
  all_goals
    have HG := Lib.hid (HFIN.out _ _ _ hA5 hs7)
    clear hA5 hs7 hc7
    go_wp2_with fail
    go_ret
    exact HG.out

set_option maxRecDepth 100000 in
set_option maxHeartbeats 2000000 in
theorem do_swap (h : Duo w0 w (fun _ => False) b mb x p pr room E v L) (ht : Tied (abs E) L) (hp : PwEq p pr) (hat : OpAt S w o A1 c1 A2 c2 A3 c3) (hok : OpOk o) (hk : o.d % 11 = 6) :
    Calls Try.prog 13 #[.pointer (some ⟨b, 0, none⟩), .pointer (some ⟨x, 0, none⟩), .agg (opV o A1 c1 A2 c2 A3 c3).toArray] w fun e w' => DoGave w0 b mb x room p o e w' := by
  have hfit := h.lv.fits
  have hL16 : L.length ≤ 16 := by rw [← ht.len]; exact hfit.2.2
  have hL1 : L.length ≤ 1000 := by omega
  have hLz : sumR L ≤ 1048576 := by rw [← ht.sum]; omega
  have hpo : pr.ok := by
    obtain ⟨D, hD⟩ := h.lv.dsk
    exact hp.ok hD.ok
  have HDU := Lib.hid h
  have HT := Lib.hid ht
  have HP := Lib.hid hp
  have HAT := Lib.hid hat
  have HOK := Lib.hid hok
  have HL1 := Lib.hid hL1
  have HLZ := Lib.hid hLz
  have HPO := Lib.hid hpo
  unfold opV
  have HKK := Lib.hid hk
  clear h ht hp hat hok hfit hL16 hL1 hLz hpo
  go_enter Try.func13, Try.ntmps13
  go_wp2_with fail
  obtain ⟨wa, hwa⟩ : ∃ y, y = w.alloc (.cells #[.int .u8 o.d, .string o.nm, .string o.to, .slice A1 o.ns.length c1, .slice A2 o.ps.length c2, .int .i64 o.n, .slice A3 o.ks.length c3] 34) := ⟨_, rfl⟩
  rw [← hwa]
  have hTa : wa.heap[w.heap.size]? = some (.cells [.int .u8 o.d, .string o.nm, .string o.to, .slice A1 o.ns.length c1, .slice A2 o.ps.length c2, .int .i64 o.n, .slice A3 o.ks.length c3].toArray 34 (0, 0)) := by rw [hwa]; exact new_at rfl
  have hba : Below w.heap.size w wa := by rw [hwa]; exact (Below.refl _ _).alloc (Nat.le_refl _) _
  have hsa : wa.heap.size = w.heap.size + 1 := by rw [hwa]; simp
  obtain ⟨q, hq⟩ : ∃ q, q = w.heap.size := ⟨_, rfl⟩
  rw [← hq] at hTa hsa ⊢
  have HFW := Lib.hid (few_any _ o A1 A2 A3 c1 c2 c3 wa (HAT.out.below hba) HOK.out)
  have HTa := Lib.hid hTa
  have HBa := Lib.hid hba
  have HQ := Lib.hid hq
  clear hwa hTa hba hq
  refine (HFW.out).mono ?_
  rintro e w3 ⟨B1, e1', B2, e2', B3, e3', rfl, hat3, hfr3, hb3⟩
  have hfew := OpFew.of HOK.out
  have hdd : (fewO o).d = o.d := rfl
  obtain ⟨o', ho'⟩ : ∃ x, x = fewO o := ⟨_, rfl⟩
  rw [← ho'] at hat3 hfr3 hfew hdd ⊢
  have hT3 : w3.heap[q]? = _ := (hb3.block q (by omega)).trans HTa.out
  have y0 := sv_cell hT3 0
  have y1 := sv_cell hT3 1
  have y2 := sv_cell hT3 2
  have y3 := sv_cell hT3 3
  have y4 := sv_cell hT3 4
  have y5 := sv_cell hT3 5
  have y6 := sv_cell hT3 6
  simp only [List.getElem?_cons_zero, List.getElem?_cons_succ] at y0 y1 y2 y3 y4 y5 y6
  have p0 := sv_free (k := 0) hT3
  have p1 := sv_free (k := 1) hT3
  have p2 := sv_free (k := 2) hT3
  have p3 := sv_free (k := 3) hT3
  have p4 := sv_free (k := 4) hT3
  have p5 := sv_free (k := 5) hT3
  have p6 := sv_free (k := 6) hT3
  have HT3 := Lib.hid hT3
  have HAT3 := Lib.hid hat3
  have HFR3 := Lib.hid hfr3
  have HB3 := Lib.hid hb3
  have HFEW := Lib.hid hfew
  have d1 : o'.d.tmod 11 = 6 := by rw [hdd, Int.tmod_eq_emod_of_nonneg HOK.out.d.1]; omega
  have d2 : o'.d % 11 = 6 := by rw [hdd]; omega
  unfold opV
  clear hT3 hat3 hfr3 hb3 hfew ho' hdd
  go_upto_region 2 with fail
  obtain ⟨w4, hw4⟩ : ∃ x, x = ((((((w3.setCell ⟨q, 0, none⟩ (.int .u8 o'.d)).setCell ⟨q, 1, none⟩ (.string o'.nm)).setCell ⟨q, 2, none⟩ (.string o'.to)).setCell ⟨q, 3, none⟩ (.slice B1 o'.ns.length e1')).setCell ⟨q, 4, none⟩ (.slice B2 o'.ps.length e2')).setCell ⟨q, 5, none⟩ (.int .i64 o'.n)).setCell ⟨q, 6, none⟩ (.slice B3 o'.ks.length e3') := ⟨_, rfl⟩
  rw [← hw4]
  have hS4 := DoS.mk' HDU.out HBa.out HQ.out (by omega) HB3.out HT3.out HAT3.out HFR3.out hw4
  obtain ⟨P, hP⟩ : ∃ P : Nat → Prop, P = fun g => w.heap.size ≤ g ∧ g < w3.heap.size := ⟨_, rfl⟩
  rw [← hP] at hS4
  have HS4 := Lib.hid hS4
  obtain ⟨z0, z1, z2, z3, z4, z5, z6⟩ := hS4.cells
  clear hw4 hP hS4 y0 y1 y2 y3 y4 y5 y6 p0 p1 p2 p3 p4 p5 p6 HT3 HAT3 HFR3 HB3 HTa HFW HBa HQ HDU HAT HOK hsa
  have hti := HT.out.swap HP.out o'.nm o'.to
  obtain ⟨er, her⟩ : ∃ y, y = (swapA p (abs E) o'.nm o'.to).1 := ⟨_, rfl⟩
  have HTI := Lib.hid hti.2
  have HD : Hid (∀ W pr' v' L', DoS w0 W P b mb x p pr' room E v' L' q o' B1 e1' B2 e2' B3 e3' → Calls Try.prog 26 #[.pointer (some ⟨b, 0, none⟩), .string o'.nm, .string o'.to] W fun e w' => e = .returned (.int .i64 er) ∧ ∃ E2, abs E2 = (swapA p (abs E) o'.nm o'.to).2 ∧ DoS w0 w' P b mb x p.spent pr' room E2 v' L' q o' B1 e1' B2 e2' B3 e3') := fun W pr' v' L' hs => by
    rw [her]
    exact swapD hs HFEW.out
  have HR : Hid (∀ W p' E', DoS w0 W P b mb x p' pr room E' v L q o' B1 e1' B2 e2' B3 e3' → Calls Try.prog 34 #[.pointer (some ⟨x, 0, none⟩), .string o'.nm, .string o'.to] W fun e w' => e = .returned (.int .i64 er) ∧ ∃ v2, DoS w0 w' P b mb x p' pr.spent room E' v2 (if rswapE pr L o'.nm o'.to = 0 then rswapL L o'.nm o'.to else L) q o' B1 e1' B2 e2' B3 e3') := fun W p' E' hs => by
    rw [her, hti.1]
    exact swapR HL1.out HPO.out hs HFEW.out
  have HFIN : Hid (∀ W E7 v7, abs E7 = (swapA p (abs E) o'.nm o'.to).2 → DoS w0 W P b mb x p.spent pr.spent room E7 v7 (if rswapE pr L o'.nm o'.to = 0 then rswapL L o'.nm o'.to else L) q o' B1 e1' B2 e2' B3 e3' → DoGave w0 b mb x room p o (.returned (.bool true)) W) := fun W E7 v7 ha hs => hs.gave (by rw [ha]; exact HTI.out) HP.out.spent (fun hc _ => hc.spent)
  have hs0 := HS4.out.below ((Below.refl _ w4).drew)
  have hc0 := hs0.cells
  have hs0' := HS4.out
  clear hti her
  generalize (swapA p (abs E) o'.nm o'.to).2 = da at *
  generalize (if rswapE pr L o'.nm o'.to = 0 then rswapL L o'.nm o'.to else L) = lr at *
  go_wp2_with fail
  go_region_held3 (fun w' => w'.cell? ⟨q, 0, none⟩ = some (.int .u8 o'.d) ∧ w'.cell? ⟨q, 1, none⟩ = some (.string o'.nm) ∧ w'.cell? ⟨q, 2, none⟩ = some (.string o'.to) ∧ w'.cell? ⟨q, 3, none⟩ = some (.slice B1 o'.ns.length e1') ∧ w'.cell? ⟨q, 4, none⟩ = some (.slice B2 o'.ps.length e2') ∧ w'.cell? ⟨q, 5, none⟩ = some (.int .i64 o'.n) ∧ w'.cell? ⟨q, 6, none⟩ = some (.slice B3 o'.ks.length e3')) (first | exact hc0 | exact hc5 | exact hc6 | exact hc7 | fail)
    (first
      | (go_at_call 26; refine (HD.out _ _ _ _ hs0).mono ?_; rintro e w5 ⟨rfl, E5, hA5, hs5⟩; have hc5 := hs5.cells)
      | (go_at_call 26; refine (HD.out _ _ _ _ hs6).mono ?_; rintro e w7 ⟨rfl, E5, hA5, hs7⟩; have hc7 := hs7.cells)
      | (go_at_call 34; refine (HR.out _ _ _ hs0).mono ?_; rintro e w6 ⟨rfl, v6, hs6⟩; have hc6 := hs6.cells)
      | (go_at_call 34; refine (HR.out _ _ _ hs5).mono ?_; rintro e w7 ⟨rfl, v7, hs7⟩; have hc7 := hs7.cells)
      | fail)
  all_goals
    have HG := Lib.hid (HFIN.out _ _ _ hA5 hs7)
    clear hA5 hs7 hc7
    go_wp2_with fail
    go_ret
    exact HG.out

set_option maxRecDepth 100000 in
set_option maxHeartbeats 2000000 in
theorem do_trim (h : Duo w0 w (fun _ => False) b mb x p pr room E v L) (ht : Tied (abs E) L) (hp : PwEq p pr) (hat : OpAt S w o A1 c1 A2 c2 A3 c3) (hok : OpOk o) (hk : o.d % 11 = 7) :
    Calls Try.prog 13 #[.pointer (some ⟨b, 0, none⟩), .pointer (some ⟨x, 0, none⟩), .agg (opV o A1 c1 A2 c2 A3 c3).toArray] w fun e w' => DoGave w0 b mb x room p o e w' := by
  have hfit := h.lv.fits
  have hL16 : L.length ≤ 16 := by rw [← ht.len]; exact hfit.2.2
  have hL1 : L.length ≤ 1000 := by omega
  have hLz : sumR L ≤ 1048576 := by rw [← ht.sum]; omega
  have hpo : pr.ok := by
    obtain ⟨D, hD⟩ := h.lv.dsk
    exact hp.ok hD.ok
  have HDU := Lib.hid h
  have HT := Lib.hid ht
  have HP := Lib.hid hp
  have HAT := Lib.hid hat
  have HOK := Lib.hid hok
  have HL1 := Lib.hid hL1
  have HLZ := Lib.hid hLz
  have HPO := Lib.hid hpo
  unfold opV
  have HKK := Lib.hid hk
  clear h ht hp hat hok hfit hL16 hL1 hLz hpo
  go_enter Try.func13, Try.ntmps13
  go_wp2_with fail
  obtain ⟨wa, hwa⟩ : ∃ y, y = w.alloc (.cells #[.int .u8 o.d, .string o.nm, .string o.to, .slice A1 o.ns.length c1, .slice A2 o.ps.length c2, .int .i64 o.n, .slice A3 o.ks.length c3] 34) := ⟨_, rfl⟩
  rw [← hwa]
  have hTa : wa.heap[w.heap.size]? = some (.cells [.int .u8 o.d, .string o.nm, .string o.to, .slice A1 o.ns.length c1, .slice A2 o.ps.length c2, .int .i64 o.n, .slice A3 o.ks.length c3].toArray 34 (0, 0)) := by rw [hwa]; exact new_at rfl
  have hba : Below w.heap.size w wa := by rw [hwa]; exact (Below.refl _ _).alloc (Nat.le_refl _) _
  have hsa : wa.heap.size = w.heap.size + 1 := by rw [hwa]; simp
  obtain ⟨q, hq⟩ : ∃ q, q = w.heap.size := ⟨_, rfl⟩
  rw [← hq] at hTa hsa ⊢
  have HFW := Lib.hid (few_any _ o A1 A2 A3 c1 c2 c3 wa (HAT.out.below hba) HOK.out)
  have HTa := Lib.hid hTa
  have HBa := Lib.hid hba
  have HQ := Lib.hid hq
  clear hwa hTa hba hq
  refine (HFW.out).mono ?_
  rintro e w3 ⟨B1, e1', B2, e2', B3, e3', rfl, hat3, hfr3, hb3⟩
  have hfew := OpFew.of HOK.out
  have hdd : (fewO o).d = o.d := rfl
  obtain ⟨o', ho'⟩ : ∃ x, x = fewO o := ⟨_, rfl⟩
  rw [← ho'] at hat3 hfr3 hfew hdd ⊢
  have hT3 : w3.heap[q]? = _ := (hb3.block q (by omega)).trans HTa.out
  have y0 := sv_cell hT3 0
  have y1 := sv_cell hT3 1
  have y2 := sv_cell hT3 2
  have y3 := sv_cell hT3 3
  have y4 := sv_cell hT3 4
  have y5 := sv_cell hT3 5
  have y6 := sv_cell hT3 6
  simp only [List.getElem?_cons_zero, List.getElem?_cons_succ] at y0 y1 y2 y3 y4 y5 y6
  have p0 := sv_free (k := 0) hT3
  have p1 := sv_free (k := 1) hT3
  have p2 := sv_free (k := 2) hT3
  have p3 := sv_free (k := 3) hT3
  have p4 := sv_free (k := 4) hT3
  have p5 := sv_free (k := 5) hT3
  have p6 := sv_free (k := 6) hT3
  have HT3 := Lib.hid hT3
  have HAT3 := Lib.hid hat3
  have HFR3 := Lib.hid hfr3
  have HB3 := Lib.hid hb3
  have HFEW := Lib.hid hfew
  have d1 : o'.d.tmod 11 = 7 := by rw [hdd, Int.tmod_eq_emod_of_nonneg HOK.out.d.1]; omega
  have d2 : o'.d % 11 = 7 := by rw [hdd]; omega
  unfold opV
  clear hT3 hat3 hfr3 hb3 hfew ho' hdd
  go_upto_region 2 with fail
  obtain ⟨w4, hw4⟩ : ∃ x, x = ((((((w3.setCell ⟨q, 0, none⟩ (.int .u8 o'.d)).setCell ⟨q, 1, none⟩ (.string o'.nm)).setCell ⟨q, 2, none⟩ (.string o'.to)).setCell ⟨q, 3, none⟩ (.slice B1 o'.ns.length e1')).setCell ⟨q, 4, none⟩ (.slice B2 o'.ps.length e2')).setCell ⟨q, 5, none⟩ (.int .i64 o'.n)).setCell ⟨q, 6, none⟩ (.slice B3 o'.ks.length e3') := ⟨_, rfl⟩
  rw [← hw4]
  have hS4 := DoS.mk' HDU.out HBa.out HQ.out (by omega) HB3.out HT3.out HAT3.out HFR3.out hw4
  obtain ⟨P, hP⟩ : ∃ P : Nat → Prop, P = fun g => w.heap.size ≤ g ∧ g < w3.heap.size := ⟨_, rfl⟩
  rw [← hP] at hS4
  have HS4 := Lib.hid hS4
  obtain ⟨z0, z1, z2, z3, z4, z5, z6⟩ := hS4.cells
  clear hw4 hP hS4 y0 y1 y2 y3 y4 y5 y6 p0 p1 p2 p3 p4 p5 p6 HT3 HAT3 HFR3 HB3 HTa HFW HBa HQ HDU HAT HOK hsa
  have hti := HT.out.trim HP.out o'.nm o'.n
  obtain ⟨er, her⟩ : ∃ y, y = (trimA p (abs E) o'.nm o'.n).1 := ⟨_, rfl⟩
  have HTI := Lib.hid hti.2
  have HD : Hid (∀ W pr' v' L', DoS w0 W P b mb x p pr' room E v' L' q o' B1 e1' B2 e2' B3 e3' → Calls Try.prog 27 #[.pointer (some ⟨b, 0, none⟩), .string o'.nm, .int .i64 o'.n] W fun e w' => e = .returned (.int .i64 er) ∧ ∃ E2, abs E2 = (trimA p (abs E) o'.nm o'.n).2 ∧ DoS w0 w' P b mb x p.spent pr' room E2 v' L' q o' B1 e1' B2 e2' B3 e3') := fun W pr' v' L' hs => by
    rw [her]
    exact trimD hs HFEW.out
  have HR : Hid (∀ W p' E', DoS w0 W P b mb x p' pr room E' v L q o' B1 e1' B2 e2' B3 e3' → Calls Try.prog 35 #[.pointer (some ⟨x, 0, none⟩), .string o'.nm, .int .i64 o'.n] W fun e w' => e = .returned (.int .i64 er) ∧ ∃ v2, DoS w0 w' P b mb x p' pr.spent room E' v2 (if rtrimE pr L o'.nm o'.n = 0 then rtrimL L o'.nm o'.n else L) q o' B1 e1' B2 e2' B3 e3') := fun W p' E' hs => by
    rw [her, hti.1]
    exact trimR HL1.out HLZ.out HPO.out hs
  have HFIN : Hid (∀ W E7 v7, abs E7 = (trimA p (abs E) o'.nm o'.n).2 → DoS w0 W P b mb x p.spent pr.spent room E7 v7 (if rtrimE pr L o'.nm o'.n = 0 then rtrimL L o'.nm o'.n else L) q o' B1 e1' B2 e2' B3 e3' → DoGave w0 b mb x room p o (.returned (.bool true)) W) := fun W E7 v7 ha hs => hs.gave (by rw [ha]; exact HTI.out) HP.out.spent (fun hc _ => hc.spent)
  have hs0 := HS4.out.below ((Below.refl _ w4).drew)
  have hc0 := hs0.cells
  have hs0' := HS4.out
  clear hti her
  generalize (trimA p (abs E) o'.nm o'.n).2 = da at *
  generalize (if rtrimE pr L o'.nm o'.n = 0 then rtrimL L o'.nm o'.n else L) = lr at *
  go_wp2_with fail
  go_region_held3 (fun w' => w'.cell? ⟨q, 0, none⟩ = some (.int .u8 o'.d) ∧ w'.cell? ⟨q, 1, none⟩ = some (.string o'.nm) ∧ w'.cell? ⟨q, 2, none⟩ = some (.string o'.to) ∧ w'.cell? ⟨q, 3, none⟩ = some (.slice B1 o'.ns.length e1') ∧ w'.cell? ⟨q, 4, none⟩ = some (.slice B2 o'.ps.length e2') ∧ w'.cell? ⟨q, 5, none⟩ = some (.int .i64 o'.n) ∧ w'.cell? ⟨q, 6, none⟩ = some (.slice B3 o'.ks.length e3')) (first | exact hc0 | exact hc5 | exact hc6 | exact hc7 | fail)
    (first
      | (go_at_call 27; refine (HD.out _ _ _ _ hs0).mono ?_; rintro e w5 ⟨rfl, E5, hA5, hs5⟩; have hc5 := hs5.cells)
      | (go_at_call 27; refine (HD.out _ _ _ _ hs6).mono ?_; rintro e w7 ⟨rfl, E5, hA5, hs7⟩; have hc7 := hs7.cells)
      | (go_at_call 35; refine (HR.out _ _ _ hs0).mono ?_; rintro e w6 ⟨rfl, v6, hs6⟩; have hc6 := hs6.cells)
      | (go_at_call 35; refine (HR.out _ _ _ hs5).mono ?_; rintro e w7 ⟨rfl, v7, hs7⟩; have hc7 := hs7.cells)
      | fail)
  all_goals
    have HG := Lib.hid (HFIN.out _ _ _ hA5 hs7)
    clear hA5 hs7 hc7
    go_wp2_with fail
    go_ret
    exact HG.out

set_option maxRecDepth 100000 in
set_option maxHeartbeats 2000000 in
theorem do_drop (h : Duo w0 w (fun _ => False) b mb x p pr room E v L) (ht : Tied (abs E) L) (hp : PwEq p pr) (hat : OpAt S w o A1 c1 A2 c2 A3 c3) (hok : OpOk o) (hk : o.d % 11 = 8) :
    Calls Try.prog 13 #[.pointer (some ⟨b, 0, none⟩), .pointer (some ⟨x, 0, none⟩), .agg (opV o A1 c1 A2 c2 A3 c3).toArray] w fun e w' => DoGave w0 b mb x room p o e w' := by
  have hfit := h.lv.fits
  have hL16 : L.length ≤ 16 := by rw [← ht.len]; exact hfit.2.2
  have hL1 : L.length ≤ 1000 := by omega
  have hLz : sumR L ≤ 1048576 := by rw [← ht.sum]; omega
  have hpo : pr.ok := by
    obtain ⟨D, hD⟩ := h.lv.dsk
    exact hp.ok hD.ok
  have HDU := Lib.hid h
  have HT := Lib.hid ht
  have HP := Lib.hid hp
  have HAT := Lib.hid hat
  have HOK := Lib.hid hok
  have HL1 := Lib.hid hL1
  have HLZ := Lib.hid hLz
  have HPO := Lib.hid hpo
  unfold opV
  have HKK := Lib.hid hk
  clear h ht hp hat hok hfit hL16 hL1 hLz hpo
  go_enter Try.func13, Try.ntmps13
  go_wp2_with fail
  obtain ⟨wa, hwa⟩ : ∃ y, y = w.alloc (.cells #[.int .u8 o.d, .string o.nm, .string o.to, .slice A1 o.ns.length c1, .slice A2 o.ps.length c2, .int .i64 o.n, .slice A3 o.ks.length c3] 34) := ⟨_, rfl⟩
  rw [← hwa]
  have hTa : wa.heap[w.heap.size]? = some (.cells [.int .u8 o.d, .string o.nm, .string o.to, .slice A1 o.ns.length c1, .slice A2 o.ps.length c2, .int .i64 o.n, .slice A3 o.ks.length c3].toArray 34 (0, 0)) := by rw [hwa]; exact new_at rfl
  have hba : Below w.heap.size w wa := by rw [hwa]; exact (Below.refl _ _).alloc (Nat.le_refl _) _
  have hsa : wa.heap.size = w.heap.size + 1 := by rw [hwa]; simp
  obtain ⟨q, hq⟩ : ∃ q, q = w.heap.size := ⟨_, rfl⟩
  rw [← hq] at hTa hsa ⊢
  have HFW := Lib.hid (few_any _ o A1 A2 A3 c1 c2 c3 wa (HAT.out.below hba) HOK.out)
  have HTa := Lib.hid hTa
  have HBa := Lib.hid hba
  have HQ := Lib.hid hq
  clear hwa hTa hba hq
  refine (HFW.out).mono ?_
  rintro e w3 ⟨B1, e1', B2, e2', B3, e3', rfl, hat3, hfr3, hb3⟩
  have hfew := OpFew.of HOK.out
  have hdd : (fewO o).d = o.d := rfl
  obtain ⟨o', ho'⟩ : ∃ x, x = fewO o := ⟨_, rfl⟩
  rw [← ho'] at hat3 hfr3 hfew hdd ⊢
  have hT3 : w3.heap[q]? = _ := (hb3.block q (by omega)).trans HTa.out
  have y0 := sv_cell hT3 0
  have y1 := sv_cell hT3 1
  have y2 := sv_cell hT3 2
  have y3 := sv_cell hT3 3
  have y4 := sv_cell hT3 4
  have y5 := sv_cell hT3 5
  have y6 := sv_cell hT3 6
  simp only [List.getElem?_cons_zero, List.getElem?_cons_succ] at y0 y1 y2 y3 y4 y5 y6
  have p0 := sv_free (k := 0) hT3
  have p1 := sv_free (k := 1) hT3
  have p2 := sv_free (k := 2) hT3
  have p3 := sv_free (k := 3) hT3
  have p4 := sv_free (k := 4) hT3
  have p5 := sv_free (k := 5) hT3
  have p6 := sv_free (k := 6) hT3
  have HT3 := Lib.hid hT3
  have HAT3 := Lib.hid hat3
  have HFR3 := Lib.hid hfr3
  have HB3 := Lib.hid hb3
  have HFEW := Lib.hid hfew
  have d1 : o'.d.tmod 11 = 8 := by rw [hdd, Int.tmod_eq_emod_of_nonneg HOK.out.d.1]; omega
  have d2 : o'.d % 11 = 8 := by rw [hdd]; omega
  unfold opV
  clear hT3 hat3 hfr3 hb3 hfew ho' hdd
  go_upto_region 2 with fail
  obtain ⟨w4, hw4⟩ : ∃ x, x = ((((((w3.setCell ⟨q, 0, none⟩ (.int .u8 o'.d)).setCell ⟨q, 1, none⟩ (.string o'.nm)).setCell ⟨q, 2, none⟩ (.string o'.to)).setCell ⟨q, 3, none⟩ (.slice B1 o'.ns.length e1')).setCell ⟨q, 4, none⟩ (.slice B2 o'.ps.length e2')).setCell ⟨q, 5, none⟩ (.int .i64 o'.n)).setCell ⟨q, 6, none⟩ (.slice B3 o'.ks.length e3') := ⟨_, rfl⟩
  rw [← hw4]
  have hS4 := DoS.mk' HDU.out HBa.out HQ.out (by omega) HB3.out HT3.out HAT3.out HFR3.out hw4
  obtain ⟨P, hP⟩ : ∃ P : Nat → Prop, P = fun g => w.heap.size ≤ g ∧ g < w3.heap.size := ⟨_, rfl⟩
  rw [← hP] at hS4
  have HS4 := Lib.hid hS4
  obtain ⟨z0, z1, z2, z3, z4, z5, z6⟩ := hS4.cells
  clear hw4 hP hS4 y0 y1 y2 y3 y4 y5 y6 p0 p1 p2 p3 p4 p5 p6 HT3 HAT3 HFR3 HB3 HTa HFW HBa HQ HDU HAT HOK hsa
  have hti := HT.out.drop HP.out o'.ns
  obtain ⟨er, her⟩ : ∃ y, y = (dropAll p (abs E) o'.ns).1 := ⟨_, rfl⟩
  have HTI := Lib.hid hti.2
  have HD : Hid (∀ W pr' v' L', DoS w0 W P b mb x p pr' room E v' L' q o' B1 e1' B2 e2' B3 e3' → Calls Try.prog 28 #[.pointer (some ⟨b, 0, none⟩), .slice B1 o'.ns.length e1'] W fun e w' => e = .returned (.int .i64 er) ∧ ∃ E2, abs E2 = (dropAll p (abs E) o'.ns).2 ∧ DoS w0 w' P b mb x p.spent pr' room E2 v' L' q o' B1 e1' B2 e2' B3 e3') := fun W pr' v' L' hs => by
    rw [her]
    exact dropD hs HFEW.out
  have HR : Hid (∀ W p' E', DoS w0 W P b mb x p' pr room E' v L q o' B1 e1' B2 e2' B3 e3' → Calls Try.prog 36 #[.pointer (some ⟨x, 0, none⟩), .slice B1 o'.ns.length e1'] W fun e w' => e = .returned (.int .i64 er) ∧ ∃ v2, DoS w0 w' P b mb x p' pr.spent room E' v2 (if rdropE pr L o'.ns = 0 then rdropL L o'.ns else L) q o' B1 e1' B2 e2' B3 e3') := fun W p' E' hs => by
    rw [her, hti.1]
    exact dropR HL1.out HPO.out hs HFEW.out
  have HFIN : Hid (∀ W E7 v7, abs E7 = (dropAll p (abs E) o'.ns).2 → DoS w0 W P b mb x p.spent pr.spent room E7 v7 (if rdropE pr L o'.ns = 0 then rdropL L o'.ns else L) q o' B1 e1' B2 e2' B3 e3' → DoGave w0 b mb x room p o (.returned (.bool true)) W) := fun W E7 v7 ha hs => hs.gave (by rw [ha]; exact HTI.out) HP.out.spent (fun hc _ => hc.spent)
  have hs0 := HS4.out.below ((Below.refl _ w4).drew)
  have hc0 := hs0.cells
  have hs0' := HS4.out
  clear hti her
  generalize (dropAll p (abs E) o'.ns).2 = da at *
  generalize (if rdropE pr L o'.ns = 0 then rdropL L o'.ns else L) = lr at *
  go_wp2_with fail
  go_region_held3 (fun w' => w'.cell? ⟨q, 0, none⟩ = some (.int .u8 o'.d) ∧ w'.cell? ⟨q, 1, none⟩ = some (.string o'.nm) ∧ w'.cell? ⟨q, 2, none⟩ = some (.string o'.to) ∧ w'.cell? ⟨q, 3, none⟩ = some (.slice B1 o'.ns.length e1') ∧ w'.cell? ⟨q, 4, none⟩ = some (.slice B2 o'.ps.length e2') ∧ w'.cell? ⟨q, 5, none⟩ = some (.int .i64 o'.n) ∧ w'.cell? ⟨q, 6, none⟩ = some (.slice B3 o'.ks.length e3')) (first | exact hc0 | exact hc5 | exact hc6 | exact hc7 | fail)
    (first
      | (go_at_call 28; refine (HD.out _ _ _ _ hs0).mono ?_; rintro e w5 ⟨rfl, E5, hA5, hs5⟩; have hc5 := hs5.cells)
      | (go_at_call 28; refine (HD.out _ _ _ _ hs6).mono ?_; rintro e w7 ⟨rfl, E5, hA5, hs7⟩; have hc7 := hs7.cells)
      | (go_at_call 36; refine (HR.out _ _ _ hs0).mono ?_; rintro e w6 ⟨rfl, v6, hs6⟩; have hc6 := hs6.cells)
      | (go_at_call 36; refine (HR.out _ _ _ hs5).mono ?_; rintro e w7 ⟨rfl, v7, hs7⟩; have hc7 := hs7.cells)
      | fail)
  all_goals
    have HG := Lib.hid (HFIN.out _ _ _ hA5 hs7)
    clear hA5 hs7 hc7
    go_wp2_with fail
    go_ret
    exact HG.out

set_option maxRecDepth 100000 in
set_option maxHeartbeats 2000000 in
theorem do_arm (h : Duo w0 w (fun _ => False) b mb x p pr room E v L) (ht : Tied (abs E) L) (hp : PwEq p pr) (hat : OpAt S w o A1 c1 A2 c2 A3 c3) (hok : OpOk o) (hk : o.d % 11 = 9) :
    Calls Try.prog 13 #[.pointer (some ⟨b, 0, none⟩), .pointer (some ⟨x, 0, none⟩), .agg (opV o A1 c1 A2 c2 A3 c3).toArray] w fun e w' => DoGave w0 b mb x room p o e w' := by
  have hfit := h.lv.fits
  have hL16 : L.length ≤ 16 := by rw [← ht.len]; exact hfit.2.2
  have hL1 : L.length ≤ 1000 := by omega
  have hLz : sumR L ≤ 1048576 := by rw [← ht.sum]; omega
  have hpo : pr.ok := by
    obtain ⟨D, hD⟩ := h.lv.dsk
    exact hp.ok hD.ok
  have HDU := Lib.hid h
  have HT := Lib.hid ht
  have HP := Lib.hid hp
  have HAT := Lib.hid hat
  have HOK := Lib.hid hok
  have HL1 := Lib.hid hL1
  have HLZ := Lib.hid hLz
  have HPO := Lib.hid hpo
  unfold opV
  have HKK := Lib.hid hk
  clear h ht hp hat hok hfit hL16 hL1 hLz hpo
  go_enter Try.func13, Try.ntmps13
  go_wp2_with fail
  obtain ⟨wa, hwa⟩ : ∃ y, y = w.alloc (.cells #[.int .u8 o.d, .string o.nm, .string o.to, .slice A1 o.ns.length c1, .slice A2 o.ps.length c2, .int .i64 o.n, .slice A3 o.ks.length c3] 34) := ⟨_, rfl⟩
  rw [← hwa]
  have hTa : wa.heap[w.heap.size]? = some (.cells [.int .u8 o.d, .string o.nm, .string o.to, .slice A1 o.ns.length c1, .slice A2 o.ps.length c2, .int .i64 o.n, .slice A3 o.ks.length c3].toArray 34 (0, 0)) := by rw [hwa]; exact new_at rfl
  have hba : Below w.heap.size w wa := by rw [hwa]; exact (Below.refl _ _).alloc (Nat.le_refl _) _
  have hsa : wa.heap.size = w.heap.size + 1 := by rw [hwa]; simp
  obtain ⟨q, hq⟩ : ∃ q, q = w.heap.size := ⟨_, rfl⟩
  rw [← hq] at hTa hsa ⊢
  have HFW := Lib.hid (few_any _ o A1 A2 A3 c1 c2 c3 wa (HAT.out.below hba) HOK.out)
  have HTa := Lib.hid hTa
  have HBa := Lib.hid hba
  have HQ := Lib.hid hq
  clear hwa hTa hba hq
  refine (HFW.out).mono ?_
  rintro e w3 ⟨B1, e1', B2, e2', B3, e3', rfl, hat3, hfr3, hb3⟩
  have hfew := OpFew.of HOK.out
  have hdd : (fewO o).d = o.d := rfl
  obtain ⟨o', ho'⟩ : ∃ x, x = fewO o := ⟨_, rfl⟩
  rw [← ho'] at hat3 hfr3 hfew hdd ⊢
  have hT3 : w3.heap[q]? = _ := (hb3.block q (by omega)).trans HTa.out
  have y0 := sv_cell hT3 0
  have y1 := sv_cell hT3 1
  have y2 := sv_cell hT3 2
  have y3 := sv_cell hT3 3
  have y4 := sv_cell hT3 4
  have y5 := sv_cell hT3 5
  have y6 := sv_cell hT3 6
  simp only [List.getElem?_cons_zero, List.getElem?_cons_succ] at y0 y1 y2 y3 y4 y5 y6
  have p0 := sv_free (k := 0) hT3
  have p1 := sv_free (k := 1) hT3
  have p2 := sv_free (k := 2) hT3
  have p3 := sv_free (k := 3) hT3
  have p4 := sv_free (k := 4) hT3
  have p5 := sv_free (k := 5) hT3
  have p6 := sv_free (k := 6) hT3
  have HT3 := Lib.hid hT3
  have HAT3 := Lib.hid hat3
  have HFR3 := Lib.hid hfr3
  have HB3 := Lib.hid hb3
  have HFEW := Lib.hid hfew
  have d1 : o'.d.tmod 11 = 9 := by rw [hdd, Int.tmod_eq_emod_of_nonneg HOK.out.d.1]; omega
  have d2 : o'.d % 11 = 9 := by rw [hdd]; omega
  unfold opV
  clear hT3 hat3 hfr3 hb3 hfew ho' hdd
  go_upto_region 2 with fail
  obtain ⟨w4, hw4⟩ : ∃ x, x = ((((((w3.setCell ⟨q, 0, none⟩ (.int .u8 o'.d)).setCell ⟨q, 1, none⟩ (.string o'.nm)).setCell ⟨q, 2, none⟩ (.string o'.to)).setCell ⟨q, 3, none⟩ (.slice B1 o'.ns.length e1')).setCell ⟨q, 4, none⟩ (.slice B2 o'.ps.length e2')).setCell ⟨q, 5, none⟩ (.int .i64 o'.n)).setCell ⟨q, 6, none⟩ (.slice B3 o'.ks.length e3') := ⟨_, rfl⟩
  rw [← hw4]
  have hS4 := DoS.mk' HDU.out HBa.out HQ.out (by omega) HB3.out HT3.out HAT3.out HFR3.out hw4
  obtain ⟨P, hP⟩ : ∃ P : Nat → Prop, P = fun g => w.heap.size ≤ g ∧ g < w3.heap.size := ⟨_, rfl⟩
  rw [← hP] at hS4
  have HS4 := Lib.hid hS4
  obtain ⟨z0, z1, z2, z3, z4, z5, z6⟩ := hS4.cells
  clear hw4 hP hS4 y0 y1 y2 y3 y4 y5 y6 p0 p1 p2 p3 p4 p5 p6 HT3 HAT3 HFR3 HB3 HTa HFW HBa HQ HDU HAT HOK hsa
  have HD : Hid (Calls Try.prog 24 #[.pointer (some ⟨b, 0, none⟩), .int .i64 o'.n] w4 fun e w' => e = .returned (.tuple #[]) ∧ ∃ E2, abs E2 = abs E ∧ DoS w0 w' P b mb x (p.arm o'.n) pr room E2 v L q o' B1 e1' B2 e2' B3 e3') := armD HS4.out HFEW.out
  clear HS4
  go_wp2_with fail
  refine (HD.out).mono ?_
  rintro e w5 ⟨rfl, E5, hA5, hs5⟩
  have HA5 := Lib.hid hA5
  have hr := armR hs5
  have HR := Lib.hid hr
  obtain ⟨x0, x1, x2, x3, x4, x5, x6⟩ := hs5.cells
  clear hA5 hs5 hr z0 z1 z2 z3 z4 z5 z6
  go_wp2_with fail
  refine (HR.out).mono ?_
  rintro e w6 ⟨rfl, v6, hs6⟩
  have HG : Hid (DoGave w0 b mb x room p o (.returned (.bool true)) w6) := hs6.gave (by rw [HA5.out]; exact HT.out) (HP.out.arm _) (fun _ hn => absurd HKK.out hn)
  clear hs6
  go_wp2_with fail
  go_ret
  exact HG.out

set_option maxRecDepth 100000 in
set_option maxHeartbeats 2000000 in
theorem do_crash (h : Duo w0 w (fun _ => False) b mb x p pr room E v L) (ht : Tied (abs E) L) (hp : PwEq p pr) (hat : OpAt S w o A1 c1 A2 c2 A3 c3) (hok : OpOk o) (hk : o.d % 11 = 10) :
    Calls Try.prog 13 #[.pointer (some ⟨b, 0, none⟩), .pointer (some ⟨x, 0, none⟩), .agg (opV o A1 c1 A2 c2 A3 c3).toArray] w fun e w' => DoGave w0 b mb x room p o e w' := by
  have hfit := h.lv.fits
  have hL16 : L.length ≤ 16 := by rw [← ht.len]; exact hfit.2.2
  have hL1 : L.length ≤ 1000 := by omega
  have hLz : sumR L ≤ 1048576 := by rw [← ht.sum]; omega
  have hpo : pr.ok := by
    obtain ⟨D, hD⟩ := h.lv.dsk
    exact hp.ok hD.ok
  have HDU := Lib.hid h
  have HT := Lib.hid ht
  have HP := Lib.hid hp
  have HAT := Lib.hid hat
  have HOK := Lib.hid hok
  have HL1 := Lib.hid hL1
  have HLZ := Lib.hid hLz
  have HPO := Lib.hid hpo
  unfold opV
  have HKK := Lib.hid hk
  clear h ht hp hat hok hfit hL16 hL1 hLz hpo
  go_enter Try.func13, Try.ntmps13
  go_wp2_with fail
  obtain ⟨wa, hwa⟩ : ∃ y, y = w.alloc (.cells #[.int .u8 o.d, .string o.nm, .string o.to, .slice A1 o.ns.length c1, .slice A2 o.ps.length c2, .int .i64 o.n, .slice A3 o.ks.length c3] 34) := ⟨_, rfl⟩
  rw [← hwa]
  have hTa : wa.heap[w.heap.size]? = some (.cells [.int .u8 o.d, .string o.nm, .string o.to, .slice A1 o.ns.length c1, .slice A2 o.ps.length c2, .int .i64 o.n, .slice A3 o.ks.length c3].toArray 34 (0, 0)) := by rw [hwa]; exact new_at rfl
  have hba : Below w.heap.size w wa := by rw [hwa]; exact (Below.refl _ _).alloc (Nat.le_refl _) _
  have hsa : wa.heap.size = w.heap.size + 1 := by rw [hwa]; simp
  obtain ⟨q, hq⟩ : ∃ q, q = w.heap.size := ⟨_, rfl⟩
  rw [← hq] at hTa hsa ⊢
  have HFW := Lib.hid (few_any _ o A1 A2 A3 c1 c2 c3 wa (HAT.out.below hba) HOK.out)
  have HTa := Lib.hid hTa
  have HBa := Lib.hid hba
  have HQ := Lib.hid hq
  clear hwa hTa hba hq
  refine (HFW.out).mono ?_
  rintro e w3 ⟨B1, e1', B2, e2', B3, e3', rfl, hat3, hfr3, hb3⟩
  have hfew := OpFew.of HOK.out
  have hdd : (fewO o).d = o.d := rfl
  obtain ⟨o', ho'⟩ : ∃ x, x = fewO o := ⟨_, rfl⟩
  rw [← ho'] at hat3 hfr3 hfew hdd ⊢
  have hT3 : w3.heap[q]? = _ := (hb3.block q (by omega)).trans HTa.out
  have y0 := sv_cell hT3 0
  have y1 := sv_cell hT3 1
  have y2 := sv_cell hT3 2
  have y3 := sv_cell hT3 3
  have y4 := sv_cell hT3 4
  have y5 := sv_cell hT3 5
  have y6 := sv_cell hT3 6
  simp only [List.getElem?_cons_zero, List.getElem?_cons_succ] at y0 y1 y2 y3 y4 y5 y6
  have p0 := sv_free (k := 0) hT3
  have p1 := sv_free (k := 1) hT3
  have p2 := sv_free (k := 2) hT3
  have p3 := sv_free (k := 3) hT3
  have p4 := sv_free (k := 4) hT3
  have p5 := sv_free (k := 5) hT3
  have p6 := sv_free (k := 6) hT3
  have HT3 := Lib.hid hT3
  have HAT3 := Lib.hid hat3
  have HFR3 := Lib.hid hfr3
  have HB3 := Lib.hid hb3
  have HFEW := Lib.hid hfew
  have d1 : o'.d.tmod 11 = 10 := by rw [hdd, Int.tmod_eq_emod_of_nonneg HOK.out.d.1]; omega
  have d2 : o'.d % 11 = 10 := by rw [hdd]; omega
  unfold opV
  clear hT3 hat3 hfr3 hb3 hfew ho' hdd
  go_upto_region 2 with fail
  obtain ⟨w4, hw4⟩ : ∃ x, x = ((((((w3.setCell ⟨q, 0, none⟩ (.int .u8 o'.d)).setCell ⟨q, 1, none⟩ (.string o'.nm)).setCell ⟨q, 2, none⟩ (.string o'.to)).setCell ⟨q, 3, none⟩ (.slice B1 o'.ns.length e1')).setCell ⟨q, 4, none⟩ (.slice B2 o'.ps.length e2')).setCell ⟨q, 5, none⟩ (.int .i64 o'.n)).setCell ⟨q, 6, none⟩ (.slice B3 o'.ks.length e3') := ⟨_, rfl⟩
  rw [← hw4]
  have hS4 := DoS.mk' HDU.out HBa.out HQ.out (by omega) HB3.out HT3.out HAT3.out HFR3.out hw4
  obtain ⟨P, hP⟩ : ∃ P : Nat → Prop, P = fun g => w.heap.size ≤ g ∧ g < w3.heap.size := ⟨_, rfl⟩
  rw [← hP] at hS4
  have HS4 := Lib.hid hS4
  obtain ⟨z0, z1, z2, z3, z4, z5, z6⟩ := hS4.cells
  clear hw4 hP hS4 y0 y1 y2 y3 y4 y5 y6 p0 p1 p2 p3 p4 p5 p6 HT3 HAT3 HFR3 HB3 HTa HFW HBa HQ HDU HAT HOK hsa
  have HD : Hid (Calls Try.prog 20 #[.pointer (some ⟨b, 0, none⟩), .slice B3 o'.ks.length e3'] w4 fun e w' => e = .returned (.tuple #[]) ∧ ∃ E2, abs E2 = crashA (abs E) o'.ks ∧ DoS w0 w' P b mb x Pw.fresh pr room E2 v L q o' B1 e1' B2 e2' B3 e3') := crashD HS4.out HFEW.out
  clear HS4
  go_wp2_with fail
  refine (HD.out).mono ?_
  rintro e w5 ⟨rfl, E5, hA5, hs5⟩
  have HA5 := Lib.hid hA5
  have hr := crashR HL1.out HLZ.out hs5 HFEW.out
  have HR := Lib.hid hr
  obtain ⟨x0, x1, x2, x3, x4, x5, x6⟩ := hs5.cells
  clear hA5 hs5 hr z0 z1 z2 z3 z4 z5 z6
  go_wp2_with fail
  refine (HR.out).mono ?_
  rintro e w6 ⟨rfl, v6, hs6⟩
  have HG : Hid (DoGave w0 b mb x room p o (.returned (.bool true)) w6) := hs6.gave (by rw [HA5.out]; exact (HT.out.crash _)) (PwEq.crash _) (fun _ _ => ⟨rfl, rfl⟩)
  clear hs6
  go_wp2_with fail
  go_ret
  exact HG.out
end

end Go.Proofs.Ytchedflfinkppaa
