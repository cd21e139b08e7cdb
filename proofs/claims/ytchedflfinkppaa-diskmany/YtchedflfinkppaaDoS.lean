/-
  A call of a script, behind few, beside both disks: what each change of one of them leaves.
-/
import Derived.Test.YtchedflfinkppaaDuo
import Derived.Test.YtchedflfinkppaaTieA
namespace Go.Proofs.Ytchedflfinkppaa
open Go.RowKit Go.Maps Go.Sort Go.Shelf

structure DoS (w0 w : World) (P : Nat → Prop) (b mb x : Nat) (p pr : Pw) (room : Nat) (E : List Ent) (v : Value) (L : List RF) (q : Nat) (o : Opn) (A1 : Option Addr) (c1 : Nat) (A2 : Option Addr) (c2 : Nat) (A3 : Option Addr) (c3 : Nat) : Prop where
  duo : Duo w0 w P b mb x p pr room E v L
  cell : w.heap[q]? = some (.cells [.int .u8 o.d, .string o.nm, .string o.to, .slice A1 o.ns.length c1, .slice A2 o.ps.length c2, .int .i64 o.n, .slice A3 o.ks.length c3].toArray 34 (0, 0))
  at' : OpAt (fun g => P g ∧ g ≠ q) w o A1 c1 A2 c2 A3 c3
  free : FreeT (fun g => P g ∧ g ≠ q) w A2 o.ps.length
  pq : P q

section
variable {w0 w w' : World} {P : Nat → Prop} {b mb x q : Nat} {p p' pr pr' : Pw} {room : Nat} {E E' : List Ent} {v v' : Value} {L L' : List RF} {o : Opn} {A1 A2 A3 : Option Addr} {c1 c2 c3 : Nat}
theorem DoS.go (h : DoS w0 w P b mb x p pr room E v L q o A1 c1 A2 c2 A3 c3) (d : Duo w0 w' P b mb x p' pr' room E' v' L') (hs : w.heap.size ≤ w'.heap.size) (hk : ∀ g, g < w.heap.size → P g → w'.heap[g]? = w.heap[g]?) : DoS w0 w' P b mb x p' pr' room E' v' L' q o A1 c1 A2 c2 A3 c3 := by
  have k : ∀ g, g < w.heap.size → (P g ∧ g ≠ q) → w'.heap[g]? = w.heap[g]? := fun g hg s => hk g hg s.1
  exact ⟨d, (hk q (lt_of_block h.cell) h.pq).trans h.cell, ⟨h.at'.k1, h.at'.k2, h.at'.k3, h.at'.ns.kept hs k, h.at'.ps.kept hs k, h.at'.ks.kept hs k⟩, FreeT.kept h.at'.ps h.free hs (fun g hg s => ⟨k g hg s, s⟩), h.pq⟩
theorem DoS.cells (h : DoS w0 w P b mb x p pr room E v L q o A1 c1 A2 c2 A3 c3) :
    w.cell? ⟨q, 0, none⟩ = some (.int .u8 o.d) ∧ w.cell? ⟨q, 1, none⟩ = some (.string o.nm) ∧ w.cell? ⟨q, 2, none⟩ = some (.string o.to) ∧ w.cell? ⟨q, 3, none⟩ = some (.slice A1 o.ns.length c1) ∧ w.cell? ⟨q, 4, none⟩ = some (.slice A2 o.ps.length c2) ∧ w.cell? ⟨q, 5, none⟩ = some (.int .i64 o.n) ∧ w.cell? ⟨q, 6, none⟩ = some (.slice A3 o.ks.length c3) :=
  ⟨sv_cell h.cell 0, sv_cell h.cell 1, sv_cell h.cell 2, sv_cell h.cell 3, sv_cell h.cell 4, sv_cell h.cell 5, sv_cell h.cell 6⟩
theorem DoS.below (h : DoS w0 w P b mb x p pr room E v L q o A1 c1 A2 c2 A3 c3) (hb : Below w.heap.size w w') : DoS w0 w' P b mb x p pr room E v L q o A1 c1 A2 c2 A3 c3 :=
  h.go (h.duo.below hb) hb.size fun g hg _ => hb.block g hg
theorem DoS.disk {A' : List AFile} (h : DoS w0 w P b mb x p pr room E v L q o A1 c1 A2 c2 A3 c3) (hl : LvTo w0 w w' b mb p' room E A') : ∃ E', abs E' = A' ∧ DoS w0 w' P b mb x p' pr room E' v L q o A1 c1 A2 c2 A3 c3 := by
  obtain ⟨E', h1, h2, h3⟩ := h.duo.disk hl
  exact ⟨E', h1, h.go h2 h3.size fun g hg hp => h3.block g hg (h.duo.np g hp).2.1⟩
theorem DoS.ref (h : DoS w0 w P b mb x p pr room E v L q o A1 c1 A2 c2 A3 c3) : ∃ B : BK, RD w B x pr room v L ∧ (∀ g, (P g ∧ g ≠ q) → g ≠ x ∧ some g ≠ v.ownBlock) ∧ ∀ w' pr' v' L', RD w' B x pr' room v' L' → AddC x w w' v v' → DoS w0 w' P b mb x p pr' room E v' L' q o A1 c1 A2 c2 A3 c3 := by
  obtain ⟨B, h1, h2, h3⟩ := h.duo.ref
  exact ⟨B, h1, fun g hg => h2 g hg.1, fun w' pr' v' L' r c => h.go (h3 w' pr' v' L' r c) c.size fun g hg hp => c.block g hg (h2 g hp).1 (h2 g hp).2⟩
theorem DoS.offE (h : DoS w0 w P b mb x p pr room E v L q o A1 c1 A2 c2 A3 c3) : ∀ g, g < w.heap.size → (P g ∧ g ≠ q) → ¬ Of b mb E g := fun g _ hg => (h.duo.np g hg.1).2.1

/-- a change of the program's disk: what it answers, what it leaves -/
def EndD (w0 : World) (P : Nat → Prop) (b mb x : Nat) (p' pr : Pw) (room : Nat) (v : Value) (L : List RF) (q : Nat) (o : Opn) (A1 : Option Addr) (c1 : Nat) (A2 : Option Addr) (c2 : Nat) (A3 : Option Addr) (c3 : Nat) (r : Int × List AFile) (e : Ending) (w' : World) : Prop :=
  e = .returned (.int .i64 r.1) ∧ ∃ E2, abs E2 = r.2 ∧ DoS w0 w' P b mb x p' pr room E2 v L q o A1 c1 A2 c2 A3 c3
def EndR (w0 : World) (P : Nat → Prop) (b mb x : Nat) (p pr' : Pw) (room : Nat) (E : List Ent) (q : Nat) (o : Opn) (A1 : Option Addr) (c1 : Nat) (A2 : Option Addr) (c2 : Nat) (A3 : Option Addr) (c3 : Nat) (k : Int) (L' : List RF) (e : Ending) (w' : World) : Prop :=
  e = .returned (.int .i64 k) ∧ ∃ v2, DoS w0 w' P b mb x p pr' room E v2 L' q o A1 c1 A2 c2 A3 c3

/-- what few gives isn't much -/
structure OpFew (o : Opn) : Prop where
  nm : o.nm.size ≤ 12
  too : o.to.size ≤ 12
  ns : o.ns.length ≤ 4
  nss : ∀ s ∈ o.ns, s.size ≤ 12
  ps : o.ps.length ≤ 4
  pss : ∀ t ∈ o.ps, t.length ≤ 200
  d : 0 ≤ o.d ∧ o.d < 256
  n : -9223372036854775808 ≤ o.n ∧ o.n ≤ 9223372036854775807
  ks : o.ks.length ≤ 20
  b8 : ∀ t ∈ o.ps, Bytes8 t
theorem OpFew.of {o : Opn} (h : OpOk o) : OpFew (fewO o) :=
  ⟨cutS_size _, cutS_size _, fewNs_len _ _, fewNs_most _ _, fewPs_len _ _, fewPs_most _ _, h.d, h.n, by show (o.ks.take 20).length ≤ 20; rw [List.length_take]; omega, fun t ht => by
    obtain ⟨y, hy, rfl⟩ := List.mem_map.1 ht
    exact fun n hn => h.b8 y (List.mem_of_mem_take hy) n (List.mem_of_mem_take hn)⟩
theorem small_max {n : Nat} (h : n ≤ 12) : n ≤ maxLen := by unfold maxLen; omega

theorem firmD (h : DoS w0 w P b mb x p pr room E v L q o A1 c1 A2 c2 A3 c3) (hf : OpFew o) : Calls Try.prog 16 #[.pointer (some ⟨b, 0, none⟩), .slice A1 o.ns.length c1] w fun e w' => EndD w0 P b mb x p.spent pr room v L q o A1 c1 A2 c2 A3 c3 (firmAll p (abs E) o.ns) e w' := by
  refine (firmAll_lv w0 w b mb p room E A1 c1 o.ns h.duo.lv (h.at'.ns.mono h.offE) (by have := hf.ns; omega) (fun s hs => small_max (hf.nss s hs))).mono ?_
  rintro e w' ⟨e1, hl⟩
  exact ⟨e1, h.disk hl⟩
theorem dropD (h : DoS w0 w P b mb x p pr room E v L q o A1 c1 A2 c2 A3 c3) (hf : OpFew o) : Calls Try.prog 28 #[.pointer (some ⟨b, 0, none⟩), .slice A1 o.ns.length c1] w fun e w' => EndD w0 P b mb x p.spent pr room v L q o A1 c1 A2 c2 A3 c3 (dropAll p (abs E) o.ns) e w' := by
  refine (dropAll_lv w0 w b mb p room E A1 c1 o.ns h.duo.lv (h.at'.ns.mono h.offE) (by have := hf.ns; omega) (fun s hs => small_max (hf.nss s hs))).mono ?_
  rintro e w' ⟨e1, hl⟩
  exact ⟨e1, h.disk hl⟩
theorem swapD (h : DoS w0 w P b mb x p pr room E v L q o A1 c1 A2 c2 A3 c3) (hf : OpFew o) : Calls Try.prog 26 #[.pointer (some ⟨b, 0, none⟩), .string o.nm, .string o.to] w fun e w' => EndD w0 P b mb x p.spent pr room v L q o A1 c1 A2 c2 A3 c3 (swapA p (abs E) o.nm o.to) e w' := by
  refine (swapAll_lv w0 w b mb p room E o.nm o.to h.duo.lv (small_max hf.too) (small_max hf.nm)).mono ?_
  rintro e w' ⟨e1, hl⟩
  exact ⟨e1, h.disk hl⟩
theorem trimD (h : DoS w0 w P b mb x p pr room E v L q o A1 c1 A2 c2 A3 c3) (hf : OpFew o) : Calls Try.prog 27 #[.pointer (some ⟨b, 0, none⟩), .string o.nm, .int .i64 o.n] w fun e w' => EndD w0 P b mb x p.spent pr room v L q o A1 c1 A2 c2 A3 c3 (trimA p (abs E) o.nm o.n) e w' := by
  refine (trim_lv w0 w b mb p room E o.nm o.n h.duo.lv (small_max hf.nm)).mono ?_
  rintro e w' ⟨e1, hl⟩
  exact ⟨e1, h.disk hl⟩
theorem writeD (h : DoS w0 w P b mb x p pr room E v L q o A1 c1 A2 c2 A3 c3) (hf : OpFew o) : Calls Try.prog 19 #[.pointer (some ⟨b, 0, none⟩), .string o.nm, .slice A2 o.ps.length c2] w fun e w' => EndD w0 P b mb x p.spent pr room v L q o A1 c1 A2 c2 A3 c3 (writeA p room (abs E) o.nm o.ps.flatten) e w' := by
  refine (write_lv w0 w b mb p room E o.nm A2 c2 o.ps h.duo.lv (small_max hf.nm) (h.at'.ps.mono h.offE) (by have := hf.ps; omega) (fun t ht => by have := hf.pss t ht; omega)).mono ?_
  rintro e w' ⟨e1, hl⟩
  exact ⟨e1, h.disk hl⟩
theorem crashD (h : DoS w0 w P b mb x p pr room E v L q o A1 c1 A2 c2 A3 c3) (hf : OpFew o) : Calls Try.prog 20 #[.pointer (some ⟨b, 0, none⟩), .slice A3 o.ks.length c3] w fun e w' => e = .returned (.tuple #[]) ∧ ∃ E2, abs E2 = crashA (abs E) o.ks ∧ DoS w0 w' P b mb x Pw.fresh pr room E2 v L q o A1 c1 A2 c2 A3 c3 := by
  refine (crash_lv w0 w b mb p room E A3 c3 o.ks h.duo.lv (h.at'.ks.mono h.offE) (by have := hf.ks; omega)).mono ?_
  rintro e w' ⟨e1, hl⟩
  exact ⟨e1, h.disk hl⟩
theorem armD (h : DoS w0 w P b mb x p pr room E v L q o A1 c1 A2 c2 A3 c3) (hf : OpFew o) : Calls Try.prog 24 #[.pointer (some ⟨b, 0, none⟩), .int .i64 o.n] w fun e w' => e = .returned (.tuple #[]) ∧ ∃ E2, abs E2 = abs E ∧ DoS w0 w' P b mb x (p.arm o.n) pr room E2 v L q o A1 c1 A2 c2 A3 c3 := by
  refine (arm_lv w0 w b mb p room E o.n h.duo.lv hf.n.2).mono ?_
  rintro e w' ⟨e1, hl⟩
  exact ⟨e1, h.disk hl⟩

theorem firmR (hl : L.length ≤ 1000) (hz : sumR L ≤ 1048576) (hp : pr.ok) (h : DoS w0 w P b mb x p pr room E v L q o A1 c1 A2 c2 A3 c3) (hf : OpFew o) : Calls Try.prog 33 #[.pointer (some ⟨x, 0, none⟩), .slice A1 o.ns.length c1] w fun e w' => EndR w0 P b mb x p pr.spent room E q o A1 c1 A2 c2 A3 c3 (rfirmE pr L o.ns) (if rfirmE pr L o.ns = 0 then rfirmL L o.ns else L) e w' := by
  obtain ⟨B, h1, h2, h3⟩ := h.ref
  refine (rfirm_any w B x room pr v L _ A1 c1 o.ns h1 hp hl hz h.at'.ns h2 (by have := hf.ns; omega)).mono ?_
  rintro e w' ⟨e1, r, c⟩
  exact ⟨e1, v, h3 _ _ _ _ r c⟩
theorem dropR (hl : L.length ≤ 1000) (hp : pr.ok) (h : DoS w0 w P b mb x p pr room E v L q o A1 c1 A2 c2 A3 c3) (hf : OpFew o) : Calls Try.prog 36 #[.pointer (some ⟨x, 0, none⟩), .slice A1 o.ns.length c1] w fun e w' => EndR w0 P b mb x p pr.spent room E q o A1 c1 A2 c2 A3 c3 (rdropE pr L o.ns) (if rdropE pr L o.ns = 0 then rdropL L o.ns else L) e w' := by
  obtain ⟨B, h1, h2, h3⟩ := h.ref
  refine (rdrop_any w B x room pr v L _ A1 c1 o.ns h1 hp hl h.at'.ns h2 (by have := hf.ns; omega)).mono ?_
  rintro e w' ⟨e1, v2, r, c⟩
  exact ⟨e1, v2, h3 _ _ _ _ r c⟩
theorem swapR (hl : L.length ≤ 1000) (hp : pr.ok) (h : DoS w0 w P b mb x p pr room E v L q o A1 c1 A2 c2 A3 c3) (hf : OpFew o) : Calls Try.prog 34 #[.pointer (some ⟨x, 0, none⟩), .string o.nm, .string o.to] w fun e w' => EndR w0 P b mb x p pr.spent room E q o A1 c1 A2 c2 A3 c3 (rswapE pr L o.nm o.to) (if rswapE pr L o.nm o.to = 0 then rswapL L o.nm o.to else L) e w' := by
  obtain ⟨B, h1, h2, h3⟩ := h.ref
  refine (rswap_any w B x room pr v L o.nm o.to h1 hp hl (by have := hf.too; omega)).mono ?_
  rintro e w' ⟨e1, v2, r, c⟩
  exact ⟨e1, v2, h3 _ _ _ _ r c⟩
theorem trimR (hl : L.length ≤ 1000) (hz : sumR L ≤ 1048576) (hp : pr.ok) (h : DoS w0 w P b mb x p pr room E v L q o A1 c1 A2 c2 A3 c3) : Calls Try.prog 35 #[.pointer (some ⟨x, 0, none⟩), .string o.nm, .int .i64 o.n] w fun e w' => EndR w0 P b mb x p pr.spent room E q o A1 c1 A2 c2 A3 c3 (rtrimE pr L o.nm o.n) (if rtrimE pr L o.nm o.n = 0 then rtrimL L o.nm o.n else L) e w' := by
  obtain ⟨B, h1, h2, h3⟩ := h.ref
  refine (rtrim_any w B x room pr v L o.nm o.n h1 hp hl hz).mono ?_
  rintro e w' ⟨e1, r, c⟩
  exact ⟨e1, v, h3 _ _ _ _ r c⟩
theorem writeR {S : Nat → Prop} {A : Option Addr} {c : Nat} {bs : List Int} (hl : L.length ≤ 1000) (hz : sumR L ≤ 1048576) (hp : pr.ok) (h : DoS w0 w P b mb x p pr room E v L q o A1 c1 A2 c2 A3 c3) (hf : OpFew o) (hro : room ≤ 1048576) (hr : Row S w A (u8s bs)) (hS : ∀ g, S g → P g ∧ g ≠ q) (hb : bs.length ≤ 1000000) : Calls Try.prog 38 #[.pointer (some ⟨x, 0, none⟩), .string o.nm, .slice A bs.length c] w fun e w' => EndR w0 P b mb x p pr.spent room E q o A1 c1 A2 c2 A3 c3 (rwriteE pr room L o.nm bs.length) (if rwriteE pr room L o.nm bs.length = 0 then rwriteL L o.nm bs else L) e w' := by
  obtain ⟨B, h1, h2, h3⟩ := h.ref
  refine (rwrite_any w B x room pr v L o.nm S A c bs h1 hp hl hz (by have := hf.nm; omega) hro hr (fun g hg => h2 g (hS g hg)) hb).mono ?_
  rintro e w' ⟨e1, v2, r, c⟩
  exact ⟨e1, v2, h3 _ _ _ _ r c⟩
theorem crashR (hl : L.length ≤ 1000) (hz : sumR L ≤ 1048576) (h : DoS w0 w P b mb x p pr room E v L q o A1 c1 A2 c2 A3 c3) (hf : OpFew o) : Calls Try.prog 31 #[.pointer (some ⟨x, 0, none⟩), .slice A3 o.ks.length c3] w fun e w' => e = .returned (.tuple #[]) ∧ ∃ v2, DoS w0 w' P b mb x p ⟨false, false, pr.left⟩ room E v2 (rcrL L o.ks L.length) q o A1 c1 A2 c2 A3 c3 := by
  obtain ⟨B, h1, h2, h3⟩ := h.ref
  refine (rcrash_any w B x room pr v L _ A3 c3 o.ks h1 hl hz h.at'.ks h2 (by have := hf.ks; omega)).mono ?_
  rintro e w' ⟨e1, r, c⟩
  exact ⟨e1, v, h3 _ _ _ _ r c⟩
theorem armR (h : DoS w0 w P b mb x p pr room E v L q o A1 c1 A2 c2 A3 c3) : Calls Try.prog 37 #[.pointer (some ⟨x, 0, none⟩), .int .i64 o.n] w fun e w' => e = .returned (.tuple #[]) ∧ ∃ v2, DoS w0 w' P b mb x p (pr.arm o.n) room E v2 L q o A1 c1 A2 c2 A3 c3 := by
  obtain ⟨B, h1, h2, h3⟩ := h.ref
  refine (rarm_any w B x room pr v L o.n h1).mono ?_
  rintro e w' ⟨e1, r, c⟩
  exact ⟨e1, v, h3 _ _ _ _ r (c.addC v)⟩
end

end Go.Proofs.Ytchedflfinkppaa
