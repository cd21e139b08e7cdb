/-
  Keys that came in; New of a row of them; a map of what was seen; Add beside other maps.
-/
import Derived.Test.YtdfmgfclcbeeiaaJoinM
namespace Go.Proofs.Ytdfmgfclcbeeiaa
open Go.RowKit Go.Maps Go.Sort Go.ChangeShapes Go.WideShapes Go.Deep Go.Joins
set_option linter.unusedSimpArgs false
set_option linter.unusedVariables false

theorem keys_open {H : Type} {enc : TypeId × Value → H} {w : World} {v : Value} {d : DataW H} {p : List MemPlace} {base : Nat} (o : Value.okWide Try.prog w .any base 22 v) (h : DataW.Trod enc Try.prog w 0 (fun _ => true) true 22 v d p) :
    ∃ (A : Option Addr) (l : List Int) (c : Nat), v = .slice A l.length c ∧ l.length ≤ c ∧ Row w A (us l) ∧ l.length ≤ 9223372036854775807 ∧ ∀ x ∈ l, U64 x := by
  obtain ⟨fuel, hf⟩ := h
  obtain ⟨A, len, cap, rfl⟩ := okWide_slice Try.underlying22 o
  rcases open_ints Try.underlying22 Try.underlying31 (by kernel_rfl) hf with ⟨hcs, _⟩ | ⟨a, l, c, zs, hcs, _, hl, hm, hz, hx, hcell, hwz⟩
  · simp [Value.cells] at hcs
    obtain ⟨rfl, rfl, rfl⟩ := hcs
    exact ⟨none, [], 0, rfl, Nat.le_refl _, Row.nil, by simp, by simp⟩
  · simp [Value.cells] at hcs
    obtain ⟨rfl, rfl, rfl⟩ := hcs
    have hz' : zs.length = cap := by simpa using hz
    have hlen : (zs.take len).length = len := by rw [List.length_take]; omega
    refine ⟨some a, zs.take len, cap, by rw [hlen], by rw [hlen]; exact hl, fun j hj => ?_, by rw [hlen]; unfold maxLen at hm; omega, fun x hx => u64_of (hwz x (List.mem_of_mem_take hx))⟩
    rw [us_len, hlen] at hj
    have hc := hcell j (by omega)
    have hb := lt_of_cell hc
    rw [block_add] at hb
    refine ⟨a, rfl, hb, ?_⟩
    rw [us_at (by rw [hlen]; exact hj), hc]
    have hjz : j < zs.length := by omega
    simp [List.getD, List.getElem?_take, hj, hjz]

theorem fE_nil : fE [] = fun _ _ => 0 := rfl
/-- New of a row of the law's own -/
theorem new_own (w : World) (B0 : Nat) (v : Value) (ks : List Int) (ho : w.ownsRow B0 31 1 v ks.length (us ks)) (hu : ∀ x ∈ ks, U64 x) (hn : ks.length ≤ 1000) :
    Calls Try.prog 10 #[v] w fun e w' => e = .returned (.pointer (some ⟨w.heap.size + 1, 0, none⟩)) ∧ GS w' w.heap.size (w.heap.size + 1) w.heap.size ks (fE []) ks.length ∧ Below w.heap.size w w' := by
  have hown := ho
  rcases ho.2 with ⟨rfl, h0⟩ | ⟨g, cap, cur, rfl, hg, hh, hnc, r⟩
  · have : ks = [] := List.eq_nil_of_length_eq_zero h0
    subst this
    exact new_nil w
  · refine (new_any w g 0 cap ks (lt_of_block hh) (fun i hi => ?_) hu (by omega)).mono ?_
    · have := hown.cells (g := g) rfl i (.int .u64 (ks.getD i 0)) (us_at hi)
      rw [Addr.add_lit] at this
      simpa using this
    · rintro e w' ⟨rfl, n, D, nb, h1, h2, h3, h4⟩
      exact ⟨rfl, ⟨n, D, nb, h1, h2, h3⟩, h4⟩
theorem GS.congr {w : World} {B b mb L : Nat} {N N' : List Int} {f : Int → Int → Int} (h : GS w B b mb N f L) (hN : ∀ z, z ∈ N ↔ z ∈ N') : GS w B b mb N' f L :=
  let ⟨n, D, nb, h1, h2, h3⟩ := h; ⟨n, D, nb, h1, h2, fun z => (h3 z).trans (hN z)⟩

set_option maxRecDepth 100000 in
set_option maxHeartbeats 2000000 in
/-- Add, told exactly -/
theorem add_at {w : World} {B b mb n : Nat} {D : DataW Unit} {nb : Int → Option Nat} {f : Int → Int → Int} {y : Int} (h : Gr w B b mb n D nb f) (hy : U64 y) (hn : n < maxLen) :
    Calls Try.prog 26 #[.pointer (some ⟨b, 0, none⟩), .int .u64 y] w fun e w' => e = .returned (.int .i64 (addE nb y)) ∧ (if (nb y).isSome then w' = w else (∃ D', Gr w' B b mb (n + 1) D' (node nb y w.heap.size) f) ∧ Kept B mb nb w w') := by
  have HH := Lib.hid (has_any h hy)
  have hc := h.blk.cell
  cases hnb : nb y with
  | some m =>
    rw [hnb] at HH
    go_enter Try.func26, Try.ntmps26
    go_wp2_with fail
    refine (HH.out).mono ?_
    rintro e w' ⟨rfl, rfl⟩
    go_wp2_with fail
    go_ret
    exact ⟨by simp [addE, hnb], by simp⟩
  | none =>
    rw [hnb] at HH
    obtain ⟨w1, hrun, hG, hB⟩ := h.add hy hnb hn
    have HG := Lib.hid (And.intro hG hB)
    have hc1 := (h.alloc (.map #[] 0)).blk.cell
    have hmm : (Instr.makeMap 64 none).run Try.prog w = .ok (.map (some w.heap.size)) (w.alloc (.map #[] 0)) := rfl
    clear hG hB
    go_enter Try.func26, Try.ntmps26
    go_wp2_with fail
    refine (HH.out).mono ?_
    rintro e w' ⟨rfl, hw⟩
    have hw := hw.symm
    subst hw
    go_wp2_with fail
    go_ret
    obtain ⟨⟨D', hG⟩, hB⟩ := HG.out
    exact ⟨by simp [addE, hnb], by simpa using ⟨⟨D', hG⟩, hB⟩⟩

/-- the map of what was seen: of each key that came, true -/
structure SeenB (w : World) (sb n : Nat) (ks : List Int) : Prop where
  map : ∃ D : DataW Unit, w.ownsMap Try.prog 31 (plainElem Try.prog 4) sb n D ∧ (∀ y, has D (litU y) = true ↔ y ∈ ks) ∧ ∀ y, D.atKey (litU y) (.lit (.bool false)) = .lit (.bool (hasN ks y))
theorem zero4 (w : World) : (zeroValue 4).run Try.prog w = .ok (.bool false) w := by
  have h : (Try.prog.info? 4).map (fun i => (i.zero, i.size, i.bytes)) = some (some (.bool false), 1, 1) := by kernel_rfl
  obtain ⟨i0, hi, hz0, _, _⟩ := info_parts h
  simp [zeroValue, typeInfo, hi, hz0]
theorem plainB_inv {v : Value} {z : DataW Unit × List MemPlace} (h : plainElem Try.prog 4 v = some z) : ∃ b, v = .bool b ∧ z = (.lit (.bool b), []) := by
  unfold plainElem at h
  rw [Try.underlying4] at h
  cases v <;> simp at h
  exact ⟨_, rfl, h.symm⟩
section
variable {w w' : World} {sb n : Nat} {ks : List Int} {y : Int}
theorem SeenB.look (h : SeenB w sb n ks) (hy : U64 y) : (Instr.lookup 53 (.map (some sb)) (.int .u64 y) false).run Try.prog w = .ok (.bool (hasN ks y)) w := by
  obtain ⟨D, h1, h2, h3⟩ := h.map
  obtain ⟨v, ps, hrun, hv⟩ := h1.lookup law31 Try.underlying53 (zero4 w) (plainElem_bool Try.underlying4 false) (key31 hy)
  rw [h3 y] at hv
  obtain ⟨b, rfl, he⟩ := plainB_inv hv
  have : hasN ks y = b := by injection he with he _; injection he with he; injection he
  rw [this]
  exact hrun
theorem SeenB.put (h : SeenB w sb n ks) (hy : U64 y) (hn : n < maxLen) : ∃ w', (Instr.mapUpdate 53 (.map (some sb)) (.int .u64 y) (.bool true)).run Try.prog w = .ok () w' ∧ SeenB w' sb (n + 1) (ks ++ [y]) ∧ w.grownBy w' (some sb) := by
  obtain ⟨D, h1, h2, h3⟩ := h.map
  obtain ⟨w', hrun, hm, hg⟩ := h1.store law31 Try.underlying53 hn (key31 hy) (plainElem_bool Try.underlying4 true)
  refine ⟨w', hrun, ⟨_, hm, fun z => ?_, fun z => ?_⟩, hg.grown⟩
  · by_cases hz : z = y
    · subst hz
      rw [has_put_same h1.isMap (by trivial)]
      simp
    · rw [has_put_other (litU_ne hz), h2 z]
      simp [hz]
  · by_cases hz : z = y
    · subst hz
      rw [atKey_put_same h1.isMap (by trivial)]
      rw [hasN_iff.2 (show z ∈ ks ++ [z] by simp)]
    · rw [atKey_put_other (litU_ne hz), h3 z]
      have : hasN ks z = hasN (ks ++ [y]) z := by
        cases h4 : hasN (ks ++ [y]) z with
        | true =>
          have := hasN_iff.1 h4
          simp [hz] at this
          exact hasN_iff.2 this
        | false =>
          have := hasN_not.1 h4
          simp at this
          exact hasN_not.2 this.1
      rw [this]
theorem SeenB.kept (h : SeenB w sb n ks) (hb : w'.heap[sb]? = w.heap[sb]?) : SeenB w' sb n ks := let ⟨D, h1, h2, h3⟩ := h.map; ⟨D, ownsMap_block h1 hb, h2, h3⟩
theorem SeenB.lt (h : SeenB w sb n ks) : sb < w.heap.size := let ⟨D, h1, _⟩ := h.map; h1.lt
theorem SeenB.len (h : SeenB w sb n ks) {N : List Int} (hN : N.Nodup) (hm : ∀ z, z ∈ N ↔ z ∈ ks) (ty : TypeId) : (Builtin.len_ #[53] ty #[.map (some sb)]).run Try.prog w = .ok (.int .i64 N.length) w := by
  obtain ⟨D, h1, h2, h3⟩ := h.map
  obtain ⟨ss, k1, k2, k3⟩ := keysOf_own h1
  have e : ss.length = N.length := by
    have a1 := nodup_le ss N k1 fun y hy => (hm y).2 ((h2 y).1 ((k2 y).1 hy))
    have a2 := nodup_le N ss hN fun y hy => (k2 y).2 ((h2 y).2 ((hm y).1 hy))
    omega
  rw [← e, ← k3]
  exact h1.len Try.underlying53 ty
theorem SeenB.new (w : World) : SeenB (w.alloc (.map #[] 0)) w.heap.size 0 [] :=
  ⟨_, World.ownsMap_made w Try.prog 31 _, fun y => by simp [has], fun y => rfl⟩
end

/-- the second graph and what was seen, behind the keys ks -/
structure ManyS (w0 w3 : World) (sb b mb : Nat) (ks : List Int) (wr : World) : Prop where
  g : ∃ n D nb, Gr wr w3.heap.size b mb n D nb (fE []) ∧ n ≤ ks.length ∧ (∀ z, (nb z).isSome = true ↔ z ∈ ks) ∧ ∀ z, nb z ≠ some sb
  seen : SeenB wr sb ks.length ks
  below : Below w3.heap.size w3 wr
  ne : mb ≠ sb
  low : w3.heap.size ≤ sb
section
variable {w0 w3 wr : World} {sb b mb : Nat} {ks : List Int} {p : Int}
theorem ManyS.gs (h : ManyS w0 w3 sb b mb ks wr) : GS wr w3.heap.size b mb ks (fE []) ks.length := let ⟨n, D, nb, h1, h2, h3, _⟩ := h.g; ⟨n, D, nb, h1, h2, h3⟩
/-- the graph has the key, the map hasn't yet -/
structure ManyT (w0 w3 : World) (sb b mb : Nat) (ks : List Int) (p : Int) (wr : World) : Prop where
  g : ∃ n D nb, Gr wr w3.heap.size b mb n D nb (fE []) ∧ n ≤ ks.length + 1 ∧ (∀ z, (nb z).isSome = true ↔ z ∈ ks ++ [p]) ∧ ∀ z, nb z ≠ some sb
  seen : SeenB wr sb ks.length ks
  below : Below w3.heap.size w3 wr
  ne : mb ≠ sb
  low : w3.heap.size ≤ sb
theorem ManyS.add (h : ManyS w0 w3 sb b mb ks wr) (hp : U64 p) (hn : ks.length ≤ 30) :
    Calls Try.prog 26 #[.pointer (some ⟨b, 0, none⟩), .int .u64 p] wr fun e w' => e = .returned (.int .i64 (if hasN ks p then 7 else 0)) ∧ ManyT w0 w3 sb b mb ks p w' := by
  obtain ⟨n, D, nb, h1, h2, h3, h4⟩ := h.g
  refine (add_at h1 hp (by unfold maxLen; omega)).mono ?_
  rintro e w' ⟨rfl, ho⟩
  unfold addE
  cases hs : (nb p).isSome with
  | true =>
    have hk := (h3 p).1 hs
    rw [hs] at ho
    simp at ho
    rw [hasN_iff.2 hk, ho]
    refine ⟨rfl, ⟨n, D, nb, h1, by omega, fun z => ?_, h4⟩, h.seen, h.below, h.ne, h.low⟩
    rw [h3 z, List.mem_append]
    constructor
    · exact .inl
    · rintro (h | h)
      · exact h
      · simp at h; subst h; exact hk
  | false =>
    have hk : hasN ks p = false := hasN_not.2 fun hm => by rw [(h3 p).2 hm] at hs; cases hs
    rw [hs] at ho
    simp at ho
    obtain ⟨⟨D', k1⟩, k2⟩ := ho
    rw [hk]
    have hsl := h.seen.lt
    refine ⟨rfl, ⟨_, D', _, k1, by omega, fun z => ?_, fun z => ?_⟩, h.seen.kept (k2.2 sb hsl (fun e => h.ne e.symm) h4), h.below.trans k2.1, h.ne, h.low⟩
    · unfold node
      by_cases hz : z = p
      · simp [hz]
      · simp [hz, h3 z]
    · unfold node
      by_cases hz : z = p
      · rw [if_pos hz]
        intro e
        injection e with e
        omega
      · rw [if_neg hz]
        exact h4 z
theorem ManyT.put (h : ManyT w0 w3 sb b mb ks p wr) (hp : U64 p) (hn : ks.length < maxLen) :
    ∃ w', (Instr.mapUpdate 53 (.map (some sb)) (.int .u64 p) (.bool true)).run Try.prog wr = .ok () w' ∧ ManyS w0 w3 sb b mb (ks ++ [p]) w' := by
  obtain ⟨w', hrun, hs, hg⟩ := h.seen.put hp hn
  obtain ⟨n, D, nb, h1, h2, h3, h4⟩ := h.g
  refine ⟨w', hrun, ⟨n, D, nb, ?_, by rw [List.length_append]; exact h2, h3, h4⟩, by rw [List.length_append]; exact hs, h.below.grown hg (by have := h.below.size; omega) (fun j e => by cases e; exact h.low), h.ne, h.low⟩
  have hblk : w'.heap[b]? = some (.cells #[.map (some mb)] 57 (0, 0)) := by
    have hb : wr.heap[b]? = some (.cells #[.map (some mb)] 57 (0, 0)) := h1.blk
    refine (hg.block b h1.blk.lt fun e => ?_).trans hb
    obtain ⟨D2, k1, _⟩ := h.seen.map
    obtain ⟨es, cl, k2, _⟩ := k1
    injection e with e
    rw [e, k2] at hb
    exact absurd hb (by simp)
  exact ⟨hblk, h1.map.kept hg (by simpa using h.ne), h1.mem, h1.look, fun x m hm => by
    obtain ⟨D', hI⟩ := h1.inn x m hm
    exact ⟨D', hI.map.kept hg (fun e => by injection e with e; exact h4 x (by rw [hm, e])), hI.mem, hI.look⟩, h1.non, h1.apart, h1.new⟩
end

end Go.Proofs.Ytdfmgfclcbeeiaa
