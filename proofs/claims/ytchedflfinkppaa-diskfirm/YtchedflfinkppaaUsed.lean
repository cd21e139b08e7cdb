/-
  The contract of Used: how many bytes all files have together.
-/
import Derived.Test.YtchedflfinkppaaDMap
import Derived.Maps.RangeWalk
import Derived.Test.YtchedflfinkppaaPowA
namespace Go.Proofs.Ytchedflfinkppaa
open Go.RowKit Go.Maps Go.WideMaps

/-- The bytes of those entries (a name, a block, how many bytes) that are no longer to come. -/
def sumL (E : List (List UInt8 × Nat × Nat)) (left : Lit → Bool) : Nat := (E.map fun e => if left (.string e.1) then 0 else e.2.2).sum
def total (E : List (List UInt8 × Nat × Nat)) : Nat := (E.map fun e => e.2.2).sum

theorem sumL_le (left : Lit → Bool) : ∀ E, sumL E left ≤ total E
  | [] => Nat.le_refl _
  | e :: E => by
    have := sumL_le left E
    simp only [sumL, total, List.map_cons, List.sum_cons] at this ⊢
    split <;> omega
theorem sumL_none {left : Lit → Bool} : ∀ {E}, (∀ e ∈ E, left (.string e.1) = true) → sumL E left = 0
  | [], _ => rfl
  | e :: E, h => by
    have := sumL_none (left := left) (E := E) fun x hx => h x (List.mem_cons_of_mem _ hx)
    simp only [sumL, List.map_cons, List.sum_cons] at this ⊢
    rw [this, if_pos (h e List.mem_cons_self)]
theorem sumL_all {left : Lit → Bool} (h : ∀ kl, left kl = false) (E) : sumL E left = total E := by simp [sumL, total, h]
theorem same_str (a b : List UInt8) : (Lit.string a).sameKey (Lit.string b) = decide (a = b) := by
  by_cases h : a = b
  · subst h; simp [Lit.sameKey]
  · rw [sameKey_ne (by simpa using h)]; simp [h]
theorem sumL_same {left : Lit → Bool} {x : List UInt8} : ∀ {E : List (List UInt8 × Nat × Nat)}, (∀ e ∈ E, e.1 ≠ x) → sumL E (fun z => left z && !z.sameKey (.string x)) = sumL E left
  | [], _ => rfl
  | e :: E, h => by
    have := sumL_same (left := left) (x := x) (E := E) fun y hy => h y (List.mem_cons_of_mem _ hy)
    have h0 := h e List.mem_cons_self
    simp only [sumL, List.map_cons, List.sum_cons] at this ⊢
    rw [this]
    simp [same_str, h0]
theorem sumL_step {left : Lit → Bool} {x : List UInt8} {f m : Nat} (hl : left (.string x) = true) : ∀ {E : List (List UInt8 × Nat × Nat)}, E.Pairwise (fun a b => a.1 ≠ b.1) → (x, f, m) ∈ E → sumL E (fun z => left z && !z.sameKey (.string x)) = sumL E left + m
  | [], _, h => by cases h
  | e :: E, hp, h => by
    obtain ⟨h1, h2⟩ := List.pairwise_cons.1 hp
    rcases List.mem_cons.1 h with rfl | hm
    · have := sumL_same (left := left) (x := x) (E := E) fun y hy => (h1 y hy).symm
      simp only [sumL, List.map_cons, List.sum_cons] at this ⊢
      rw [this]
      simp [same_str, hl]
      omega
    · have := sumL_step (f := f) (m := m) hl h2 hm
      have h0 : e.1 ≠ x := h1 _ hm
      simp only [sumL, List.map_cons, List.sum_cons] at this ⊢
      rw [this]
      simp [same_str, h0]
      omega

/-- What the map's entries are: names, blocks of files, how many bytes. -/
structure Ents (w : World) (D : DataW Unit) (E : List (List UInt8 × Nat × Nat)) : Prop where
  once : E.Pairwise (fun a b => a.1 ≠ b.1)
  all : ∀ x, has D (.string x) = true → ∃ f m, (x, f, m) ∈ E
  here : ∀ x f m, (x, f, m) ∈ E → has D (.string x) = true
  leads : ∀ x f m, (x, f, m) ∈ E → D.atKey (.string x) none9 = .lit (.int .i64 (f : Int))
  file : ∀ x f m, (x, f, m) ∈ E → ∃ A c, w.cell? ⟨f, 0, none⟩ = some (.slice A m c)

theorem rdP_form (v : Value) (y : DataW Unit × List MemPlace) (h : rdP v = some y) : ∃ c : Option Nat, v = .pointer (c.map fun f => ⟨f, 0, none⟩) := by
  unfold rdP at h
  split at h
  · exact ⟨none, rfl⟩
  · rename_i f
    exact ⟨some f, rfl⟩
  · cases h

theorem next_files (w : World) {ops : Array Oper} {rest : List Oper} {o : Oper} {a : Act} {Q : Exit → Act → World → Prop} (hg : o.guard = none) (it : Operand) (hop : o.op = Op.next it false) (b r n : Nat) (D : DataW Unit) (left : Lit → Bool) (cnt : Nat)
    (hit : a.eval it = .pointer (some ⟨r, 0, none⟩)) (h : w.ranges Try.prog 9 rdP b r n D left cnt)
    (hDone : cnt = 0 → (∀ kl, left kl = false) → wpList Try.prog ops Q rest (a.put o.dst (.tuple #[.bool false])) w)
    (hMore : ∀ (x : ByteArray) (c : Option Nat) (y : DataW Unit × List MemPlace) (w' : World) (cnt' : Nat), left (.string x.data.toList) = true → rdP (.pointer (c.map fun f => ⟨f, 0, none⟩)) = some y → (∀ zd, D.atKey (.string x.data.toList) zd = y.1) → w'.ranges Try.prog 9 rdP b r n D (fun z => left z && !z.sameKey (.string x.data.toList)) cnt' → cnt' < cnt →
      w.grownBy w' (some r) → w'.heap.size = w.heap.size → (Instr.entry (.pointer (some ⟨r, 0, none⟩))).run Try.prog w' = .ok (.tuple #[.string x, .pointer (c.map fun f => ⟨f, 0, none⟩)]) w' → wpList Try.prog ops Q rest (a.put o.dst (.tuple #[.bool true, .string x, .pointer (c.map fun f => ⟨f, 0, none⟩)])) w') :
    wpList Try.prog ops Q (o :: rest) a w :=
  wpList_next_ranges w hg it hop 9 law9 rdP Value.string (fun c : Option Nat => Value.pointer (c.map fun f => ⟨f, 0, none⟩)) (fun key kl h => by obtain ⟨s, rfl, _⟩ := string_of_keyOf Try.underlying9 h; exact ⟨s, rfl⟩) rdP_form b r n D left cnt hit h hDone
    (fun x c kl y w' cnt' hkey hlk hv hat hrg hlt hgr hsz hen => by
      obtain ⟨x', ex, rfl, _⟩ := string_of_keyOf Try.underlying9 hkey
      cases ex
      exact hMore x c y w' cnt' hlk hv hat hrg hlt hgr hsz hen)

set_option maxRecDepth 100000 in
set_option maxHeartbeats 1000000 in
theorem used_any (b room mb n : Nat) (p : Pw) (D : DataW Unit) (E : List (List UInt8 × Nat × Nat)) (w : World) (hblk : Blk w b p room mb) (hm : w.ownsMap Try.prog 9 rdP mb n D) (hE : Ents w D E) (hT : total E ≤ 9223372036854775807) :
    Calls Try.prog 25 #[.pointer (some ⟨b, 0, none⟩)] w fun e w' => e = .returned (.int .i64 (total E : Nat)) ∧ Below w.heap.size w w' := by
  obtain ⟨_, _, _, _, c4⟩ := hblk.cells
  have HE := Lib.hid hE
  have HT := Lib.hid hT
  clear hblk hE hT
  go_enter Try.func25, Try.ntmps25
  go_wp2_with (first
    | (at_range; refine wpList_range_own _ rfl _ 65 rfl 9 87 law9 Try.underlying65 _ mb n _ rfl hm ?_; intro w0 hrg0 hg0 hs0)
    | fail)
  go_frame
  go_loopw [3, 5] (fun u _ wr => ∃ (left : Lit → Bool) (cnt : Nat), wr.ranges Try.prog 9 rdP mb w.heap.size n D left cnt ∧ (∀ kl, left kl = true → has D kl = true) ∧ u = .int .i64 (sumL E left : Nat) ∧ w.grownBy wr none)
    (fun _ _ wr => wr.rangeLeft mb w.heap.size)
  case atStart => exact ⟨_, _, hrg0, fun _ h => h, by rw [sumL_none fun e he => HE.out.here _ _ _ he]; rfl, hg0⟩
  case round =>
    obtain ⟨left, cnt, hrg, hlh, rfl, hgw⟩ := hrel
    have HL := Lib.hid hlh
    clear hlh
    go_wp2_with (at_next; refine next_files _ rfl _ rfl mb w.heap.size n _ _ _ rfl hrg ?_ ?_)
    · intro _ hl0
      have HS := Lib.hid (sumL_all hl0 E)
      clear hl0
      go_wp2_with fail
      go_ret
      exact ⟨by rw [HS.out]; rfl, (Below.refl _ _).grown hgw (Nat.le_refl _) (by simp)⟩
    · intro x c yd yp w1 cnt1 hlx hv hat hrg1 hlt hg1 hs1 hen
      obtain ⟨f, m, hmem⟩ := HE.out.all _ (HL.out _ hlx)
      have hle := HE.out.leads _ _ _ hmem
      rw [hat none9] at hle
      obtain ⟨A, cc, hcell⟩ := HE.out.file _ _ _ hmem
      have hgw1 := hgw.andThen hg1 (fun j hj => by cases hj; exact Or.inl (Nat.le_refl _))
      have hc1 : w1.cell? ⟨f, 0, none⟩ = some (.slice A m cc) := by
        rw [((Below.refl _ _).grown hgw1 (Nat.le_refl _) (by simp)).cell (lt_of_cell hcell)]
        exact hcell
      have hst := sumL_step hlx HE.out.once hmem
      have hb1 := sumL_le (fun z => left z && !z.sameKey (.string x.data.toList)) E
      rw [hst] at hb1
      have i1 : (sumL E left : Int) + (m : Int) ≤ 9223372036854775807 := by have := HT.out; omega
      rcases c with _ | g
      · subst hle
        rcases rdP_inv hv with ⟨_, h⟩ | ⟨g, h, _⟩
        · omega
        · cases h
      have hgf : g = f := by
        subst hle
        rcases rdP_inv hv with ⟨h, _⟩ | ⟨g', h, h'⟩
        · cases h
        · simp at h
          omega
      subst hgf
      have HS := Lib.hid hst
      have HR := Lib.hid hrg1
      have HG := Lib.hid hgw1
      have HLT := Lib.hid hlt
      have HX := Lib.hid hlx
      have HRG := Lib.hid hrg
      clear hst hrg1 hgw1 hlt hlx hrg hgw hat hv hle hmem hcell hg1 hb1
      go_wp2_with fail
      refine ⟨⟨_, cnt1, HR.out, fun kl h => HL.out kl ?_, ?_, HG.out⟩, ?_⟩
      · simp only [Bool.and_eq_true] at h
        exact h.1
      · rw [HS.out]
        rfl
      · rw [HR.out.left_eq, HRG.out.left_eq]
        exact HLT.out

end Go.Proofs.Ytchedflfinkppaa
