/-
  Files made firm together, and dropped together: what is left, without memory.
-/
import Derived.Test.YtchedflfinkppaaDo2
import Derived.Test.YtchedflfinkppaaOpen
namespace Go.Proofs.Ytchedflfinkppaa
open Go.RowKit Go.Maps Go.Sort Go.Shelf

theorem firmA_stays {x : List UInt8} : ∀ (ns : List ByteArray) (A : List AFile), (∀ a ∈ A, a.1 = x → a.2.1.length ≤ a.2.2) → ∀ a ∈ firmA A ns, a.1 = x → a.2.1.length ≤ a.2.2
  | [], _, h => h
  | s :: ns, A, h => firmA_stays ns (firm1A A s.data.toList) fun a ha hx => by
    obtain ⟨b, hb, rfl⟩ := List.mem_map.1 ha
    by_cases e : b.1 = s.data.toList
    · rw [if_pos e]
      exact Nat.le_refl _
    · rw [if_neg e] at hx ⊢
      exact h b hb hx
theorem firmA_firm : ∀ (ns : List ByteArray) (A : List AFile) (s : ByteArray), s ∈ ns → ∀ a ∈ firmA A ns, a.1 = s.data.toList → a.2.1.length ≤ a.2.2
  | t :: ns, A, s, h => fun a ha hx => by
    by_cases e : s = t
    · subst e
      refine firmA_stays ns (firm1A A s.data.toList) (fun b hb hx' => ?_) a ha hx
      obtain ⟨c, hc, rfl⟩ := List.mem_map.1 hb
      by_cases e : c.1 = s.data.toList
      · rw [if_pos e]
        exact Nat.le_refl _
      · rw [if_neg e] at hx'
        exact absurd hx' e
    · have hm : s ∈ ns := by
        rcases List.mem_cons.1 h with h | h
        · exact absurd h e
        · exact h
      exact firmA_firm ns (firm1A A t.data.toList) s hm a ha hx
theorem loose_none (A : List AFile) (ns : List ByteArray) (s : ByteArray) (h : s ∈ ns) : looseA (firmA A ns) s.data.toList = 0 := by
  unfold looseA
  cases hf : findA (firmA A ns) s.data.toList with
  | none => rfl
  | some a =>
    obtain ⟨h1, h2⟩ := findA_some hf
    have := firmA_firm ns A s h a h1 h2
    show a.2.1.length - a.2.2 = 0
    omega
theorem firm1A_names (A : List AFile) (x : List UInt8) : (firm1A A x).map Prod.fst = A.map Prod.fst := by
  unfold firm1A
  rw [List.map_map]
  refine List.map_congr_left fun a _ => ?_
  simp only [Function.comp]
  split <;> rfl
theorem firmA_names : ∀ (ns : List ByteArray) (A : List AFile), (firmA A ns).map Prod.fst = A.map Prod.fst
  | [], _ => rfl
  | s :: ns, A => (firmA_names ns (firm1A A s.data.toList)).trans (firm1A_names A _)
theorem find_names {A B : List AFile} (h : A.map Prod.fst = B.map Prod.fst) (x : List UInt8) : (findA A x).isSome = (findA B x).isSome := by
  have e : ∀ C : List AFile, (findA C x).isSome = (C.map Prod.fst).any (fun y => decide (y = x)) := fun C => by
    unfold findA
    rw [List.any_map]
    induction C with
    | nil => rfl
    | cons c C ih =>
      rw [List.find?_cons, List.any_cons]
      by_cases e : c.1 = x
      · simp [e]
      · simp only [e, decide_false, Function.comp, Bool.false_or]
        exact ih
  rw [e A, e B, h]
theorem all_names {A B : List AFile} (h : A.map Prod.fst = B.map Prod.fst) (ns : List ByteArray) : allA A ns = allA B ns := by
  unfold allA
  congr 1
  funext s
  exact find_names h _
/-- no two files have one name -/
def Once (A : List AFile) : Prop := A.Pairwise (fun a b => a.1 ≠ b.1)
theorem once_names {A B : List AFile} (h : A.map Prod.fst = B.map Prod.fst) (hA : Once A) : Once B := by
  unfold Once at *
  rw [← List.pairwise_map (f := Prod.fst) (R := fun x y => x ≠ y)] at hA ⊢
  rw [← h]
  exact hA
theorem dropA_none {A : List AFile} {x : List UInt8} (h : ∀ a ∈ A, a.1 ≠ x) : dropA A x = A := by
  unfold dropA
  rw [List.filter_eq_self]
  intro a ha
  exact decide_eq_true (h a ha)
theorem dropA_one : ∀ {A : List AFile} {x : List UInt8}, Once A → (∃ a ∈ A, a.1 = x) → (dropA A x).length + 1 = A.length
  | [], _, _, ⟨a, ha, _⟩ => absurd ha List.not_mem_nil
  | b :: A, x, ho, ⟨a, ha, hx⟩ => by
    unfold Once at ho
    rw [List.pairwise_cons] at ho
    by_cases e : b.1 = x
    · have hn : ∀ c ∈ A, c.1 ≠ x := fun c hc e' => ho.1 c hc (by rw [e, e'])
      have h1 : dropA (b :: A) x = dropA A x := by unfold dropA; rw [List.filter_cons, if_neg (by simp [e])]
      rw [h1, dropA_none hn]
      rfl
    · have h1 : dropA (b :: A) x = b :: dropA A x := by unfold dropA; rw [List.filter_cons, if_pos (decide_eq_true e)]
      rw [h1, List.length_cons, List.length_cons]
      rcases List.mem_cons.1 ha with rfl | ha
      · exact absurd hx e
      · have := dropA_one (A := A) ho.2 ⟨a, ha, hx⟩
        omega
theorem mem_dropsA : ∀ (ns : List ByteArray) {A : List AFile} {a : AFile}, a ∈ dropsA A ns ↔ a ∈ A ∧ ∀ s ∈ ns, a.1 ≠ s.data.toList
  | [], A, a => ⟨fun h => ⟨h, fun s hs => absurd hs List.not_mem_nil⟩, fun h => h.1⟩
  | t :: ns, A, a => by
    have := mem_dropsA ns (A := dropA A t.data.toList) (a := a)
    refine this.trans ⟨fun h => ?_, fun h => ?_⟩
    · obtain ⟨h1, h2⟩ := h
      unfold dropA at h1
      obtain ⟨h3, h4⟩ := List.mem_filter.1 h1
      refine ⟨h3, fun s hs => ?_⟩
      rcases List.mem_cons.1 hs with rfl | hs
      · exact of_decide_eq_true h4
      · exact h2 s hs
    · refine ⟨?_, fun s hs => h.2 s (List.mem_cons_of_mem _ hs)⟩
      unfold dropA
      exact List.mem_filter.2 ⟨h.1, decide_eq_true (h.2 t List.mem_cons_self)⟩
theorem dropsA_snoc (A : List AFile) (ns : List ByteArray) (s : ByteArray) : dropsA A (ns ++ [s]) = dropA (dropsA A ns) s.data.toList := by unfold dropsA; rw [List.foldl_append]; rfl
theorem dropsA_once : ∀ (ns : List ByteArray) {A : List AFile}, Once A → Once (dropsA A ns)
  | [], _, h => h
  | s :: ns, A, h => dropsA_once ns (A := dropA A s.data.toList) (List.Pairwise.filter _ h)

/-- the names that were met so far, as a set; what is left without them -/
structure Gone (A : List AFile) (ns : List ByteArray) (D : DataW Unit) : Prop where
  tidy : Tidy D
  has : ∀ y, has D (.string y) = true ↔ ∃ s ∈ ns, s.data.toList = y
  len : (∀ s ∈ ns, ∃ a ∈ A, a.1 = s.data.toList) → (dropsA A ns).length + Maps.size D = A.length
theorem Gone.start (A : List AFile) : Gone A [] (.map []) := ⟨tidy_empty, fun y => ⟨fun h => by simp [Maps.has] at h, fun ⟨s, hs, _⟩ => absurd hs List.not_mem_nil⟩, fun _ => rfl⟩
theorem Gone.step {A : List AFile} {ns : List ByteArray} {D : DataW Unit} (h : Gone A ns D) (ho : Once A) (s : ByteArray) : Gone A (ns ++ [s]) (D.put (.string s.data.toList) (.lit (.bool true))) := by
  refine ⟨h.tidy.put (by trivial) _, fun y => ?_, fun hall => ?_⟩
  · by_cases hy : y = s.data.toList
    · subst hy
      exact ⟨fun _ => ⟨s, by simp, rfl⟩, fun _ => has_put_same h.tidy.isMap (by trivial) _⟩
    · rw [has_put_other (by simpa using hy), h.has]
      refine ⟨fun ⟨t, ht, e⟩ => ⟨t, List.mem_append_left _ ht, e⟩, fun ⟨t, ht, e⟩ => ?_⟩
      rcases List.mem_append.1 ht with ht | ht
      · exact ⟨t, ht, e⟩
      · obtain rfl := List.mem_singleton.1 ht
        exact absurd e.symm hy
  · have h1 := h.len fun t ht => hall t (List.mem_append_left _ ht)
    obtain ⟨a, ha, hx⟩ := hall s (by simp)
    rw [dropsA_snoc, size_put h.tidy]
    by_cases hh : Maps.has D (.string s.data.toList) = true
    · rw [if_pos hh]
      obtain ⟨t, ht, e⟩ := (h.has _).1 hh
      rw [dropA_none fun c hc => by
        have := ((mem_dropsA ns).1 hc).2 t ht
        rw [e] at this
        exact this]
      exact h1
    · rw [if_neg hh]
      have hm : a ∈ dropsA A ns := (mem_dropsA ns).2 ⟨ha, fun t ht e => hh ((h.has _).2 ⟨t, ht, by rw [← e, hx]⟩)⟩
      have := dropA_one (dropsA_once ns ho) ⟨a, hm, hx⟩
      omega
theorem all_mem {A : List AFile} {ns : List ByteArray} (h : allA A ns = true) : ∀ s ∈ ns, ∃ a ∈ A, a.1 = s.data.toList := fun s hs => by
  have := List.all_eq_true.1 h s hs
  cases hf : findA A s.data.toList with
  | none => rw [hf] at this; cases this
  | some a => exact ⟨a, findA_some hf⟩
theorem calm_down {p : Pw} (h : Calm p) : ¬ p.spent.down = true := by rw [h.spent.2]; decide

section
variable {w0 w w' : World} {b mb x : Nat} {room : Nat}
theorem Duo.start {v : Value} (h : Lv w0 w b mb Pw.fresh room []) (r : RD w' ⟨w0.heap.size, fun g => ¬ Of b mb [] g⟩ x Pw.fresh room v []) (hb : Below w.heap.size w w') : Duo w0 w' (fun _ => False) b mb x Pw.fresh Pw.fresh room [] v [] :=
  ⟨h.below hb, ⟨_, r, fun g hg => ⟨hg, fun hf => hf⟩⟩, fun g hf => hf.elim⟩
theorem PwEq.refl (p : Pw) : PwEq p p := ⟨rfl, rfl, fun _ => rfl⟩
end

end Go.Proofs.Ytchedflfinkppaa

/-
  The law DiskMany, walked.
-/
namespace Go.Proofs.Ytchedflfinkppaa
open Go.RowKit Go.Maps Go.WideMaps Go.Sort Go.Shelf

def opN (ns : List ByteArray) : Opn := ⟨0, ⟨#[]⟩, ⟨#[]⟩, ns, [], 0, []⟩
theorem opN_ok {ns : List ByteArray} (h1 : ns.length ≤ 9223372036854775807) (h2 : ∀ s ∈ ns, s.size ≤ 9223372036854775807) : OpOk (opN ns) :=
  ⟨⟨(by decide : (0 : Int) ≤ 0), (by decide : (0 : Int) < 256)⟩, (by decide : (⟨#[]⟩ : ByteArray).size ≤ 9223372036854775807), (by decide : (⟨#[]⟩ : ByteArray).size ≤ 9223372036854775807), h1, h2, (by decide : (0 : Nat) ≤ 9223372036854775807), fun t ht => absurd ht List.not_mem_nil, fun t ht => absurd ht List.not_mem_nil, ⟨(by decide : (-9223372036854775808 : Int) ≤ 0), (by decide : (0 : Int) ≤ 9223372036854775807)⟩, (by decide : (0 : Nat) ≤ 9223372036854775807), fun t ht => absurd ht List.not_mem_nil⟩
theorem opN_at {S : Nat → Prop} {w : World} {B : Option Addr} {cb : Nat} {ns : List ByteArray} (h1 : ns.length ≤ cb) (h : Row S w B (strs ns)) : OpAt S w (opN ns) B cb none 0 none 0 :=
  ⟨h1, Nat.le_refl _, Nat.le_refl _, h, fun j hj => absurd hj (Nat.not_lt_zero _), Row.nil⟩

set_option maxRecDepth 100000 in
set_option maxHeartbeats 4000000 in
theorem law_many (A B : Option Addr) (c cb : Nat) (os : List Opn) (ns : List ByteArray) (w : World) (hO : OpsIn w A os) (hl : os.length ≤ 9223372036854775807) (hok : ∀ o ∈ os, OpOk o) (hN : Row (fun g => g < w.heap.size) w B (strs ns)) (hnc : ns.length ≤ cb) (hnl : ns.length ≤ 9223372036854775807) (hns : ∀ s ∈ ns, s.size ≤ 9223372036854775807) :
    Calls Try.prog 9 #[.slice A os.length c, .slice B ns.length cb] w fun e w' => e = .returned (.bool true) ∧ Below w.heap.size w w' := by
  have HO := Lib.hid hO
  have HOK := Lib.hid hok
  have HNR := Lib.hid hN
  have HNO := Lib.hid (opN_ok hnl hns)
  have HNC := Lib.hid hnc
  have hmm := @run_makeMap Try.prog
  clear hO hok hN hns hnc
  go_enter Try.func9, Try.ntmps9
  go_wp2_with fail
  refine (awake_any w).mono ?_
  rintro e w1 ⟨rfl, hb1⟩
  have HB1 := Lib.hid hb1
  clear hb1
  go_wp2_with fail
  refine (new_lv w w1 5000 HB1.out (by decide)).mono ?_
  rintro e w2 ⟨rfl, h2, _⟩
  obtain ⟨b, hb⟩ : ∃ b, b = w1.heap.size + 1 := ⟨_, rfl⟩
  obtain ⟨mb, hmb⟩ : ∃ mb, mb = w1.heap.size := ⟨_, rfl⟩
  have H2 : Hid (Lv w w2 b mb Pw.fresh 5000 []) := by rw [hb, hmb]; exact h2
  rw [← hb]
  clear h2 hb hmb
  have HRN := Lib.hid (rnew_any 5000 w2 ⟨w.heap.size, fun g => ¬ Of b mb [] g⟩ H2.out.bel.size (fun g hg ho => by have := H2.out.lt ho; omega) (by decide))
  go_wp2_with fail
  refine (HRN.out).mono ?_
  rintro e w3 ⟨rfl, r3, hb3⟩
  obtain ⟨x, hx⟩ : ∃ x, x = w2.heap.size := ⟨_, rfl⟩
  rw [← hx] at r3 ⊢
  have HD3 := Lib.hid (Duo.start H2.out r3 hb3)
  clear r3 hb3 hx H2 HRN
  go_wp2_with fail
  go_loopw [8, 9, 31] (fun _ _ i wr => ∃ (k : Nat), k ≤ os.length ∧ i = .int .i64 k ∧ ∃ E v L p pr, Duo w wr (fun _ => False) b mb x p pr 5000 E v L ∧ Tied (abs E) L ∧ PwEq p pr ∧ Calm p) (fun _ _ i _ => os.length - (intOf i).toNat)
  case atStart => exact ⟨0, Nat.zero_le _, rfl, [], _, [], Pw.fresh, Pw.fresh, HD3.out, Tied.empty, PwEq.refl _, ⟨rfl, rfl⟩⟩
  case round =>
    obtain ⟨k, hk, rfl, E, v, L, p, pr, hD, hT, hP, hC⟩ := hrel
    have HD := Lib.hid hD
    have HT := Lib.hid hT
    have HP := Lib.hid hP
    have HC := Lib.hid hC
    by_cases hlt : k < os.length
    · have i1 : (k : Int) < (os.length : Int) := by omega
      obtain ⟨ad, rfl, hadl, A1, c1, A2, c2, A3, c3, hat, k0, k1, k2, k3, k4, k5, k6⟩ := (HO.out.below hD.bel) k hlt
      have hoko := HOK.out _ (List.getElem_mem hlt)
      generalize os[k] = o at *
      have HAT := Lib.hid hat
      have HOKo := Lib.hid hoko
      have hd8 := hoko.d
      obtain ⟨dd, hdd⟩ : ∃ y, y = o.d := ⟨_, rfl⟩
      rw [← hdd] at k0 hd8
      have HDD := Lib.hid hdd
      obtain ⟨dm, hdm⟩ : ∃ y, y = dd % 11 := ⟨_, rfl⟩
      have d1 : dd.tmod 11 = dm := by rw [Int.tmod_eq_emod_of_nonneg (by omega), hdm]
      have d2 : dd % 11 = dm := hdm.symm
      have HDM : Hid (dm = o.d % 11) := by show _ = _; rw [hdm, hdd]
      have HKEEP : Hid (∀ W, Below wr.heap.size wr W → ∃ E v L p pr, Duo w W (fun _ => False) b mb x p pr 5000 E v L ∧ Tied (abs E) L ∧ PwEq p pr ∧ Calm p) := fun W hW => ⟨E, v, L, p, pr, HD.out.below hW, HT.out, HP.out, HC.out⟩
      have HBN : Hid (Below wr.heap.size wr (wr.alloc (.cells #[.int .u8 dd, .string o.nm, .string o.to, .slice A1 o.ns.length c1, .slice A2 o.ps.length c2, .int .i64 o.n, .slice A3 o.ks.length c3] 34))) := (Below.refl _ _).alloc (Nat.le_refl _) _
      clear hD hT hP hC hat hoko hdd hdm
      by_cases h30 : (k : Int) < 30
      · by_cases h9 : dm = 9
        · have hn9 : (dm != 9) = false := by simp [h9]
          have hn9' : (dm == 9) = true := by simp [h9]
          clear h9
          go_wp2_with fail
          go_roundw
          case rel => exact ⟨k + 1, by omega, by go_num, HKEEP.out _ HBN.out⟩
          case measure => simp [intOf]; omega
        · have hn9 : (dm != 9) = true := by simp [h9]
          have hn9' : (dm == 9) = false := by simp [h9]
          have HNE : Hid (o.d % 11 ≠ 9) := by show _ ≠ _; rw [← HDM.out]; exact h9
          obtain ⟨wa, hwa⟩ : ∃ y, y = wr.alloc (.cells #[.int .u8 dd, .string o.nm, .string o.to, .slice A1 o.ns.length c1, .slice A2 o.ps.length c2, .int .i64 o.n, .slice A3 o.ks.length c3] 34) := ⟨_, rfl⟩
          have hba : Below wr.heap.size wr wa := by rw [hwa]; exact HBN.out
          have HDO : Hid (Calls Try.prog 13 #[.pointer (some ⟨b, 0, none⟩), .pointer (some ⟨x, 0, none⟩), .agg #[.int .u8 dd, .string o.nm, .string o.to, .slice A1 o.ns.length c1, .slice A2 o.ps.length c2, .int .i64 o.n, .slice A3 o.ks.length c3]] wa fun e w' => DoGave w b mb x 5000 p o e w') := by
            rw [HDD.out]
            exact do_any w wa b mb x p pr 5000 E v L _ o A1 c1 A2 c2 A3 c3 (HD.out.below hba) HT.out HP.out (HAT.out.below hba) HOKo.out
          rw [hwa] at HDO
          clear h9 hwa hba
          go_wp2_with fail
          refine (HDO.out).mono ?_
          rintro e w5 ⟨E5, v5, L5, p5, pr5, rfl, g1, g2, g3, g4⟩
          have HG : Hid (∃ E v L p pr, Duo w w5 (fun _ => False) b mb x p pr 5000 E v L ∧ Tied (abs E) L ∧ PwEq p pr ∧ Calm p) := ⟨E5, v5, L5, p5, pr5, g1, g2, g3, g4 HC.out HNE.out⟩
          clear g1 g2 g3 g4
          go_wp2_with fail
          go_roundw
          case rel => exact ⟨k + 1, by omega, by go_num, HG.out⟩
          case measure => simp [intOf]; omega
      · go_wp2_with fail
        go_roundw
        case rel => exact ⟨k + 1, by omega, by go_num, HKEEP.out _ HBN.out⟩
        case measure => simp [intOf]; omega
    · have i1 : ¬ (k : Int) < (os.length : Int) := by omega
      obtain ⟨W0, rfl⟩ : ∃ y, y = wr := ⟨wr, rfl⟩
      have HFW : Hid (Calls Try.prog 18 #[.agg #[.int .u8 0, .string ⟨#[]⟩, .string ⟨#[]⟩, .slice B ns.length cb, .slice none 0 0, .int .i64 0, .slice none 0 0]] W0 fun e w' => GaveOp W0 (fewO (opN ns)) e w') := few_any _ (opN ns) B none none cb 0 0 W0 (opN_at HNC.out (HNR.out.below HD.out.bel)) HNO.out
      have hfew := OpFew.of HNO.out
      obtain ⟨o', ho'⟩ : ∃ y, y = fewO (opN ns) := ⟨_, rfl⟩
      rw [← ho'] at HFW hfew
      have HFEW := Lib.hid hfew
      clear hD hT hP hC ho' hfew
      go_wp2_with fail
      refine (HFW.out).mono ?_
      rintro e w5 ⟨B1, e1, B2, e2, B3, e3, rfl, hat5, _, hb5⟩
      have hfld : ∀ W, (Instr.field 34 (.agg #[.int .u8 o'.d, .string o'.nm, .string o'.to, .slice B1 o'.ns.length e1, .slice B2 o'.ps.length e2, .int .i64 o'.n, .slice B3 o'.ks.length e3]) 3).run Try.prog W = .ok (.slice B1 o'.ns.length e1) W := fun W => by kernel_rfl
      unfold opV
      have hD5 := HD.out.below hb5
      have hrow5 := HD.out.lv.new hat5.ns
      obtain ⟨ls, hls⟩ : ∃ y, y = o'.ns := ⟨_, rfl⟩
      have hl4 : ls.length ≤ 4 := by rw [hls]; exact HFEW.out.ns
      have hs12 : ∀ s ∈ ls, s.size ≤ 12 := by rw [hls]; exact HFEW.out.nss
      rw [← hls] at hfld hrow5 ⊢
      have HS12 := Lib.hid hs12
      have HD5 := Lib.hid hD5
      have HROW5 := Lib.hid hrow5
      have hL16 : L.length ≤ 16 := by rw [← HT.out.len]; exact HD.out.lv.fits.2.2
      have HFI : Hid (∀ W s, Below w5.heap.size w5 W → Calls Try.prog 32 #[.pointer (some ⟨x, 0, none⟩), .string s] W fun e w' => e = .returned (.int .i64 (findR L s)) ∧ Below w5.heap.size w5 w') := fun W s hW => by
        obtain ⟨Bk, r, _, _⟩ := (HD5.out.below hW).ref
        refine (rfind_any W Bk x 5000 pr v L s r (by omega)).mono ?_
        rintro e w' ⟨e1, hb'⟩
        exact ⟨e1, hW.trans (hb'.mono hW.size)⟩
      clear hat5 hb5 hD5 hrow5 hls hs12 HFW HD HFEW HNR
      go_wp2_with fail
      clear hfld
      go_loopw [11, 13, 58] (fun t _ i wr => ∃ (k : Nat), k ≤ ls.length ∧ i = .int .i64 k ∧ t = .bool (allR L (ls.take k)) ∧ Below w5.heap.size w5 wr) (fun _ _ i _ => ls.length - (intOf i).toNat)
      case atStart => exact ⟨0, Nat.zero_le _, rfl, rfl, Below.refl _ _⟩
      case round =>
        obtain ⟨k, hk, rfl, rfl, hbr⟩ := hrel
        by_cases hlt : k < ls.length
        · have i1 : (k : Int) < (ls.length : Int) := by omega
          obtain ⟨ad, rfl, _, _, hcs⟩ := (HROW5.out.below hbr) k (by rw [strs_len]; exact hlt)
          rw [strs_at hlt] at hcs
          have hnx : allR L (ls.take (k + 1)) = (allR L (ls.take k) && decide (0 ≤ findR L ls[k])) := by
            unfold allR
            rw [List.take_succ_eq_append_getElem hlt, List.all_append, List.all_cons, List.all_nil, Bool.and_true]
          have HF1 := Lib.hid (HFI.out wr ls[k] hbr)
          have HBR := Lib.hid hbr
          have HNX := Lib.hid hnx
          clear hbr hnx
          generalize ls[k] = s at *
          generalize findR L s = fr at *
          cases ha : allR L (ls.take k) with
          | false =>
            rw [ha] at HNX
            have HA := Lib.hid ha
            clear ha
            go_wp2_with fail
            go_roundw
            case rel => exact ⟨k + 1, by omega, by go_num, by rw [HNX.out]; rfl, HBR.out⟩
            case measure => simp [intOf]; omega
          | true =>
            rw [ha] at HNX
            clear ha
            by_cases hfr : 0 ≤ fr
            · have HFR := Lib.hid hfr
              go_wp2_with fail
              refine (HF1.out).mono ?_
              rintro e w6 ⟨rfl, hb6⟩
              have HB6 := Lib.hid hb6
              clear hb6
              go_wp2_with fail
              go_roundw
              case rel => exact ⟨k + 1, by omega, by go_num, by rw [HNX.out]; simp [HFR.out], HB6.out⟩
              case measure => simp [intOf]; omega
            · have HFR := Lib.hid hfr
              go_wp2_with fail
              refine (HF1.out).mono ?_
              rintro e w6 ⟨rfl, hb6⟩
              have HB6 := Lib.hid hb6
              clear hb6
              go_wp2_with fail
              go_roundw
              case rel => exact ⟨k + 1, by omega, by go_num, by rw [HNX.out]; have h9 := HFR.out; first | (simp; done) | (simp; omega), HB6.out⟩
              case measure => simp [intOf]; omega
        · have i1 : ¬ (k : Int) < (ls.length : Int) := by omega
          rw [List.take_of_length_le (by omega)]
          obtain ⟨w6, rfl⟩ : ∃ y, y = wr := ⟨wr, rfl⟩
          have hlv6 := (HD5.out.below hbr).lv
          have hrow6 := HROW5.out.below hbr
          have HF := Lib.hid (firmAll_lv w w6 b mb p 5000 E B1 e1 ls hlv6 hrow6 (by omega) (fun s hs => small_max (HS12.out s hs)))
          have hth := HT.out.all ls
          have HROW6 := Lib.hid hrow6
          have hnd := calm_down HC.out
          have hnd2 := calm_down HC.out.spent
          have hno : Once (abs E) := HT.out.ne
          clear hbr hlv6 hrow6 HFI HROW5 HD5
          cases ht : allR L ls with
          | false =>
            rw [ht] at hth
            have hfa : firmAll p (abs E) ls = (6, abs E) := by unfold firmAll; rw [if_neg hnd, if_neg (by rw [hth]; decide)]
            rw [hfa] at HF
            have HDR : Hid (dropAll p.spent (abs E) ls = (6, abs E)) := by show _ = _; unfold dropAll; rw [if_neg hnd2, if_neg (by rw [hth]; decide)]
            clear hth hnd hnd2 hno ht hfa
            go_wp2_with fail
            refine (HF.out).mono ?_
            rintro e w7 ⟨rfl, E7, hl7, hc7, ha7⟩
            have HL7 := Lib.hid hl7
            have HA7 := Lib.hid ha7
            have HROW7 := Lib.hid (HROW6.out.off hc7)
            clear hl7 hc7 ha7
            go_wp2_with fail
            go_loopw [16, 87] (fun _ i wr => ∃ (k : Nat), k ≤ ls.length ∧ i = .int .i64 k ∧ wr = w7) (fun _ i _ => ls.length - (intOf i).toNat)
            case atStart => exact ⟨0, Nat.zero_le _, rfl, rfl⟩
            case round =>
              obtain ⟨k3, hk3, rfl, rfl⟩ := hrel
              by_cases hlt3 : k3 < ls.length
              · have i3 : (k3 : Int) < (ls.length : Int) := by omega
                obtain ⟨ad, rfl, _, _, hcs⟩ := HROW7.out k3 (by rw [strs_len]; exact hlt3)
                rw [strs_at hlt3] at hcs
                generalize ls[k3] = s at *
                go_wp2_with fail
                go_roundw
                case rel => exact ⟨k3 + 1, by omega, by go_num, by first | rfl | trivial⟩
                case measure => simp [intOf]; omega
              · have i3 : ¬ (k3 : Int) < (ls.length : Int) := by omega
                have HN := Lib.hid (names_lv w wr b mb p.spent 5000 E7 HL7.out)
                go_wp2_with fail
                refine (HN.out).mono ?_
                rintro e w8 ⟨X8, c8, rfl, _, _, hb8⟩
                have HL8 := Lib.hid (HL7.out.below hb8)
                have HROW8 := Lib.hid (HROW7.out.below hb8)
                have hnl8 : (namesA (abs E7)).length = (abs E).length := by rw [namesA_len, HA7.out]
                have hn16 : (abs E).length ≤ 16 := by rw [← HA7.out]; exact HL7.out.fits.2.2
                rw [hnl8]
                have hdr := dropAll_lv w w8 b mb p.spent 5000 E7 B1 e1 ls HL8.out HROW8.out (by omega) (fun s hs => small_max (HS12.out s hs))
                rw [HA7.out, HDR.out] at hdr
                have HD8 := Lib.hid hdr
                clear hb8 hnl8 hdr
                go_wp2_with fail
                refine (HD8.out).mono ?_
                rintro e w9 ⟨rfl, E9, hl9, hc9, ha9⟩
                have HL9 := Lib.hid hl9
                have HA9 := Lib.hid ha9
                have HROW9 := Lib.hid (HROW8.out.off hc9)
                clear hl9 hc9 ha9
                go_wp2_with fail
                obtain ⟨gm, hgm⟩ : ∃ y, y = w9.heap.size := ⟨_, rfl⟩
                have HM0 : Hid ((w9.alloc (.map #[] 0)).ownsMap Try.prog 9 (plainElem (H := Unit) Try.prog 4) gm 0 (.map [])) := by rw [hgm]; exact World.ownsMap_made _ _ _ _
                have HB0 : Hid (Below w9.heap.size w9 (w9.alloc (.map #[] 0))) := (Below.refl _ _).alloc (Nat.le_refl _) _
                rw [← hgm]
                have HGM := Lib.hid hgm
                clear hgm
                go_loopw [21, 108] (fun _ i wr => ∃ (k : Nat) (D : DataW Unit), k ≤ ls.length ∧ i = .int .i64 k ∧ wr.ownsMap Try.prog 9 (plainElem (H := Unit) Try.prog 4) gm k D ∧ Below w9.heap.size w9 wr) (fun _ i _ => ls.length - (intOf i).toNat)
                case atStart => exact ⟨0, _, Nat.zero_le _, rfl, HM0.out, HB0.out⟩
                case round =>
                  obtain ⟨k4, D4, hk4, rfl, hm4, hb4⟩ := hrel
                  by_cases hlt4 : k4 < ls.length
                  · have i4 : (k4 : Int) < (ls.length : Int) := by omega
                    obtain ⟨ad, rfl, _, _, hcs⟩ := (HROW9.out.below hb4) k4 (by rw [strs_len]; exact hlt4)
                    rw [strs_at hlt4] at hcs
                    have hsz := small_max (HS12.out _ (List.getElem_mem hlt4))
                    have HM4 := Lib.hid hm4
                    have HB4 := Lib.hid hb4
                    clear hm4 hb4
                    generalize ls[k4] = s at *
                    obtain ⟨wm, hrun, hownm, hgrowm⟩ := HM4.out.update law9 Try.underlying63 (show k4 < maxLen by unfold maxLen; omega) (keyOf_string_mk Try.underlying9 hsz) (plainElem_bool (H := Unit) Try.underlying4 true)
                    have HG : Hid (wm.ownsMap Try.prog 9 (plainElem (H := Unit) Try.prog 4) gm (k4 + 1) (D4.put (.string s.data.toList) (.lit (.bool true))) ∧ RowKit.Below w9.heap.size w9 wm) := ⟨hownm, HB4.out.grown hgrowm HB4.out.size (fun g e => by injection e with e; have := HGM.out; omega)⟩
                    clear hownm hgrowm
                    go_wp2_with fail
                    go_roundw
                    case rel => exact ⟨k4 + 1, _, by omega, by go_num, HG.out.1, HG.out.2⟩
                    case measure => simp [intOf]; omega
                  · have i4 : ¬ (k4 : Int) < (ls.length : Int) := by omega
                    obtain ⟨w10, rfl⟩ : ∃ y, y = wr := ⟨wr, rfl⟩
                    have HL10 := Lib.hid (HL9.out.below hb4)
                    have HN10 := Lib.hid (names_lv w w10 b mb p.spent.spent 5000 E9 HL10.out)
                    clear hm4 hb4
                    go_wp2_with fail
                    refine (HN10.out).mono ?_
                    rintro e w11 ⟨X11, c11, rfl, _, _, hb11⟩
                    have hnl11 : (namesA (abs E9)).length = (abs E).length := by rw [namesA_len, HA9.out]
                    rw [hnl11]
                    have HF11 : Hid (Below w.heap.size w w11) := (HL10.out.below hb11).bel
                    clear hb11 hnl11
                    go_wp2_with fail
                    go_ret
                    exact ⟨by simp, HF11.out⟩
          | true =>
            rw [ht] at hth
            have hfa : firmAll p (abs E) ls = (0, firmA (abs E) ls) := by unfold firmAll; rw [if_neg hnd, if_pos hth]
            rw [hfa] at HF
            have hnames : (firmA (abs E) ls).map Prod.fst = (abs E).map Prod.fst := firmA_names ls (abs E)
            have hall7 : allA (firmA (abs E) ls) ls = true := (all_names hnames ls).trans hth
            have HDR : Hid (dropAll p.spent (firmA (abs E) ls) ls = (0, dropsA (firmA (abs E) ls) ls)) := by show _ = _; unfold dropAll; rw [if_neg hnd2, if_pos hall7]
            have HONCE : Hid (Once (firmA (abs E) ls)) := once_names hnames.symm hno
            have HMEM := Lib.hid (all_mem hall7)
            have HLS := Lib.hid (loose_none (abs E) ls)
            have hlen7 : (firmA (abs E) ls).length = (abs E).length := by have := congrArg List.length hnames; simpa using this
            obtain ⟨A7, hA7⟩ : ∃ y, y = firmA (abs E) ls := ⟨_, rfl⟩
            rw [← hA7] at HF HDR HONCE HMEM HLS hlen7
            clear hth hnd hnd2 hno ht hfa hnames hall7 hA7
            go_wp2_with fail
            refine (HF.out).mono ?_
            rintro e w7 ⟨rfl, E7, hl7, hc7, ha7⟩
            have HL7 := Lib.hid hl7
            have HA7 := Lib.hid ha7
            have HROW7 := Lib.hid (HROW6.out.off hc7)
            have HLO : Hid (∀ W s, Below w7.heap.size w7 W → s ∈ ls → Calls Try.prog 23 #[.pointer (some ⟨b, 0, none⟩), .string s] W fun e w' => e = .returned (.int .i64 0) ∧ Below w7.heap.size w7 w') := fun W s hW hs => by
              have h0 := loose_lv w W b mb p.spent 5000 E7 s (HL7.out.below hW) (small_max (HS12.out s hs))
              rw [HA7.out, HLS.out s hs] at h0
              refine h0.mono ?_
              rintro e w' ⟨e1, n, rfl⟩
              exact ⟨e1, ⟨hW.os, hW.tape, hW.output, hW.size, hW.block⟩⟩
            clear hl7 hc7 ha7
            go_wp2_with fail
            go_loopw [16, 87] (fun _ i wr => ∃ (k : Nat), k ≤ ls.length ∧ i = .int .i64 k ∧ Below w7.heap.size w7 wr) (fun _ i _ => ls.length - (intOf i).toNat)
            case atStart => exact ⟨0, Nat.zero_le _, rfl, Below.refl _ _⟩
            case round =>
              obtain ⟨k3, hk3, rfl, hb3⟩ := hrel
              by_cases hlt3 : k3 < ls.length
              · have i3 : (k3 : Int) < (ls.length : Int) := by omega
                obtain ⟨ad, rfl, _, _, hcs⟩ := (HROW7.out.below hb3) k3 (by rw [strs_len]; exact hlt3)
                rw [strs_at hlt3] at hcs
                have HL3 := Lib.hid (HLO.out wr _ hb3 (List.getElem_mem hlt3))
                clear hb3
                generalize ls[k3] = s at *
                go_wp2_with fail
                refine (HL3.out).mono ?_
                rintro e w8 ⟨rfl, hb8⟩
                have HB8 := Lib.hid hb8
                clear hb8
                go_wp2_with fail
                go_roundw
                case rel => exact ⟨k3 + 1, by omega, by go_num, HB8.out⟩
                case measure => simp [intOf]; omega
              · have i3 : ¬ (k3 : Int) < (ls.length : Int) := by omega
                have HL7' := Lib.hid (HL7.out.below hb3)
                have HROW7' := Lib.hid (HROW7.out.below hb3)
                have HN := Lib.hid (names_lv w wr b mb p.spent 5000 E7 HL7'.out)
                clear hb3 HLO
                go_wp2_with fail
                refine (HN.out).mono ?_
                rintro e w8 ⟨X8, c8, rfl, _, _, hb8⟩
                have HL8 := Lib.hid (HL7'.out.below hb8)
                have HROW8 := Lib.hid (HROW7'.out.below hb8)
                have hnl8 : (namesA (abs E7)).length = A7.length := by rw [namesA_len, HA7.out]
                have hn16 : A7.length ≤ 16 := by rw [← HA7.out]; exact HL7.out.fits.2.2
                rw [hnl8]
                have hdr := dropAll_lv w w8 b mb p.spent 5000 E7 B1 e1 ls HL8.out HROW8.out (by omega) (fun s hs => small_max (HS12.out s hs))
                rw [HA7.out, HDR.out] at hdr
                have HD8 := Lib.hid hdr
                clear hb8 hnl8 hdr
                go_wp2_with fail
                refine (HD8.out).mono ?_
                rintro e w9 ⟨rfl, E9, hl9, hc9, ha9⟩
                have HL9 := Lib.hid hl9
                have HA9 := Lib.hid ha9
                have HROW9 := Lib.hid (HROW8.out.off hc9)
                clear hl9 hc9 ha9
                go_wp2_with fail
                obtain ⟨gm, hgm⟩ : ∃ y, y = w9.heap.size := ⟨_, rfl⟩
                have HM0 : Hid ((w9.alloc (.map #[] 0)).ownsMap Try.prog 9 (plainElem (H := Unit) Try.prog 4) gm 0 (.map [])) := by rw [hgm]; exact World.ownsMap_made _ _ _ _
                have HB0 : Hid (RowKit.Below w9.heap.size w9 (w9.alloc (.map #[] 0))) := (Below.refl _ _).alloc (Nat.le_refl _) _
                rw [← hgm]
                have HGM := Lib.hid hgm
                clear hgm
                go_loopw [21, 108] (fun _ i wr => ∃ (k : Nat) (D : DataW Unit), k ≤ ls.length ∧ i = .int .i64 k ∧ wr.ownsMap Try.prog 9 (plainElem (H := Unit) Try.prog 4) gm k D ∧ Gone A7 (ls.take k) D ∧ RowKit.Below w9.heap.size w9 wr) (fun _ i _ => ls.length - (intOf i).toNat)
                case atStart => exact ⟨0, _, Nat.zero_le _, rfl, HM0.out, Gone.start A7, HB0.out⟩
                case round =>
                  obtain ⟨k4, D4, hk4, rfl, hm4, hg4, hb4⟩ := hrel
                  by_cases hlt4 : k4 < ls.length
                  · have i4 : (k4 : Int) < (ls.length : Int) := by omega
                    obtain ⟨ad, rfl, _, _, hcs⟩ := (HROW9.out.below hb4) k4 (by rw [strs_len]; exact hlt4)
                    rw [strs_at hlt4] at hcs
                    have hsz := small_max (HS12.out _ (List.getElem_mem hlt4))
                    have hst := hg4.step HONCE.out ls[k4]
                    rw [← List.take_succ_eq_append_getElem hlt4] at hst
                    have HST := Lib.hid hst
                    have HM4 := Lib.hid hm4
                    have HB4 := Lib.hid hb4
                    clear hm4 hb4 hg4 hst
                    generalize ls[k4] = s at *
                    obtain ⟨wm, hrun, hownm, hgrowm⟩ := HM4.out.update law9 Try.underlying63 (show k4 < maxLen by unfold maxLen; omega) (keyOf_string_mk Try.underlying9 hsz) (plainElem_bool (H := Unit) Try.underlying4 true)
                    have HG : Hid (wm.ownsMap Try.prog 9 (plainElem (H := Unit) Try.prog 4) gm (k4 + 1) (D4.put (.string s.data.toList) (.lit (.bool true))) ∧ RowKit.Below w9.heap.size w9 wm) := ⟨hownm, HB4.out.grown hgrowm HB4.out.size (fun g e => by injection e with e; have := HGM.out; omega)⟩
                    clear hownm hgrowm
                    go_wp2_with fail
                    go_roundw
                    case rel => exact ⟨k4 + 1, _, by omega, by go_num, HG.out.1, HST.out, HG.out.2⟩
                    case measure => simp [intOf]; omega
                  · have i4 : ¬ (k4 : Int) < (ls.length : Int) := by omega
                    rw [List.take_of_length_le (by omega)] at hg4
                    have hglen := hg4.len HMEM.out
                    obtain ⟨w10, rfl⟩ : ∃ y, y = wr := ⟨wr, rfl⟩
                    have HL10 := Lib.hid (HL9.out.below hb4)
                    have HN10 := Lib.hid (names_lv w w10 b mb p.spent.spent 5000 E9 HL10.out)
                    have HM10 := Lib.hid hm4
                    clear hm4 hb4 hg4
                    go_wp2_with fail
                    refine (HN10.out).mono ?_
                    rintro e w11 ⟨X11, c11, rfl, _, _, hb11⟩
                    have hm11 : w11.ownsMap Try.prog 9 (plainElem (H := Unit) Try.prog 4) gm k4 D4 := by
                      obtain ⟨es, clock, q1, q2, q3, q4⟩ := HM10.out
                      exact ⟨es, clock, (hb11.block gm HM10.out.lt).trans q1, q2, q3, q4⟩
                    have hlen11 : ∀ ty, (Builtin.len_ #[63] ty #[.map (some gm)]).run Try.prog w11 = .ok (.int .i64 (Maps.size D4)) w11 := fun ty => hm11.len Try.underlying63 ty
                    have hnl11 : (namesA (abs E9)).length = (dropsA A7 ls).length := by rw [namesA_len, HA9.out]
                    rw [hnl11]
                    have HF11 : Hid (RowKit.Below w.heap.size w w11) := (HL10.out.below hb11).bel
                    clear hb11 hnl11 hm11
                    generalize (dropsA A7 ls).length = n9 at *
                    generalize A7.length = n7 at *
                    generalize Maps.size D4 = n4 at *
                    have hsub : IntKind.i64.wrap ((n7 : Int) - (n4 : Int)) = (n9 : Int) := by rw [IntKind.wrap_i64]; omega
                    have hsub' : (n7 : Int) - (n4 : Int) = (n9 : Int) := by omega
                    go_wp2_with fail
                    go_ret
                    exact ⟨by simp; try omega, HF11.out⟩

end Go.Proofs.Ytchedflfinkppaa
