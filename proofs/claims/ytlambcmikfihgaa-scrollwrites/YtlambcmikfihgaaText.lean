/-
  The contract of (*Writer).Text.
-/
import Derived.Test.YtlambcmikfihgaaAppend
import Derived.Test.YtlambcmikfihgaaNum
namespace Go.Proofs.Ytlambcmikfihgaa
open Go.RowKit

/-- A text's bytes. -/
def textB (t : List Int) : List Int := vi t.length ++ t

/-- behind an append of many bytes and the store into the field -/
theorem Wr.steps {w w1 : World} {B b : Nat} {v v' : Value} {l t : List Int} (h : Wr w B b v l) (hown : w1.ownsRow B 5 1 v' (l.length + t.length) (l.map (Value.int .u8) ++ u8s t))
    (hgrow : w.grownBy w1 v.ownBlock) (hat : v'.ownBlock = v.ownBlock ∨ v'.ownBlock = some w.heap.size) : Wrote B b v w (l ++ t) (w1.setCell ⟨b, 0, none⟩ v') := by
  have hblt := lt_of_block h.blk
  have hvb := h.apart
  have hgb : v'.ownBlock ≠ some b := by
    rcases hat with e | e
    · rw [e]; exact hvb
    · rw [e]; intro e2; injection e2 with e2; omega
  have hb1 : w1.heap[b]? = some (.cells #[v] 27 (0, 0)) := (hgrow.block b hblt (fun e => hvb e.symm)).trans h.blk
  refine ⟨v', ⟨one_setCell hb1, ?_, ?_⟩, ⟨hgrow.os, hgrow.tape, hgrow.output, ?_, fun k hk hkb hko => ?_⟩, ?_⟩
  · have := ownsRow_setCell_other (a := ⟨b, 0, none⟩) hown hgb v'
    simpa [u8s] using this
  · have := hgrow.size; have := h.low; simp [World.setCell]; omega
  · have := hgrow.size; simp [World.setCell]; omega
  · rw [Below.heap_setCell _ _ _ _ hkb, hgrow.block k hk hko]
  · rcases hat with e | e
    · exact .inl e
    · exact .inr ⟨_, e, Nat.le_refl _⟩

/-- A slice of texts. -/
def Texts (S : Nat → Prop) (w : World) (A : Option Addr) (ts : List (List Int)) : Prop :=
  ∃ cells : List Value, cells.length = ts.length ∧ Row S w A cells ∧ ∀ k (h : k < ts.length), ∃ A' c, cells[k]? = some (.slice A' (ts[k]).length c) ∧ Row S w A' (u8s ts[k])

theorem Texts.wrote {b : Nat} {v v' : Value} {w w' : World} {A : Option Addr} {ts : List (List Int)} (h : Texts (OffW b v) w A ts) (hf : Fr b v.ownBlock w w') (hl : Later w v.ownBlock v'.ownBlock) : Texts (OffW b v') w' A ts := by
  obtain ⟨cells, h1, h2, h3⟩ := h
  refine ⟨cells, h1, h2.wrote hf hl, fun k hk => ?_⟩
  obtain ⟨A', c, e, r⟩ := h3 k hk
  exact ⟨A', c, e, r.wrote hf hl⟩

theorem Texts.at_ {S : Nat → Prop} {w : World} {A : Option Addr} {ts : List (List Int)} (h : Texts S w A ts) {k : Nat} (hk : k < ts.length) :
    ∃ ad A' c, A = some ad ∧ w.cell? (ad.add k) = some (.slice A' (ts[k]).length c) ∧ Row S w A' (u8s ts[k]) := by
  obtain ⟨cells, h1, h2, h3⟩ := h
  obtain ⟨A', c, e, r⟩ := h3 k hk
  obtain ⟨ad, rfl, _, _, hc⟩ := h2 k (by omega)
  exact ⟨ad, A', c, rfl, hc.trans e, r⟩

def bulkT (ts : List (List Int)) : Nat := (ts.map fun t => t.length + 10).sum
theorem texts_len : ∀ ts : List (List Int), (∀ t ∈ ts, t.length < U64) → (ts.flatMap textB).length ≤ bulkT ts
  | [], _ => by simp
  | t :: r, h => by
    have h1 := vi_len10 (h t (List.mem_cons_self ..))
    have h2 := texts_len r fun z hz => h z (List.mem_cons_of_mem _ hz)
    unfold bulkT at h2 ⊢
    simp only [List.flatMap_cons, List.length_append, List.map_cons, List.sum_cons, textB]
    omega
theorem bulkT_take {ts : List (List Int)} {k : Nat} (h : k < ts.length) : bulkT (ts.take k) + ((ts[k]).length + 10) ≤ bulkT ts := by
  have e : ts = ts.take k ++ ts[k] :: ts.drop (k + 1) := by rw [List.getElem_cons_drop, List.take_append_drop]
  conv => rhs; rw [e]
  unfold bulkT
  simp only [List.map_append, List.map_cons, List.sum_append, List.sum_cons]
  omega

set_option maxRecDepth 100000 in
set_option maxHeartbeats 800000 in
theorem text_any (B b c : Nat) (v : Value) (l : List Int) (ts : List (List Int)) (A : Option Addr) (w : World) (hw : Wr w B b v l) (hr : Texts (OffW b v) w A ts)
    (hx : ∀ t ∈ ts, t.length < U64) (hl : l.length + bulkT ts ≤ 70368744177664) (hn : ts.length ≤ 70368744177664) :
    Calls Try.prog 9 #[.pointer (some ⟨b, 0, none⟩), .slice A ts.length c] w fun e w' => e = .returned (.pointer (some ⟨b, 0, none⟩)) ∧ Wrote B b v w (l ++ ts.flatMap textB) w' := by
  obtain ⟨i0, hi, hz0, hz1, hz2⟩ := info_parts Try.info5
  go_enter Try.func9, Try.ntmps9
  go_wp2
  go_loopw [11] (fun i wr => ∃ k : Nat, k ≤ ts.length ∧ i = .int .i64 k ∧ Wrote B b v w (l ++ (ts.take k).flatMap textB) wr) (fun i _ => ts.length - (intOf i).toNat)
  case atStart => exact ⟨0, Nat.zero_le _, rfl, by simpa using Wrote.start hw⟩
  case round =>
    obtain ⟨k, hk, rfl, hwr⟩ := hrel
    by_cases hlt : k < ts.length
    · obtain ⟨v1, hw1, f1, t1⟩ := hwr
      obtain ⟨ad, A', c', rfl, hcell, hrow⟩ := (hr.wrote f1 t1).at_ hlt
      have hpre : (l ++ (ts.take k).flatMap textB).length + ((ts[k]).length + 10) ≤ 70368744177664 := by
        have h1 := texts_len (ts.take k) fun x h => hx x (List.mem_of_mem_take h)
        have h2 := bulkT_take hlt
        rw [List.length_append]; omega
      have hyl := hx _ (List.getElem_mem hlt)
      have hft := flatMap_take (f := textB) hlt
      generalize hpe : (l ++ (ts.take k).flatMap textB) = pre at *
      generalize ts[k] = t at *
      have Hft := Lib.hid hft
      have HP := Lib.hid hpe
      have hlv := vi_len10 hyl
      clear hft hpe
      go_wp2_with fail
      refine (num_any B b t.length v1 _ _ hw1 hyl (by omega)).mono ?_
      rintro e w2 ⟨rfl, hw2⟩
      obtain ⟨v2, hv2, f2, t2⟩ := hw2
      have hrow2 := hrow.wrote f2 t2
      have hc2 := cell_of_one hv2.blk
      have hpl : (pre ++ vi t.length).length + t.length ≤ 70368744177664 := by rw [List.length_append]; omega
      generalize hpv : pre ++ vi t.length = pre2 at *
      have HP2 := Lib.hid hpv
      clear hpv
      go_wp2_with (at_builtin; refine wpList_append_row _ rfl (.tmp 24) (.tmp 25) 25 rfl B 5 i0 (.int .u8 0) 1 Try.underlying25 hi hz0 hz1 hz2 rfl v2 _ _ rfl hv2.own _ A' t.length c' (u8s t) rfl (u8s_len t) hrow2 (u8s_one t) ?c3 ?c4 ?c5 ?_; rotate_right; intro A3 c3 w3 hown hgrow hat; have hb3 := (hgrow.block b (lt_of_block hv2.blk) (fun e => hv2.apart e.symm)).trans hv2.blk; have hc3 := cell_of_one hb3; have hf3 := free_of_one hb3; clear hb3)
      case c3 => unfold maxLen; omega
      case c4 => omega
      case c5 => exact hv2.low
      have hst := hv2.steps hown hgrow hat
      clear hown hgrow hat
      go_roundw
      case rel => exact ⟨k + 1, by omega, by go_num, by
        rw [Hft.out, ← List.append_assoc, HP.out]
        have e : pre ++ textB t = pre2 ++ t := by rw [← HP2.out, List.append_assoc]; rfl
        rw [e]
        exact (hst.more f2 t2).more f1 t1⟩
      case measure => simp [intOf]; omega
    · have hkl : k = ts.length := by omega
      rw [hkl, List.take_length] at hwr
      clear hkl
      go_wp2_with fail
      go_ret
      exact ⟨rfl, hwr⟩

end Go.Proofs.Ytlambcmikfihgaa
