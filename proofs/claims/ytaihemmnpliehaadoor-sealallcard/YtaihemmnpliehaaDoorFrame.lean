/-
  The contract of Frame.
-/
import Derived.Test.YtaihemmnpliehaaDoorSum
import Derived.Deep.DeepCutAuto
namespace Go.Proofs.YtaihemmnpliehaaDoor
open Go.RowKit

theorem Tryd.info5 : (Tryd.prog.info? 5).map (fun i => (i.zero, i.size, i.bytes)) = some (some (.int .u8 0), 1, 1) := by kernel_rfl

/-- two bytes, four bytes, the lowest first -/
def le16 (n : Nat) : List Int := [((n % 256 : Nat) : Int), ((n / 256 % 256 : Nat) : Int)]
def le32 (n : Nat) : List Int := [((n % 256 : Nat) : Int), ((n / 256 % 256 : Nat) : Int), ((n / 65536 % 256 : Nat) : Int), ((n / 16777216 % 256 : Nat) : Int)]
def frameOf (l : List Int) : List Int := le32 (sumOf (le16 l.length ++ l)) ++ (le16 l.length ++ l)

/-- a slice of k bytes with room for c of them -/
theorem run_make_room (k c : Nat) (hk : k ≤ c) (h : c ≤ 70368744177664) : ∃ L : List Value, L = List.replicate c (.int .u8 0) ∧ ∀ u : World, (Instr.makeSlice 24 (.int .i64 (k : Int)) (.int .i64 (c : Int))).run Tryd.prog u =
    .ok (.slice (some ⟨u.heap.size, 0, none⟩) k c) (u.alloc (.cells L.toArray 5)) := by
  obtain ⟨i0, hi, hz0, hz1, hz2⟩ := info_parts Tryd.info5
  refine ⟨(madeCells #[.int .u8 0] c).toList, toList_madeCells_one _ _, fun u => ?_⟩
  have hm := run_make (P := Tryd.prog) u 24 5 i0 (.int .u8 0) Tryd.underlying24 hi hz0 .i64 .i64 (k : Int) (c : Int) (by omega) (by omega) (by rw [hz2]; omega) (by omega)
  simpa [hz1, Value.cells] using hm

theorem own_made (w : World) (k c : Nat) (hk : k ≤ c) (hc : c ≤ 70368744177664) : (w.alloc (.cells (List.replicate c (Value.int .u8 0)).toArray 5)).ownsRow w.heap.size 5 1 (.slice (some ⟨w.heap.size, 0, none⟩) k c) k (u8s (List.replicate k 0)) := by
  refine ⟨by simp [u8s], .inr ⟨w.heap.size, c, _, rfl, Nat.le_refl _, heap_alloc_new w _, hk, by unfold maxLen; omega, by simp, ?_⟩⟩
  simp [u8s, Nat.min_eq_left hk]

set_option maxRecDepth 100000 in
set_option maxHeartbeats 800000 in
theorem frame_long (S : Nat → Prop) (A : Option Addr) (c : Nat) (ts : List (List Int)) (w : World) (hr : Texts S w A ts) (hl : ∀ t ∈ ts, t.length ≤ 70368744177664) (hn : ts.length ≤ 70368744177664) (hlong : 4096 < ts.flatten.length) :
    Calls Tryd.prog 12 #[.slice A ts.length c] w fun e w' => e = .returned (.tuple #[.slice none 0 0, .int .i64 3]) ∧ w = w' := by
  go_enter Tryd.func12, Tryd.ntmps12
  go_wp2
  go_loop [4, 14] (fun s i => ∃ k : Nat, k ≤ ts.length ∧ i = .int .i64 k ∧ s = .int .i64 ((ts.take k).flatten.length : Int) ∧ (ts.take k).flatten.length ≤ 4096) (fun _ i => ts.length - (intOf i).toNat)
  case atStart => exact ⟨0, Nat.zero_le _, rfl, rfl, Nat.zero_le _⟩
  case round =>
    obtain ⟨k, hk, rfl, rfl, hle⟩ := hrel
    by_cases hlt : k < ts.length
    · obtain ⟨ad, A', c', rfl, hcell, hrow⟩ := hr.at_ hlt
      have hlk := hl _ (List.getElem_mem hlt)
      have hft := congrArg List.length (flatten_take hlt)
      rw [List.length_append] at hft
      generalize hF : (ts.take (k + 1)).flatten.length = F at *
      generalize (ts.take k).flatten.length = G at *
      generalize ts[k] = t at *
      have HF := Lib.hid hF
      have Hft := Lib.hid hft
      clear hF hft
      by_cases hb : (4096 : Int) - (G : Int) < (t.length : Int)
      · go_wp2_with fail
        go_ret2
        exact ⟨rfl, rfl⟩
      · go_wp2_with fail
        go_round
        case rel => exact ⟨k + 1, by omega, by go_num, by rw [HF.out, Hft.out]; go_num, by rw [HF.out, Hft.out]; omega⟩
        case measure => simp [intOf]; omega
    · exfalso
      rw [List.take_of_length_le (by omega)] at hle
      omega

theorem Texts.below {S : Nat → Prop} {w w' : World} {A : Option Addr} {ts : List (List Int)} (h : Texts S w A ts) (hb : Below w.heap.size w w') : Texts S w' A ts := by
  obtain ⟨cells, h1, h2, h3⟩ := h
  refine ⟨cells, h1, h2.below hb, fun k hk => ?_⟩
  obtain ⟨A', c, e, r⟩ := h3 k hk
  exact ⟨A', c, e, r.below hb⟩

/-- what holds while the parts are put behind the head -/
def FRel (B : Nat) (w : World) (q : List Int) (v : Value) (wr : World) : Prop := wr.ownsRow B 5 1 v q.length (u8s q) ∧ Below B w wr

/-- the frame while its sum is written: k of its four bytes -/
def part4 (sm k : Nat) (r : List Int) : List Int := (le32 sm).take k ++ ([0, 0, 0, 0] ++ r).drop k
theorem part4_len (sm k : Nat) (r : List Int) (hk : k ≤ 4) : (part4 sm k r).length = 4 + r.length := by
  simp [part4, le32]; omega
theorem part4_set (sm k : Nat) (r : List Int) (hk : k < 4) (b : Int) (hb : (le32 sm).getD k 0 = b) : (u8s (part4 sm k r)).set k (.int .u8 b) = u8s (part4 sm (k + 1) r) := by
  subst hb
  have hk4 : k = 0 ∨ k = 1 ∨ k = 2 ∨ k = 3 := by omega
  rcases hk4 with rfl | rfl | rfl | rfl <;> simp [part4, le32, u8s]
theorem part4_cell {B g cap sm k : Nat} {w wr : World} {r : List Int} (hk : k < 4) (h : FRel B w (part4 sm k r) (.slice (some ⟨g, 0, none⟩) (4 + r.length) cap) wr) :
    (∃ u, wr.cell? ⟨g, k, none⟩ = some u) ∧ wr.frozen? ⟨g, k, none⟩ = false := by
  obtain ⟨h1, _⟩ := h
  rw [part4_len _ _ _ (by omega)] at h1
  refine ⟨?_, h1.frozenAt k⟩
  have hc := h1.cellAt k (by omega)
  have hlt : k < (u8s (part4 sm k r)).length := by rw [u8s_len, part4_len _ _ _ (by omega)]; omega
  exact ⟨_, hc.trans (List.getElem?_eq_getElem hlt)⟩
theorem part4_next {B g cap sm k : Nat} {w wr : World} {r : List Int} (hk : k < 4) (h : FRel B w (part4 sm k r) (.slice (some ⟨g, 0, none⟩) (4 + r.length) cap) wr) (hg : B ≤ g) (b : Int) (hb : (le32 sm).getD k 0 = b) :
    FRel B w (part4 sm (k + 1) r) (.slice (some ⟨g, 0, none⟩) (4 + r.length) cap) (wr.setCell ⟨g, k, none⟩ (.int .u8 b)) := by
  obtain ⟨h1, h2⟩ := h
  rw [part4_len _ _ _ (by omega)] at h1
  refine ⟨?_, h2.setCell hg _⟩
  rw [part4_len _ _ _ (by omega), ← part4_set sm k r hk b hb]
  exact (h1.stored k _).1

set_option maxRecDepth 100000 in
set_option maxHeartbeats 1600000 in
theorem frame_own (S : Nat → Prop) (A : Option Addr) (c : Nat) (ts : List (List Int)) (w : World) (hT : Rests w) (hr : Texts S w A ts) (h8 : ∀ t ∈ ts, Bytes8 t) (hn : ts.length ≤ 70368744177664) (hgood : ts.flatten.length ≤ 4096) (h0 : 0 < w.heap.size) :
    Calls Tryd.prog 12 #[.slice A ts.length c] w fun e w' => ∃ A c, e = .returned (.tuple #[.slice A (frameOf ts.flatten).length c, .int .i64 0]) ∧ (frameOf ts.flatten).length ≤ c ∧ Row (fun g => w.heap.size ≤ g) w' A (u8s (frameOf ts.flatten)) ∧ Below w.heap.size w w' ∧ w'.ownsRow w.heap.size 5 1 (.slice A (frameOf ts.flatten).length c) (frameOf ts.flatten).length (u8s (frameOf ts.flatten)) := by
  obtain ⟨i0, hi, hz0, hz1, hz2⟩ := info_parts Tryd.info5
  obtain ⟨L, hL, hmk⟩ := run_make_room 6 (6 + ts.flatten.length) (by omega) (by omega)
  go_enter Tryd.func12, Tryd.ntmps12
  go_wp2
  go_loop [4, 14] (fun s i => ∃ k : Nat, k ≤ ts.length ∧ i = .int .i64 k ∧ s = .int .i64 ((ts.take k).flatten.length : Int)) (fun _ i => ts.length - (intOf i).toNat)
  case atStart => exact ⟨0, Nat.zero_le _, rfl, rfl⟩
  case round =>
    obtain ⟨k, hk, rfl, rfl⟩ := hrel
    by_cases hlt : k < ts.length
    · obtain ⟨ad, A', c', rfl, hcell, hrow⟩ := hr.at_ hlt
      have hft := congrArg List.length (flatten_take hlt)
      have hall : (ts.take (k + 1)).flatten.length ≤ ts.flatten.length := by
        conv => rhs; rw [← List.take_append_drop (k + 1) ts, List.flatten_append, List.length_append]
        omega
      rw [List.length_append] at hft
      generalize hF : (ts.take (k + 1)).flatten.length = F at *
      generalize (ts.take k).flatten.length = G at *
      generalize ts[k] = t at *
      have HF := Lib.hid hF
      have Hft := Lib.hid hft
      have hb : ¬ (4096 : Int) - (G : Int) < (t.length : Int) := by omega
      have hGt : G + t.length ≤ 4096 := by omega
      clear hF hft hmk
      go_wp2_with fail
      go_round
      case rel => exact ⟨k + 1, by omega, by go_num, by rw [HF.out, Hft.out]; go_num⟩
      case measure => simp [intOf]; omega
    · have hk' : k = ts.length := by omega
      have hte : ts.take k = ts := List.take_of_length_le (by omega)
      rw [hte]
      clear hte hk'
      generalize hl : ts.flatten = l at *
      have HL := Lib.hid hl
      have HLL := Lib.hid hL
      clear hl hL
      have hmk' : ∀ u : World, (Instr.makeSlice 24 (.int .i64 6) (.int .i64 (6 + (l.length : Int)))).run Tryd.prog u = .ok (.slice (some ⟨u.heap.size, 0, none⟩) 6 (6 + l.length)) (u.alloc (.cells L.toArray 5)) := fun u => by
        have := hmk u
        rwa [show (((6 + l.length : Nat)) : Int) = 6 + (l.length : Int) by omega] at this
      clear hmk
      go_upto_region 10 with fail
      obtain ⟨w1, hw1⟩ : ∃ x, x = w.alloc (.cells L.toArray 5) := ⟨_, rfl⟩
      have hown1 : w1.ownsRow w.heap.size 5 1 (.slice (some ⟨w.heap.size, 0, none⟩) 6 (6 + l.length)) 6 (u8s (List.replicate 6 0)) := by
        rw [hw1, HLL.out]; exact own_made w 6 (6 + l.length) (by omega) (by omega)
      have hb1 : Below w.heap.size w w1 := by rw [hw1]; exact (Below.refl _ _).alloc (Nat.le_refl _) _
      rw [← hw1]
      have c4 := hown1.cellAt 4 (by omega)
      have c5 := hown1.cellAt 5 (by omega)
      have f4 := hown1.frozenAt 4
      have f5 := hown1.frozenAt 5
      rw [show (u8s (List.replicate 6 0))[4]? = some (.int .u8 0) from rfl] at c4
      rw [show (u8s (List.replicate 6 0))[5]? = some (.int .u8 0) from rfl] at c5
      clear hw1 hmk'
      go_wp2_with fail
      obtain ⟨w2, hw2⟩ : ∃ x, x = (w1.setCell ⟨w.heap.size, 4, none⟩ (.int .u8 ((l.length : Int) % 256))).setCell ⟨w.heap.size, 5, none⟩ (.int .u8 ((l.length : Int) / 256)) := ⟨_, rfl⟩
      have hf2 : FRel w.heap.size w ([0, 0, 0, 0] ++ le16 l.length) (.slice (some ⟨w.heap.size, 0, none⟩) 6 (6 + l.length)) w2 := by
        rw [hw2]
        refine ⟨?_, (hb1.setCell (Nat.le_refl _) _).setCell (Nat.le_refl _) _⟩
        have h := ((hown1.stored 4 (.int .u8 ((l.length : Int) % 256))).1.stored 5 (.int .u8 ((l.length : Int) / 256))).1
        have e : ((u8s (List.replicate 6 0)).set 4 (.int .u8 ((l.length : Int) % 256))).set 5 (.int .u8 ((l.length : Int) / 256)) = u8s ([0, 0, 0, 0] ++ le16 l.length) := by
          simp only [u8s, List.replicate, List.map_cons, List.map_nil, List.set_cons_succ, List.set_cons_zero, le16, List.cons_append, List.nil_append]
          rw [show ((l.length : Int) % 256) = ((l.length % 256 : Nat) : Int) by omega, show ((l.length : Int) / 256) = ((l.length / 256 % 256 : Nat) : Int) by omega]
        rw [e] at h
        exact h
      rw [← hw2]
      clear hw2 c4 c5 f4 f5 hown1 hb1
      go_loopw [7, 42] (fun v i wr => ∃ k : Nat, k ≤ ts.length ∧ i = .int .i64 k ∧ FRel w.heap.size w ([0, 0, 0, 0] ++ le16 l.length ++ (ts.take k).flatten) v wr) (fun _ i _ => ts.length - (intOf i).toNat)
      case atStart => exact ⟨0, Nat.zero_le _, rfl, by simpa using hf2⟩
      case round =>
        obtain ⟨k, hk, rfl, hown, hbl⟩ := hrel
        by_cases hlt : k < ts.length
        · obtain ⟨ad, A', c', rfl, hcell, hrow⟩ := (hr.below hbl).at_ hlt
          have hft := flatten_take hlt
          have hall : (ts.take (k + 1)).flatten.length ≤ l.length := by
            rw [← HL.out]
            conv => rhs; rw [← List.take_append_drop (k + 1) ts, List.flatten_append, List.length_append]
            omega
          rw [hft, List.length_append] at hall
          have hql : ([0, 0, 0, 0] ++ le16 l.length ++ (ts.take k).flatten).length = 6 + (ts.take k).flatten.length := by simp [le16]; omega
          have hqe : [0, 0, 0, 0] ++ le16 l.length ++ (ts.take (k + 1)).flatten = ([0, 0, 0, 0] ++ le16 l.length ++ (ts.take k).flatten) ++ ts[k] := by rw [hft]; simp [List.append_assoc]
          generalize hq2 : [0, 0, 0, 0] ++ le16 l.length ++ (ts.take (k + 1)).flatten = q2 at *
          generalize [0, 0, 0, 0] ++ le16 l.length ++ (ts.take k).flatten = q at *
          generalize ts[k] = t at *
          have hqb : q.length + t.length ≤ 8000 := by omega
          have HQ := Lib.hid hqe
          have HQ2 := Lib.hid hq2
          clear hft hall hql hqe hq2
          go_wp2_with (at_builtin; refine wpList_append_row _ rfl (.tmp 46) (.tmp 47) 24 rfl w.heap.size 5 i0 (.int .u8 0) 1 Tryd.underlying24 hi hz0 hz1 hz2 rfl _ _ _ rfl hown _ A' t.length c' (u8s t) rfl (u8s_len t) hrow (u8s_one t) (by unfold maxLen; omega) (by omega) hbl.size ?_; intro A3 c3 w3 hown3 hgrow3 hat3)
          have hf3 : FRel w.heap.size w (q ++ t) (.slice A3 (q.length + t.length) c3) w3 := ⟨by rw [List.length_append]; simpa [u8s] using hown3, hbl.grown hgrow3 hbl.size (fun g e => (hown.lt g e).1)⟩
          clear hown3 hgrow3 hat3
          go_wp2_with fail
          go_roundw
          case rel => exact ⟨k + 1, by omega, by go_num, by rw [HQ2.out, HQ.out]; exact hf3⟩
          case measure => simp [intOf]; omega
        · have hte : ts.take k = ts := List.take_of_length_le (by omega)
          rw [hte, HL.out] at hown
          clear hte
          have hq4 : ([0, 0, 0, 0] ++ le16 l.length ++ l).drop 4 = le16 l.length ++ l := by simp
          have hql : ([0, 0, 0, 0] ++ le16 l.length ++ l).length = 6 + l.length := by simp [le16]; omega
          rw [hql] at hown
          obtain ⟨g, cap, hv, hgB, hglt⟩ := hown.form (by omega)
          subst hv
          have hcap : 6 + l.length ≤ cap := by
            rcases hown.2 with ⟨h, _⟩ | ⟨g', cap', cur, h, _, _, h2, _⟩
            · cases h
            · injection h with _ _ h3; omega
          have hrow : Row (fun g => w.heap.size ≤ g) wr (some ⟨g, 0, none⟩) (u8s ([0, 0, 0, 0] ++ le16 l.length ++ l)) := by
            obtain ⟨A', c', hv, _, _, hr'⟩ := Row.of_own hown
            injection hv with hv _ _
            subst hv
            exact hr'.mono fun g _ h => h.1
          have hrow4 := hrow.cut 4 cap (by rw [u8s_len, hql]; omega)
          rw [if_neg (by omega), show (u8s ([0, 0, 0, 0] ++ le16 l.length ++ l)).drop 4 = u8s (le16 l.length ++ l) by rw [← hq4]; simp [u8s]] at hrow4
          have hl4 : (le16 l.length ++ l).length = 2 + l.length := by simp [le16]; omega
          have h84 : Bytes8 (le16 l.length ++ l) := fun x hx => by
            rcases List.mem_append.1 hx with h | h
            · simp [le16] at h; omega
            · rw [← HL.out] at h
              obtain ⟨t, ht, hxt⟩ := List.mem_flatten.1 h
              exact h8 t ht x hxt
          have HL4 := Lib.hid hl4
          have HQL := Lib.hid hql
          clear hq4 hql hl4
          go_wp2_with fail
          obtain ⟨w5, hw5⟩ : ∃ x, x = wr.alloc (.cells #[.slice (some ⟨g, 4, none⟩) (6 + l.length - 4) (cap - 4)] 24) := ⟨_, rfl⟩
          have hal : Below wr.heap.size wr w5 := by rw [hw5]; exact (Below.refl _ _).alloc (Nat.le_refl _) _
          have hb5 : Below w.heap.size w w5 := hbl.trans (hal.mono hbl.size)
          have hT5 : Rests w5 := hT.below hb5 h0
          have hown5 : w5.ownsRow w.heap.size 5 1 (.slice (some ⟨g, 0, none⟩) (6 + l.length) cap) (6 + l.length) (u8s ([0, 0, 0, 0] ++ le16 l.length ++ l)) := by rw [hw5]; exact hown.alloc _
          have hts5 : Texts (fun _ => True) w5 (some ⟨wr.heap.size, 0, none⟩) [le16 l.length ++ l] := by
            refine ⟨[.slice (some ⟨g, 4, none⟩) (6 + l.length - 4) (cap - 4)], rfl, by rw [hw5]; exact Row.of_cells (new_at rfl) rfl trivial, fun k hk => ?_⟩
            obtain rfl : k = 0 := by simpa using hk
            refine ⟨some ⟨g, 4, none⟩, cap - 4, ?_, (hrow4.below hal).any⟩
            show some (Value.slice _ (6 + l.length - 4) _) = some (Value.slice _ (le16 l.length ++ l).length _)
            rw [HL4.out, show 6 + l.length - 4 = 2 + l.length by omega]
          rw [← hw5]
          clear hw5 hrow hrow4 hown hal hbl
          refine (sum_any _ _ 1 [le16 l.length ++ l] _ hT5 hts5 (by intro t ht; simp at ht; subst ht; exact h84) (by intro t ht; simp at ht; subst ht; simp [le16]; omega) (by simp)).mono ?_
          rintro e w6 ⟨rfl, rfl⟩
          have hsl : sumOf (le16 l.length ++ l) < 4294967296 := Nat.xor_lt_two_pow (n := 32) (crc_lt _ _ (by omega) h84) (by omega)
          rw [show [le16 l.length ++ l].flatten = le16 l.length ++ l by simp]
          have HFO := Lib.hid (show frameOf l = le32 (sumOf (le16 l.length ++ l)) ++ (le16 l.length ++ l) from rfl)
          generalize sumOf (le16 l.length ++ l) = sm at *
          clear hT5 hts5
          go_wp2_with fail
          have hlen6 : 6 + l.length = 4 + (le16 l.length ++ l).length := by rw [HL4.out]; omega
          have HL6 := Lib.hid hlen6
          clear hlen6
          go_loopw [54] (fun i wr => ∃ k : Nat, k ≤ 4 ∧ i = .int .i64 k ∧ FRel w.heap.size w (part4 sm k (le16 l.length ++ l)) (.slice (some ⟨g, 0, none⟩) (4 + (le16 l.length ++ l).length) cap) wr) (fun i _ => 4 - (intOf i).toNat)
          case atStart => exact ⟨0, Nat.zero_le _, rfl, by
            refine ⟨?_, hb5⟩
            rw [part4_len _ _ _ (by omega), ← HL6.out]
            simpa [part4] using hown5⟩
          case round =>
            obtain ⟨k, hk, rfl, hf6⟩ := hrel
            have hk4 : k = 0 ∨ k = 1 ∨ k = 2 ∨ k = 3 ∨ k = 4 := by omega
            rcases hk4 with rfl | rfl | rfl | rfl | rfl
            · obtain ⟨⟨u, hc⟩, hfz⟩ := part4_cell (by omega) hf6
              go_wp2_with fail
              go_roundw
              case rel => exact ⟨1, by omega, by go_num, part4_next (by omega) hf6 hgB _ (by simp [le32])⟩
              case measure => simp [intOf]
            · obtain ⟨⟨u, hc⟩, hfz⟩ := part4_cell (by omega) hf6
              go_wp2_with fail
              go_roundw
              case rel => exact ⟨2, by omega, by go_num, part4_next (by omega) hf6 hgB _ (by simp [le32])⟩
              case measure => simp [intOf]
            · obtain ⟨⟨u, hc⟩, hfz⟩ := part4_cell (by omega) hf6
              go_wp2_with fail
              go_roundw
              case rel => exact ⟨3, by omega, by go_num, part4_next (by omega) hf6 hgB _ (by simp [le32])⟩
              case measure => simp [intOf]
            · obtain ⟨⟨u, hc⟩, hfz⟩ := part4_cell (by omega) hf6
              go_wp2_with fail
              go_roundw
              case rel => exact ⟨4, by omega, by go_num, part4_next (by omega) hf6 hgB _ (by simp [le32]; omega)⟩
              case measure => simp [intOf]
            · go_wp2_with fail
              go_ret2
              rw [HL.out]
              obtain ⟨h1, h2⟩ := hf6
              rw [part4_len _ _ _ (by omega)] at h1
              have e : part4 sm 4 (le16 l.length ++ l) = frameOf l := by rw [HFO.out]; simp [part4, le32]
              rw [e] at h1
              obtain ⟨A', c', hv, hc', hl', hr'⟩ := Row.of_own h1
              rw [u8s_len] at hl'
              refine ⟨A', c', ?_, by omega, hr'.mono fun g _ h => h.1, h2, by rw [hl', ← hv]; exact h1⟩
              rw [hl', ← hv, ← HL6.out]
              rfl

theorem frame_good (S : Nat → Prop) (A : Option Addr) (c : Nat) (ts : List (List Int)) (w : World) (hT : Rests w) (hr : Texts S w A ts) (h8 : ∀ t ∈ ts, Bytes8 t) (hn : ts.length ≤ 70368744177664) (hgood : ts.flatten.length ≤ 4096) (h0 : 0 < w.heap.size) :
    Calls Tryd.prog 12 #[.slice A ts.length c] w fun e w' => ∃ A c, e = .returned (.tuple #[.slice A (frameOf ts.flatten).length c, .int .i64 0]) ∧ (frameOf ts.flatten).length ≤ c ∧ Row (fun g => w.heap.size ≤ g) w' A (u8s (frameOf ts.flatten)) ∧ Below w.heap.size w w' :=
  (frame_own S A c ts w hT hr h8 hn hgood h0).mono fun _ _ ⟨A, c, h1, h2, h3, h4, _⟩ => ⟨A, c, h1, h2, h3, h4⟩

end Go.Proofs.YtaihemmnpliehaaDoor
