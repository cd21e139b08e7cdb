/-
  The law ScrollWrites, walked.
-/
import Derived.Test.YtlambcmikfihgaaWri1
import Derived.Test.YtlambcmikfihgaaSame
import Derived.Deep.Cut
namespace Go.Proofs.Ytlambcmikfihgaa
open Go.RowKit
set_option linter.unusedSimpArgs false
set_option linter.unusedVariables false

set_option maxRecDepth 100000 in
set_option maxHeartbeats 2000000 in
theorem law_writes (A : Option Addr) (c : Nat) (its : List Itm) (w : World) (hI : ItsIn w A its) (hl : its.length ≤ 9223372036854775807) (hok : ∀ o ∈ its, ItOk o) :
    Calls Try.prog 3 #[.slice A its.length c] w fun e w' => e = .returned (.bool true) ∧ Below w.heap.size w w' := by
  obtain ⟨i0, hi, hz0, hz1, hz2⟩ := info_parts Try.info5
  have HI := Lib.hid hI
  have HOK := Lib.hid hok
  have HTI := Lib.hid hi
  clear hI hok hi
  go_enter Try.func3, Try.ntmps3
  go_wp2_with fail
  refine (awake_any w).mono ?_
  rintro e w1 ⟨rfl, hb1⟩
  have HB1 := Lib.hid hb1
  clear hb1
  go_wp2_with fail
  obtain ⟨b, hb⟩ : ∃ y, y = w1.heap.size := ⟨_, rfl⟩
  have HS0 := Lib.hid (Sta.start w1)
  rw [← hb] at HS0 ⊢
  have HBW := Lib.hid hb
  clear hb
  go_loopw [4, 5, 6, 7, 9, 11, 13, 31] (fun a4 a5 _ _ _ _ _ i wr => ∃ (k : Nat) (os : List Itm) (v : Value), k ≤ its.length ∧ i = .int .i64 k ∧ os.length = k ∧ k ≤ 20 ∧ (∀ o ∈ os, ItFew o) ∧ Sta w1 wr b v a4 a5 (os.flatMap itB) (os.flatMap itB) os) (fun _ _ _ _ _ _ _ i _ => its.length - (intOf i).toNat)
  case atStart => exact ⟨0, [], .slice none 0 0, Nat.zero_le _, rfl, rfl, by omega, fun o h => absurd h List.not_mem_nil, HS0.out⟩
  case round =>
    obtain ⟨k, os, v, hk, rfl, hol, hk20, hof, hS⟩ := hrel
    have HS := Lib.hid hS
    have HOF := Lib.hid hof
    have HOL := Lib.hid hol
    have HB0 : Hid (Below w.heap.size w wr) := HB1.out.trans (hS.bel.mono HB1.out.size)
    clear hS hof hol
    by_cases hE : k < its.length ∧ k < 20
    · obtain ⟨hlt, hlt20⟩ := hE
      have i1 : (k : Int) < (its.length : Int) := by omega
      have i2 : ¬ (20 : Int) ≤ (k : Int) := by omega
      obtain ⟨ad, rfl, hadl, A1, c1, A2, c2, A3, c3, hat, k0, k1, k2, k3, k4⟩ := (HI.out.below HB0.out) k hlt
      have hoko := HOK.out _ (List.getElem_mem hlt)
      generalize its[k] = o at *
      have HAT := Lib.hid hat
      have HOKo := Lib.hid hoko
      clear hat hoko
      go_wp2_with fail
      obtain ⟨wa, hwa⟩ : ∃ x, x = wr.alloc (.cells #[.int .u8 o.d, .slice A1 o.xs.length c1, .slice A2 o.ts.length c2, .slice A3 o.vs.length c3, .int .i64 o.m] 32) := ⟨_, rfl⟩
      rw [← hwa]
      have hba : RowKit.Below wr.heap.size wr wa := by rw [hwa]; exact (Below.refl _ _).alloc (Nat.le_refl _) _
      have hTa : wa.heap[wr.heap.size]? = some (.cells #[.int .u8 o.d, .slice A1 o.xs.length c1, .slice A2 o.ts.length c2, .slice A3 o.vs.length c3, .int .i64 o.m] 32 (0, 0)) := by rw [hwa]; exact new_at rfl
      have hsa : wa.heap.size = wr.heap.size + 1 := by rw [hwa]; simp
      obtain ⟨q, hq⟩ : ∃ q, q = wr.heap.size := ⟨_, rfl⟩
      rw [← hq] at hTa hsa ⊢
      have hina := HAT.out.below hba
      have HFW := Lib.hid (few_any _ A1 A2 A3 c1 c2 c3 o.d o.m o.xs o.ts o.vs wa hina.xs hina.c HOKo.out.xl hina.ts HOKo.out.tl hina.vs HOKo.out.vl)
      have HTa := Lib.hid hTa
      have HBa := Lib.hid hba
      have HQ := Lib.hid hq
      have HSA := Lib.hid hsa
      clear hwa hTa hba hq hina hsa k0 k1 k2 k3 k4
      refine (HFW.out).mono ?_
      rintro e w3 ⟨B1, e1', B2, e2', B3, e3', rfl, r1, r2, r3, hb3⟩
      have hfew := ItFew.of HOKo.out
      obtain ⟨o', ho'⟩ : ∃ x, x = fewI o := ⟨_, rfl⟩
      rw [show o.d = o'.d by rw [ho']; rfl, show o.m = o'.m by rw [ho']; rfl, show o.xs.take 5 = o'.xs by rw [ho']; rfl, show cutR 40 o.ts o.ts.length = o'.ts by rw [ho']; rfl, show cutR 12 o.vs o.vs.length = o'.vs by rw [ho']; rfl]
      rw [show o.xs.take 5 = o'.xs by rw [ho']; rfl] at r1
      rw [show cutR 40 o.ts o.ts.length = o'.ts by rw [ho']; rfl] at r2
      rw [show cutR 12 o.vs o.vs.length = o'.vs by rw [ho']; rfl] at r3
      rw [← ho'] at hfew
      have hT3 : w3.heap[q]? = _ := (hb3.block q (by have := HSA.out; omega)).trans HTa.out
      have y0 := five_cell0 hT3
      have y1 := five_cell1 hT3
      have y2 := five_cell2 hT3
      have y3 := five_cell3 hT3
      have y4 := five_cell4 hT3
      have p0 := five_free (k := 0) hT3
      have p1 := five_free (k := 1) hT3
      have p2 := five_free (k := 2) hT3
      have p3 := five_free (k := 3) hT3
      have p4 := five_free (k := 4) hT3
      have HT3 := Lib.hid hT3
      have HB3 := Lib.hid hb3
      have HR1 := Lib.hid r1
      have HR2 := Lib.hid r2
      have HR3 := Lib.hid r3
      have HFEW := Lib.hid hfew
      clear hT3 hb3 r1 r2 r3 hfew ho' HFW
      go_upto_region 11 with fail
      obtain ⟨w4, hw4⟩ : ∃ x, x = (((((w3.setCell ⟨q, 0, none⟩ (.int .u8 o'.d)).setCell ⟨q, 1, none⟩ (.slice B1 o'.xs.length e1')).setCell ⟨q, 2, none⟩ (.slice B2 o'.ts.length e2')).setCell ⟨q, 3, none⟩ (.slice B3 o'.vs.length e3')).setCell ⟨q, 4, none⟩ (.int .i64 o'.m)) := ⟨_, rfl⟩
      rw [← hw4]
      have hT4 : w4.heap[q]? = some (.cells #[.int .u8 o'.d, .slice B1 o'.xs.length e1', .slice B2 o'.ts.length e2', .slice B3 o'.vs.length e3', .int .i64 o'.m] 32 (0, 0)) := by rw [hw4]; exact set5_cells HT3.out
      have hs4 : w4.heap.size = w3.heap.size := by rw [hw4]; exact set5_size
      have hB3' : RowKit.Below wr.heap.size wr w3 := HBa.out.trans (HB3.out.mono HBa.out.size)
      have hB4 : RowKit.Below wr.heap.size wr w4 := by rw [hw4]; exact set5_below hB3' (Nat.le_of_eq HQ.out.symm)
      have hS4 := HS.out.below hB4
      have hoq : Off b v u4 u5 q := HS.out.new (Nat.le_of_eq HQ.out.symm)
      have hkp : ∀ g, g < w3.heap.size → wa.heap.size ≤ g → w4.heap[g]? = w3.heap[g]? ∧ Off b v u4 u5 g := fun g _ hg => ⟨by rw [hw4]; exact set5_other (by have := HSA.out; omega), HS.out.new (by have := HSA.out; have := HQ.out; omega)⟩
      have hC4 : Cur w4 b q v u4 u5 o' B1 e1' B2 e2' B3 e3' := ⟨hT4, hoq, ⟨row_kept HR1.out (Nat.le_of_eq hs4.symm) hkp, texts_kept HR2.out (Nat.le_of_eq hs4.symm) hkp, rows_kept HR3.out (Nat.le_of_eq hs4.symm) hkp⟩⟩
      obtain ⟨w5, hw5⟩ : ∃ x, x = w4.alloc (.cells #[.int .u8 o'.d, .slice B1 o'.xs.length e1', .slice B2 o'.ts.length e2', .slice B3 o'.vs.length e3', .int .i64 o'.m] 32) := ⟨_, rfl⟩
      have hB5 : RowKit.Below w4.heap.size w4 w5 := by rw [hw5]; exact (Below.refl _ _).alloc (Nat.le_refl _) _
      have hS5 := hS4.below hB5
      obtain ⟨cs, hcs, hcc⟩ := hS5.al
      have hC5 := hC4.kp (Kp.of_below _ hB5)
      have HNEWS : Hid (∀ j u, (itV o' B1 e1' B2 e2' B3 e3')[j]? = some u → w5.cell? ((⟨w4.heap.size, 0, none⟩ : Addr).add j) = some u) := fun j u hj => World.news_of_block (cs := #[.int .u8 o'.d, .slice B1 o'.xs.length e1', .slice B2 o'.ts.length e2', .slice B3 o'.vs.length e3', .int .i64 o'.m]) (t := 32) (fr := (0, 0)) (by rw [hw5]; exact heap_alloc_new w4 _) j u hj
      obtain ⟨L, hL⟩ : ∃ y, y = os.flatMap itB := ⟨_, rfl⟩
      rw [← hL] at hS5
      have HMORE : Hid (∀ A6 c6 w6, w6.ownsRow w1.heap.size 32 5 (.slice A6 (os.length + 1) c6) (os.length + 1) (cs ++ itV o' B1 e1' B2 e2' B3 e3') → w5.grownBy w6 u5.ownBlock → ((Value.slice A6 (os.length + 1) c6).ownBlock = u5.ownBlock ∨ (Value.slice A6 (os.length + 1) c6).ownBlock = some w5.heap.size) → Sta w1 w6 b v u4 (.slice A6 (os.length + 1) c6) L L (os ++ [o']) ∧ Cur w6 b q v u4 (.slice A6 (os.length + 1) c6) o' B1 e1' B2 e2' B3 e3') := fun A6 c6 w6 ho hg ha => by
        obtain ⟨k1, k2⟩ := hS5.more hcc hcs ho rfl rfl hC5.at' hg ha (Nat.le_refl _)
        exact ⟨k1, hC5.kp k2⟩
      have HCS := Lib.hid hcs
      have HW5 := Lib.hid hw5
      have HSZ5 : Hid (w1.heap.size ≤ w5.heap.size) := hS5.bel.size
      have HLL : Hid (L.length ≤ 520 * os.length) := by show _ ≤ _; rw [hL]; exact its_len HOF.out
      have HL8 : Hid (Bytes8 L) := by show Bytes8 _; rw [hL]; exact its_8 HOF.out
      have HLE := Lib.hid hL
      have hos : os.length ≤ 19 := by have := HOL.out; omega
      have c0 := five_cell0 hT4
      have c1' := five_cell1 hT4
      have c2' := five_cell2 hT4
      have c3' := five_cell3 hT4
      have c4' := five_cell4 hT4
      have hd3 : 0 ≤ o'.d ∧ o'.d < 256 := HFEW.out.d
      obtain ⟨dm, hdm⟩ : ∃ y, y = o'.d % 3 := ⟨_, rfl⟩
      have d1 : o'.d.tmod 3 = dm := by rw [Int.tmod_eq_emod_of_nonneg hd3.1, hdm]
      have d2 : o'.d % 3 = dm := hdm.symm
      have HDM := Lib.hid hdm
      have hdc : dm = 0 ∨ dm = 1 ∨ dm = 2 := by omega
      obtain ⟨dd, hdd⟩ : ∃ y, y = o'.d := ⟨_, rfl⟩
      obtain ⟨on, hon⟩ : ∃ y, y = os.length := ⟨_, rfl⟩
      have HON := Lib.hid hon
      rw [← hon] at HMORE HCS hos HLL
      clear hw4 hT4 hs4 hB3' hB4 hS4 hoq hkp hC4 hw5 hB5 hS5 hcs hcc hC5 hL y0 y1 y2 y3 y4 p0 p1 p2 p3 p4 HT3 HB3 HR1 HR2 HR3 HBa HTa HSA HAT HOKo hdm hdd hon
      go_upto_region 12 with (at_builtin; rw [← HW5.out]; refine wpList_append_item _ rfl (.tmp 40) (.tmp 42) rfl w1.heap.size u5 on cs rfl HCS.out ⟨w4.heap.size, 0, none⟩ 1 (itV o' B1 e1' B2 e2' B3 e3') rfl rfl HNEWS.out (by simp [itV, Value.oneCell']) ?f1 ?f2 ?_; rotate_right; intro A6 c6 w6 hown6 hgrow6 hat6)
      case f1 => omega
      case f2 => exact HSZ5.out
      obtain ⟨hS6, hC6⟩ := HMORE.out A6 c6 w6 hown6 hgrow6 hat6
      obtain ⟨OS, hOS⟩ : ∃ y, y = os ++ [o'] := ⟨_, rfl⟩
      rw [← hOS] at hS6
      obtain ⟨V5, hV5⟩ : ∃ y, y = Value.slice A6 (on + 1) c6 := ⟨_, rfl⟩
      rw [← hV5] at hS6 hC6 ⊢
      have HOS := Lib.hid hOS
      have HOSF : Hid (∀ o ∈ OS, ItFew o) := fun o ho => by
        rw [HOS.out] at ho
        rcases List.mem_append.1 ho with h | h
        · exact HOF.out o h
        · rw [List.mem_singleton.1 h]
          exact HFEW.out
      have HOSL : Hid (OS.length = k + 1) := by show _ = _; rw [HOS.out, List.length_append, List.length_singleton, HOL.out]
      have HOSB : Hid (OS.flatMap itB = L ++ itB o') := by show _ = _; rw [HOS.out, List.flatMap_append, ← HLE.out]; simp
      have x0 := five_cell0 hC6.cell
      have x1 := five_cell1 hC6.cell
      have x2 := five_cell2 hC6.cell
      have x3 := five_cell3 hC6.cell
      have HS6 := Lib.hid hS6
      have HC6 := Lib.hid hC6
      clear hown6 hgrow6 hat6 hS6 hC6 hOS hV5 HMORE HCS HW5 HNEWS HSZ5 c0 c1' c2' c3' c4' HS
      rcases hdc with rfl | rfl | rfl
      · have HN := Lib.hid (nums_any w1.heap.size b e1' v L o'.xs B1 w6 HS6.out.wr (HC6.out.at'.xs.mono fun g _ s => ⟨s.1, s.2.1⟩) HFEW.out.x (by have := HFEW.out.xl; have := HLL.out; omega))
        have HLEN : Hid (∀ j, (L ++ (o'.xs.take j).flatMap vi).length ≤ 20000) := fun j => by have h := flat_len (o'.xs.take j) (fun x hx => HFEW.out.x x (List.mem_of_mem_take hx)); have h2 := HFEW.out.xl; have h3 := HLL.out; rw [List.length_take] at h; rw [List.length_append]; omega
        have hyl : o'.xs.length ≤ 5 := by have h1 := HFEW.out.xl; have h2 := HFEW.out.tl; have h3 := HFEW.out.vl; omega
        have HIB : Hid (itB o' = o'.xs.flatMap vi) := by show _ = _; unfold itB; rw [if_pos HDM.out.symm]
        go_wp2_with fail
        refine (HN.out).mono ?_
        rintro e w7 ⟨rfl, hwr7⟩
        obtain ⟨v7, hS7, hK7⟩ := HS6.out.write hwr7
        have hC7 := HC6.out.kp hK7
        have x11 := five_cell1 hC7.cell
        have x12 := five_cell2 hC7.cell
        have x13 := five_cell3 hC7.cell
        have HS7 := Lib.hid hS7
        have HC7 := Lib.hid hC7
        clear hwr7 hS7 hK7 hC7 x0 x1 x2 x3 HS6 HC6 HN
        go_wp2_with fail
        go_loopw [4, 9, 72] (fun a4 _ i wr => ∃ j : Nat, j ≤ o'.xs.length ∧ i = .int .i64 j ∧ Sta w1 wr b v7 a4 V5 (L ++ o'.xs.flatMap vi) (L ++ (o'.xs.take j).flatMap vi) OS ∧ Cur wr b q v7 a4 V5 o' B1 e1' B2 e2' B3 e3') (fun _ _ i _ => o'.xs.length - (intOf i).toNat)
        case atStart => exact ⟨0, Nat.zero_le _, rfl, by simpa using HS7.out, HC7.out⟩
        case round =>
          obtain ⟨j, hj, rfl, hSj, hCj⟩ := hrel
          by_cases hlj : j < o'.xs.length
          · have j1 : (j : Int) < (o'.xs.length : Int) := by omega
            obtain ⟨ad', rfl, _, _, hcell⟩ := hCj.at'.xs j (by rw [u64s_len]; exact hlj)
            rw [u64s_at hlj] at hcell
            have hcon := refNum_any o'.xs[j] wr (HFEW.out.x _ (List.getElem_mem hlj))
            have hq := flat_next (f := vi) hlj L
            have hlen9 := HLEN.out (j + 1)
            rw [hq] at hlen9
            obtain ⟨LT, hLT⟩ : ∃ y, y = L ++ (o'.xs.take j).flatMap vi := ⟨_, rfl⟩
            rw [← hLT] at hSj hq hlen9
            generalize o'.xs[j] = n at *
            rw [show [n].flatMap vi = vi n by simp] at hq hlen9
            rw [List.length_append] at hlen9
            have HQ9 := Lib.hid hq
            have HLEN9 := Lib.hid hlen9
            have HCON := Lib.hid hcon
            have HSJ := Lib.hid hSj
            have HCJ := Lib.hid hCj
            clear hq hlen9 hcon hSj hCj hLT x11 x12 x13
            go_wp2_with fail
            refine (HCON.out).mono ?_
            rintro e w8 ⟨A8, c8, rfl, hown8, hb8⟩
            obtain ⟨A8', c8', e8, _, _, r8⟩ := Row.of_own hown8
            injection e8 with e81 _ e83
            subst e81 e83
            have HS8 := Lib.hid (HSJ.out.below hb8)
            have HC8 := Lib.hid (HCJ.out.kp (Kp.of_below _ hb8))
            have HR8 := Lib.hid r8
            clear hown8 hb8 r8
            go_wp2_with (at_builtin; refine wpList_append_row _ rfl (.tmp 76) (.tmp 78) 25 rfl w1.heap.size 5 i0 (.int .u8 0) 1 Try.underlying25 HTI.out hz0 hz1 hz2 rfl _ LT.length (u8s LT) rfl HS8.out.wa _ A8 (vi n).length c8 (u8s (vi n)) rfl (u8s_len _) HR8.out (u8s_one _) ?f3 ?f4 ?f5 ?_; rotate_right; intro A9 c9 w9 hown9 hgrow9 hat9)
            case f3 => have := HLEN9.out; unfold maxLen; omega
            case f4 => have := HLEN9.out; omega
            case f5 => exact HS8.out.bel.size
            obtain ⟨hS9, hK9⟩ := HS8.out.want (Lt' := LT ++ vi n) hown9 (by rw [List.length_append]) (by simp [u8s]) hgrow9 hat9 (Nat.le_refl _)
            have HS9 := Lib.hid hS9
            have HC9 := Lib.hid (HC8.out.kp hK9)
            clear hown9 hgrow9 hat9 hS9 hK9
            go_roundw
            case rel => exact ⟨j + 1, by omega, by go_num, by rw [HQ9.out]; exact HS9.out, HC9.out⟩
            case measure => simp [intOf]; omega
          · have j1 : ¬ (j : Int) < (o'.xs.length : Int) := by omega
            obtain rfl : j = o'.xs.length := by omega
            rw [List.take_length] at hSj
            obtain ⟨W, rfl⟩ : ∃ y, y = wr := ⟨wr, rfl⟩
            obtain ⟨A10, c10, rfl, hc10, _, hr10⟩ := Row.of_own hSj.wa
            have hLB : L ++ o'.xs.flatMap vi = OS.flatMap itB := by rw [HOSB.out, HIB.out]
            rw [hLB] at hSj hr10
            have h10 : (OS.flatMap itB).length ≤ 20000 := by rw [← hLB]; have := HLEN.out o'.xs.length; rwa [List.take_length] at this
            have h8 : Bytes8 (OS.flatMap itB) := its_8 HOSF.out
            rw [hLB]
            obtain ⟨LB, hLBd⟩ : ∃ y, y = OS.flatMap itB := ⟨_, rfl⟩
            rw [← hLBd] at hSj hr10 h10 h8 ⊢
            have HLBd := Lib.hid hLBd
            have HB := Lib.hid (bytes_any w1.heap.size b v7 LB W hSj.wr (by omega))
            have HSj := Lib.hid hSj
            have H8 := Lib.hid h8
            have HR10 := Lib.hid hr10
            clear hSj hr10 h8 hLB hLBd hCj
            go_wp2_with fail
            refine (HB.out).mono ?_
            rintro e w11 ⟨g11, rfl, hg11, hblk11, hb11⟩
            have HSM := Lib.hid (same_any (fun _ => True) _ (some ⟨g11, 0, none⟩) A10 LB.length c10 LB LB w11 (Row.of_block hblk11 trivial) (HR10.out.below hb11) H8.out H8.out)
            rw [show (LB == LB) = true by simp] at HSM
            have HS11 := Lib.hid (HSj.out.below hb11)
            clear hblk11 hb11 hg11
            go_wp2_with fail
            refine (HSM.out).mono ?_
            rintro e w12 ⟨rfl, rfl⟩
            go_wp2_with fail
            go_roundw
            case rel => exact ⟨k + 1, OS, v7, by omega, by go_num, HOSL.out, by omega, HOSF.out, by rw [← HLBd.out]; exact HS11.out⟩
            case measure => simp [intOf]; omega
      · have HN := Lib.hid (text_any w1.heap.size b e2' v L o'.ts B2 w6 HS6.out.wr (texts_kept HC6.out.at'.ts (Nat.le_refl _) fun g _ s => ⟨rfl, s.1, s.2.1⟩) HFEW.out.tU (by have h := bulkT_le (n := 40) fun t ht => (HFEW.out.t t ht).1; have := HFEW.out.tl; have := HLL.out; omega) (by have := HFEW.out.tl; omega))
        have HLEN : Hid (∀ j, (L ++ (o'.ts.take j).flatMap textB).length ≤ 20000) := fun j => by have h := texts_len (o'.ts.take j) (fun x hx => HFEW.out.tU x (List.mem_of_mem_take hx)); have h1 := bulkT_le (n := 40) (ts := o'.ts.take j) fun t ht => (HFEW.out.t t (List.mem_of_mem_take ht)).1; have h2 := HFEW.out.tl; have h3 := HLL.out; rw [List.length_take] at h1; rw [List.length_append]; omega
        have hyl : o'.ts.length ≤ 5 := by have h1 := HFEW.out.xl; have h2 := HFEW.out.tl; have h3 := HFEW.out.vl; omega
        have HIB : Hid (itB o' = o'.ts.flatMap textB) := by show _ = _; unfold itB; rw [if_neg (by have := HDM.out; omega), if_pos HDM.out.symm]
        go_wp2_with fail
        refine (HN.out).mono ?_
        rintro e w7 ⟨rfl, hwr7⟩
        obtain ⟨v7, hS7, hK7⟩ := HS6.out.write hwr7
        have hC7 := HC6.out.kp hK7
        have x11 := five_cell1 hC7.cell
        have x12 := five_cell2 hC7.cell
        have x13 := five_cell3 hC7.cell
        have HS7 := Lib.hid hS7
        have HC7 := Lib.hid hC7
        clear hwr7 hS7 hK7 hC7 x0 x1 x2 x3 HS6 HC6 HN
        go_wp2_with fail
        go_loopw [4, 11, 90] (fun a4 _ i wr => ∃ j : Nat, j ≤ o'.ts.length ∧ i = .int .i64 j ∧ Sta w1 wr b v7 a4 V5 (L ++ o'.ts.flatMap textB) (L ++ (o'.ts.take j).flatMap textB) OS ∧ Cur wr b q v7 a4 V5 o' B1 e1' B2 e2' B3 e3') (fun _ _ i _ => o'.ts.length - (intOf i).toNat)
        case atStart => exact ⟨0, Nat.zero_le _, rfl, by simpa using HS7.out, HC7.out⟩
        case round =>
          obtain ⟨j, hj, rfl, hSj, hCj⟩ := hrel
          by_cases hlj : j < o'.ts.length
          · have j1 : (j : Int) < (o'.ts.length : Int) := by omega
            obtain ⟨ad', At, ct, rfl, hcell, hrt⟩ := hCj.at'.ts.at_ hlj
            have hcon := refText_any _ At ct o'.ts[j] wr hrt (by have := (HFEW.out.t _ (List.getElem_mem hlj)).1; omega)
            have hq := flat_next (f := textB) hlj L
            have hlen9 := HLEN.out (j + 1)
            rw [hq] at hlen9
            obtain ⟨LT, hLT⟩ : ∃ y, y = L ++ (o'.ts.take j).flatMap textB := ⟨_, rfl⟩
            rw [← hLT] at hSj hq hlen9
            generalize o'.ts[j] = n at *
            rw [show [n].flatMap textB = textB n by simp] at hq hlen9
            rw [List.length_append] at hlen9
            have HQ9 := Lib.hid hq
            have HLEN9 := Lib.hid hlen9
            have HCON := Lib.hid hcon
            have HSJ := Lib.hid hSj
            have HCJ := Lib.hid hCj
            clear hq hlen9 hcon hSj hCj hLT x11 x12 x13
            go_wp2_with fail
            refine (HCON.out).mono ?_
            rintro e w8 ⟨A8, c8, rfl, hown8, hb8⟩
            obtain ⟨A8', c8', e8, _, _, r8⟩ := Row.of_own hown8
            injection e8 with e81 _ e83
            subst e81 e83
            have HS8 := Lib.hid (HSJ.out.below hb8)
            have HC8 := Lib.hid (HCJ.out.kp (Kp.of_below _ hb8))
            have HR8 := Lib.hid r8
            clear hown8 hb8 r8
            go_wp2_with (at_builtin; refine wpList_append_row _ rfl (.tmp 94) (.tmp 96) 25 rfl w1.heap.size 5 i0 (.int .u8 0) 1 Try.underlying25 HTI.out hz0 hz1 hz2 rfl _ LT.length (u8s LT) rfl HS8.out.wa _ A8 (textB n).length c8 (u8s (textB n)) rfl (u8s_len _) HR8.out (u8s_one _) ?f3 ?f4 ?f5 ?_; rotate_right; intro A9 c9 w9 hown9 hgrow9 hat9)
            case f3 => have := HLEN9.out; unfold maxLen; omega
            case f4 => have := HLEN9.out; omega
            case f5 => exact HS8.out.bel.size
            obtain ⟨hS9, hK9⟩ := HS8.out.want (Lt' := LT ++ textB n) hown9 (by rw [List.length_append]) (by simp [u8s]) hgrow9 hat9 (Nat.le_refl _)
            have HS9 := Lib.hid hS9
            have HC9 := Lib.hid (HC8.out.kp hK9)
            clear hown9 hgrow9 hat9 hS9 hK9
            go_roundw
            case rel => exact ⟨j + 1, by omega, by go_num, by rw [HQ9.out]; exact HS9.out, HC9.out⟩
            case measure => simp [intOf]; omega
          · have j1 : ¬ (j : Int) < (o'.ts.length : Int) := by omega
            obtain rfl : j = o'.ts.length := by omega
            rw [List.take_length] at hSj
            obtain ⟨W, rfl⟩ : ∃ y, y = wr := ⟨wr, rfl⟩
            obtain ⟨A10, c10, rfl, hc10, _, hr10⟩ := Row.of_own hSj.wa
            have hLB : L ++ o'.ts.flatMap textB = OS.flatMap itB := by rw [HOSB.out, HIB.out]
            rw [hLB] at hSj hr10
            have h10 : (OS.flatMap itB).length ≤ 20000 := by rw [← hLB]; have := HLEN.out o'.ts.length; rwa [List.take_length] at this
            have h8 : Bytes8 (OS.flatMap itB) := its_8 HOSF.out
            rw [hLB]
            obtain ⟨LB, hLBd⟩ : ∃ y, y = OS.flatMap itB := ⟨_, rfl⟩
            rw [← hLBd] at hSj hr10 h10 h8 ⊢
            have HLBd := Lib.hid hLBd
            have HB := Lib.hid (bytes_any w1.heap.size b v7 LB W hSj.wr (by omega))
            have HSj := Lib.hid hSj
            have H8 := Lib.hid h8
            have HR10 := Lib.hid hr10
            clear hSj hr10 h8 hLB hLBd hCj
            go_wp2_with fail
            refine (HB.out).mono ?_
            rintro e w11 ⟨g11, rfl, hg11, hblk11, hb11⟩
            have HSM := Lib.hid (same_any (fun _ => True) _ (some ⟨g11, 0, none⟩) A10 LB.length c10 LB LB w11 (Row.of_block hblk11 trivial) (HR10.out.below hb11) H8.out H8.out)
            rw [show (LB == LB) = true by simp] at HSM
            have HS11 := Lib.hid (HSj.out.below hb11)
            clear hblk11 hb11 hg11
            go_wp2_with fail
            refine (HSM.out).mono ?_
            rintro e w12 ⟨rfl, rfl⟩
            go_wp2_with fail
            go_roundw
            case rel => exact ⟨k + 1, OS, v7, by omega, by go_num, HOSL.out, by omega, HOSF.out, by rw [← HLBd.out]; exact HS11.out⟩
            case measure => simp [intOf]; omega
      · have HN := Lib.hid (vecs_any w1.heap.size b e3' v L o'.vs B3 w6 HS6.out.wr (rows_kept HC6.out.at'.vs (Nat.le_refl _) fun g _ s => ⟨rfl, s.1, s.2.1⟩) HFEW.out.vU (by have h := bulkV_le (n := 12) fun t ht => (HFEW.out.v t ht).1; have := HFEW.out.vl; have := HLL.out; omega) (by have := HFEW.out.vl; omega))
        have HLEN : Hid (∀ j, (L ++ (o'.vs.take j).flatMap vecB).length ≤ 20000) := fun j => by have h := vecs_len (o'.vs.take j) (fun x hx => HFEW.out.vU x (List.mem_of_mem_take hx)); have h1 := bulkV_le (n := 12) (ts := o'.vs.take j) fun t ht => (HFEW.out.v t (List.mem_of_mem_take ht)).1; have h2 := HFEW.out.vl; have h3 := HLL.out; rw [List.length_take] at h1; rw [List.length_append]; omega
        have hyl : o'.vs.length ≤ 5 := by have h1 := HFEW.out.xl; have h2 := HFEW.out.tl; have h3 := HFEW.out.vl; omega
        have HIB : Hid (itB o' = o'.vs.flatMap vecB) := by show _ = _; unfold itB; rw [if_neg (by have := HDM.out; omega), if_neg (by have := HDM.out; omega)]
        go_wp2_with fail
        refine (HN.out).mono ?_
        rintro e w7 ⟨rfl, hwr7⟩
        obtain ⟨v7, hS7, hK7⟩ := HS6.out.write hwr7
        have hC7 := HC6.out.kp hK7
        have x11 := five_cell1 hC7.cell
        have x12 := five_cell2 hC7.cell
        have x13 := five_cell3 hC7.cell
        have HS7 := Lib.hid hS7
        have HC7 := Lib.hid hC7
        clear hwr7 hS7 hK7 hC7 x0 x1 x2 x3 HS6 HC6 HN
        go_wp2_with fail
        go_loopw [4, 13, 54] (fun a4 _ i wr => ∃ j : Nat, j ≤ o'.vs.length ∧ i = .int .i64 j ∧ Sta w1 wr b v7 a4 V5 (L ++ o'.vs.flatMap vecB) (L ++ (o'.vs.take j).flatMap vecB) OS ∧ Cur wr b q v7 a4 V5 o' B1 e1' B2 e2' B3 e3') (fun _ _ i _ => o'.vs.length - (intOf i).toNat)
        case atStart => exact ⟨0, Nat.zero_le _, rfl, by simpa using HS7.out, HC7.out⟩
        case round =>
          obtain ⟨j, hj, rfl, hSj, hCj⟩ := hrel
          by_cases hlj : j < o'.vs.length
          · have j1 : (j : Int) < (o'.vs.length : Int) := by omega
            obtain ⟨ad', At, ct, rfl, hcell, hrt⟩ := hCj.at'.vs.at_ hlj
            have hcon := refVec_any _ At ct o'.vs[j] wr hrt (by have := (HFEW.out.v _ (List.getElem_mem hlj)).1; omega) (HFEW.out.v _ (List.getElem_mem hlj)).2
            have hq := flat_next (f := vecB) hlj L
            have hlen9 := HLEN.out (j + 1)
            rw [hq] at hlen9
            obtain ⟨LT, hLT⟩ : ∃ y, y = L ++ (o'.vs.take j).flatMap vecB := ⟨_, rfl⟩
            rw [← hLT] at hSj hq hlen9
            generalize o'.vs[j] = n at *
            rw [show [n].flatMap vecB = vecB n by simp] at hq hlen9
            rw [List.length_append] at hlen9
            have HQ9 := Lib.hid hq
            have HLEN9 := Lib.hid hlen9
            have HCON := Lib.hid hcon
            have HSJ := Lib.hid hSj
            have HCJ := Lib.hid hCj
            clear hq hlen9 hcon hSj hCj hLT x11 x12 x13
            go_wp2_with fail
            refine (HCON.out).mono ?_
            rintro e w8 ⟨A8, c8, rfl, hown8, hb8⟩
            obtain ⟨A8', c8', e8, _, _, r8⟩ := Row.of_own hown8
            injection e8 with e81 _ e83
            subst e81 e83
            have HS8 := Lib.hid (HSJ.out.below hb8)
            have HC8 := Lib.hid (HCJ.out.kp (Kp.of_below _ hb8))
            have HR8 := Lib.hid r8
            clear hown8 hb8 r8
            go_wp2_with (at_builtin; refine wpList_append_row _ rfl (.tmp 58) (.tmp 60) 25 rfl w1.heap.size 5 i0 (.int .u8 0) 1 Try.underlying25 HTI.out hz0 hz1 hz2 rfl _ LT.length (u8s LT) rfl HS8.out.wa _ A8 (vecB n).length c8 (u8s (vecB n)) rfl (u8s_len _) HR8.out (u8s_one _) ?f3 ?f4 ?f5 ?_; rotate_right; intro A9 c9 w9 hown9 hgrow9 hat9)
            case f3 => have := HLEN9.out; unfold maxLen; omega
            case f4 => have := HLEN9.out; omega
            case f5 => exact HS8.out.bel.size
            obtain ⟨hS9, hK9⟩ := HS8.out.want (Lt' := LT ++ vecB n) hown9 (by rw [List.length_append]) (by simp [u8s]) hgrow9 hat9 (Nat.le_refl _)
            have HS9 := Lib.hid hS9
            have HC9 := Lib.hid (HC8.out.kp hK9)
            clear hown9 hgrow9 hat9 hS9 hK9
            go_roundw
            case rel => exact ⟨j + 1, by omega, by go_num, by rw [HQ9.out]; exact HS9.out, HC9.out⟩
            case measure => simp [intOf]; omega
          · have j1 : ¬ (j : Int) < (o'.vs.length : Int) := by omega
            obtain rfl : j = o'.vs.length := by omega
            rw [List.take_length] at hSj
            obtain ⟨W, rfl⟩ : ∃ y, y = wr := ⟨wr, rfl⟩
            obtain ⟨A10, c10, rfl, hc10, _, hr10⟩ := Row.of_own hSj.wa
            have hLB : L ++ o'.vs.flatMap vecB = OS.flatMap itB := by rw [HOSB.out, HIB.out]
            rw [hLB] at hSj hr10
            have h10 : (OS.flatMap itB).length ≤ 20000 := by rw [← hLB]; have := HLEN.out o'.vs.length; rwa [List.take_length] at this
            have h8 : Bytes8 (OS.flatMap itB) := its_8 HOSF.out
            rw [hLB]
            obtain ⟨LB, hLBd⟩ : ∃ y, y = OS.flatMap itB := ⟨_, rfl⟩
            rw [← hLBd] at hSj hr10 h10 h8 ⊢
            have HLBd := Lib.hid hLBd
            have HB := Lib.hid (bytes_any w1.heap.size b v7 LB W hSj.wr (by omega))
            have HSj := Lib.hid hSj
            have H8 := Lib.hid h8
            have HR10 := Lib.hid hr10
            clear hSj hr10 h8 hLB hLBd hCj
            go_wp2_with fail
            refine (HB.out).mono ?_
            rintro e w11 ⟨g11, rfl, hg11, hblk11, hb11⟩
            have HSM := Lib.hid (same_any (fun _ => True) _ (some ⟨g11, 0, none⟩) A10 LB.length c10 LB LB w11 (Row.of_block hblk11 trivial) (HR10.out.below hb11) H8.out H8.out)
            rw [show (LB == LB) = true by simp] at HSM
            have HS11 := Lib.hid (HSj.out.below hb11)
            clear hblk11 hb11 hg11
            go_wp2_with fail
            refine (HSM.out).mono ?_
            rintro e w12 ⟨rfl, rfl⟩
            go_wp2_with fail
            go_roundw
            case rel => exact ⟨k + 1, OS, v7, by omega, by go_num, HOSL.out, by omega, HOSF.out, by rw [← HLBd.out]; exact HS11.out⟩
            case measure => simp [intOf]; omega
    · have hcase : (k < its.length ∧ k = 20) ∨ ¬ k < its.length := by omega
      rcases hcase with ⟨hlt, hk2⟩ | hlt
      case' inl =>
        have i1 : (k : Int) < (its.length : Int) := by omega
        have i2 : (20 : Int) ≤ (k : Int) := by omega
        clear hk2 hE
        obtain ⟨ad, rfl, hadl, A1, c1, A2, c2, A3, c3, hat, k0, k1, k2, k3, k4⟩ := (HI.out.below HB0.out) k hlt
        generalize its[k] = o at *
        obtain ⟨W, hW⟩ : ∃ y, y = wr.alloc (.cells #[.int .u8 o.d, .slice A1 o.xs.length c1, .slice A2 o.ts.length c2, .slice A3 o.vs.length c3, .int .i64 o.m] 32) := ⟨_, rfl⟩
        have HSW : Hid (Sta w1 W b v u4 u5 (os.flatMap itB) (os.flatMap itB) os) := by rw [hW]; exact HS.out.below ((Below.refl _ _).alloc (Nat.le_refl _) _)
        have HWD := Lib.hid hW
        clear hW hat
        go_wp2_with fail
        rw [← HWD.out]
      case' inr =>
        have i1 : ¬ (k : Int) < (its.length : Int) := by omega
        obtain ⟨W, hW⟩ : ∃ y, y = wr := ⟨_, rfl⟩
        have HSW : Hid (Sta w1 W b v u4 u5 (os.flatMap itB) (os.flatMap itB) os) := by rw [hW]; exact HS.out
        have HWD := Lib.hid hW
        clear hW
        go_wp2_with fail
        rw [← HWD.out]
      all_goals
        obtain ⟨L, hL⟩ : ∃ y, y = os.flatMap itB := ⟨_, rfl⟩
        have hLl : L.length ≤ 10400 := by rw [hL]; have := its_len HOF.out; have := HOL.out; omega
        have h8 : Bytes8 L := by rw [hL]; exact its_8 HOF.out
        rw [← hL] at HSW
        have HL := Lib.hid hL
        have H8 := Lib.hid h8
        have HBY := Lib.hid (bytes_any w1.heap.size b v L W HSW.out.wr (by omega))
        obtain ⟨cs, hcs, hcc⟩ := HSW.out.al
        obtain ⟨A5, c5, rfl, hio⟩ := ItsO.of hcs hcc
        have HIO := Lib.hid hio
        have HBW0 : Hid (RowKit.Below w.heap.size w W) := HB1.out.trans (HSW.out.bel.mono HB1.out.size)
        clear hL h8 hcs hcc hio HS HWD
        refine (HBY.out).mono ?_
        rintro e w2 ⟨g, rfl, hg, hblk, hb2⟩
        have HNR := Lib.hid (newReader_own (fun _ => True) (some ⟨g, 0, none⟩) L.length L w2 (Row.of_block hblk trivial) (by omega))
        have HBLK := Lib.hid hblk
        have HB2 := Lib.hid hb2
        have HG := Lib.hid hg
        clear hblk hb2 hg HBY HSW
        go_wp2_with fail
        refine (HNR.out).mono ?_
        rintro e w3 ⟨r, rfl, hr, ⟨Ar, cr, hrc, hcr, hrow⟩, hb3⟩
        have hgl : g < w2.heap.size := lt_of_block HBLK.out
        have HFL0 := Lib.hid (Flp.start ((hb3.block g hgl).trans HBLK.out))
        have HRC := Lib.hid hrc
        have HROW := Lib.hid hrow
        have HCR := Lib.hid hcr
        have HGR : Hid (g ≠ r ∧ g < w2.heap.size ∧ w2.heap.size ≤ r) := ⟨by omega, hgl, hr⟩
        have HB23 : Hid (RowKit.Below W.heap.size W w3) := HB2.out.trans (hb3.mono HB2.out.size)
        clear hrc hrow hcr hb3 hr hgl HNR
        go_wp2_with fail
        go_loopw [16, 111] (fun _ i wx => ∃ (j : Nat), j ≤ L.length ∧ i = .int .i64 j ∧ Flp g L.length w3 wx) (fun _ i _ => L.length - (intOf i).toNat)
        case atStart => exact ⟨0, Nat.zero_le _, rfl, HFL0.out⟩
        case round =>
          obtain ⟨j, hj, rfl, hF⟩ := hrel
          by_cases hjl : j < L.length
          · have j1 : (j : Int) < (L.length : Int) := by omega
            obtain ⟨x, hcx⟩ := hF.cell hjl
            have hfx := hF.free (j := j)
            have ha0 := add_zero_at g j
            have HF := Lib.hid hF
            clear hF
            go_wp2_with fail
            go_roundw
            case rel => exact ⟨j + 1, by omega, by go_num, HF.out.set _⟩
            case measure => simp [intOf]; omega
          · have j1 : ¬ (j : Int) < (L.length : Int) := by omega
            obtain ⟨w5, rfl⟩ : ∃ y, y = wr := ⟨wr, rfl⟩
            have HRD5 : Hid (Rd w5 r L 0) := by
              refine ⟨Ar, cr, (hF.other r (fun e => HGR.out.1 e.symm)).trans HRC.out, HCR.out, ?_⟩
              refine (HROW.out.kept (by rw [hF.size]; exact Nat.le_refl _) fun k hk s => hF.other k (by have := HGR.out; have := s.1; omega)).mono fun k _ s => s.2
            have HB5 : Hid (RowKit.Below W.heap.size W w5) := ⟨hF.os.trans HB23.out.os, hF.tape.trans HB23.out.tape, hF.output.trans HB23.out.output, by rw [hF.size]; exact HB23.out.size, fun k hk => (hF.other k (by have := HG.out; omega)).trans (HB23.out.block k hk)⟩
            have HRX : Hid (W.heap.size ≤ r) := by have h1 := HGR.out; have h2 := HB2.out.size; show _ ≤ _; omega
            have hos20 : os.length ≤ 20 := by have := HOL.out; omega
            have HDB : Hid (∀ j3 : Nat, Bytes8 ((os.drop j3).flatMap itB) ∧ ((os.drop j3).flatMap itB).length ≤ 10400) := fun j3 => by
              have hf : ∀ o ∈ os.drop j3, ItFew o := fun o ho => HOF.out o (List.mem_of_mem_drop ho)
              refine ⟨its_8 hf, ?_⟩
              have h1 := its_len hf
              rw [List.length_drop] at h1
              omega
            clear hF HFL0 HRC HROW HCR HB23 HBLK HB2 HGR HG
            go_wp2_with fail
            go_loopw [18, 20, 22, 24, 123] (fun _ _ _ _ i wy => ∃ j2 : Nat, j2 ≤ os.length ∧ i = .int .i64 j2 ∧ Rd wy r ((os.drop j2).flatMap itB) 0 ∧ RowKit.Below W.heap.size W wy) (fun _ _ _ _ i _ => os.length - (intOf i).toNat)
            case atStart => exact ⟨0, Nat.zero_le _, rfl, by rw [List.drop_zero, ← HL.out]; exact HRD5.out, HB5.out⟩
            case round =>
              obtain ⟨j2, hj2, rfl, hRd, hby⟩ := hrel
              obtain ⟨wy, rfl⟩ : ∃ y, y = wr := ⟨wr, rfl⟩
              by_cases hlj2 : j2 < os.length
              · have j21 : (j2 : Int) < (os.length : Int) := by omega
                obtain ⟨ad, rfl, hadl, A1, c1, A2, c2, A3, c3, hat, k0, k1, k2, k3, k4⟩ := (HIO.out.below hby) j2 hlj2
                have hfw := HOF.out _ (List.getElem_mem hlj2)
                have hdr := drop_flat itB hlj2 []
                rw [List.append_nil, List.append_nil] at hdr
                rw [hdr] at hRd
                have hdb1 := HDB.out j2
                rw [hdr] at hdb1
                have hdb2 := HDB.out (j2 + 1)
                obtain ⟨R, hR⟩ : ∃ y, y = (os.drop (j2 + 1)).flatMap itB := ⟨_, rfl⟩
                rw [← hR] at hRd hdb1 hdb2
                generalize os[j2] = o at *
                have HRR := Lib.hid hR
                have HFW := Lib.hid hfw
                have HDB2 := Lib.hid hdb2
                have hdd : 0 ≤ o.d ∧ o.d < 256 := hfw.d
                obtain ⟨wq, hwq⟩ : ∃ y, y = wy.alloc (.cells #[.int .u8 o.d, .slice A1 o.xs.length c1, .slice A2 o.ts.length c2, .slice A3 o.vs.length c3, .int .i64 o.m] 32) := ⟨_, rfl⟩
                have hbq : RowKit.Below wy.heap.size wy wq := by rw [hwq]; exact (Below.refl _ _).alloc (Nat.le_refl _) _
                have HRQ := Lib.hid (hRd.below hbq)
                have HBQ : Hid (RowKit.Below W.heap.size W wq) := hby.trans (hbq.mono hby.size)
                have HATQ : Hid (∀ wz, RowKit.Below W.heap.size W wz → RowKit.Below W.heap.size wy wz → ItAt (fun g => g < W.heap.size) wz o A1 A2 A3) := fun wz _ h2 => hat.kept h2.size (fun g' _ s => ⟨h2.block g' s, s⟩)
                have HYQ : Hid (RowKit.Below W.heap.size wy wq) := hbq.mono hby.size
                obtain ⟨dm, hdm⟩ : ∃ y, y = o.d % 3 := ⟨_, rfl⟩
                have d1 : o.d.tmod 3 = dm := by rw [Int.tmod_eq_emod_of_nonneg hdd.1, hdm]
                have d2 : o.d % 3 = dm := hdm.symm
                have HDM := Lib.hid hdm
                have hdc : dm = 0 ∨ dm = 1 ∨ dm = 2 := by omega
                have HWQ := Lib.hid hwq
                have HWS : Hid (W.heap.size ≤ wy.heap.size) := hby.size
                clear hRd hby hat hR hfw hdr hdb1 hdb2 hbq hwq hdm HRD5 HB5
                rcases hdc with rfl | rfl | rfl
                · have hib : itB o = o.xs.flatMap vi := by unfold itB; rw [if_pos HDM.out.symm]
                  rw [hib] at HRQ
                  have hyl : o.xs.length ≤ 5 := by have h1 := HFW.out.xl; have h2 := HFW.out.tl; have h3 := HFW.out.vl; omega
                  have HLB : Hid (∀ j3 : Nat, Bytes8 ((o.xs.drop j3).flatMap vi ++ R) ∧ ((o.xs.drop j3).flatMap vi ++ R).length ≤ 20000) := fun j3 => by
                    have h1 := HFW.out.b8
                    have h2 := HFW.out.len
                    rw [hib] at h1 h2
                    have e : o.xs.flatMap vi = (o.xs.take j3).flatMap vi ++ (o.xs.drop j3).flatMap vi := by rw [← List.flatMap_append, List.take_append_drop]
                    rw [e] at h1 h2
                    refine ⟨fun x hx => ?_, ?_⟩
                    · rcases List.mem_append.1 hx with h | h
                      · exact h1 x (List.mem_append.2 (.inr h))
                      · exact HDB2.out.1 x h
                    · have h3 := HDB2.out.2
                      rw [List.length_append] at h2 ⊢
                      omega
                  have HBQ0 : Hid (W.heap.size ≤ wy.heap.size) := HWS.out
                  clear hib
                  go_wp2_with fail
                  rw [← HWQ.out]
                  go_loopw [20, 148] (fun _ i wz => ∃ j3 : Nat, j3 ≤ o.xs.length ∧ i = .int .i64 j3 ∧ Rd wz r ((o.xs.drop j3).flatMap vi ++ R) 0 ∧ RowKit.Below W.heap.size W wz ∧ RowKit.Below W.heap.size wy wz) (fun _ i _ => o.xs.length - (intOf i).toNat)
                  case atStart => exact ⟨0, Nat.zero_le _, rfl, by rw [List.drop_zero]; exact HRQ.out, HBQ.out, HYQ.out⟩
                  case round =>
                    obtain ⟨j3, hj3, rfl, hRz, hbz, hyz⟩ := hrel
                    obtain ⟨wz, rfl⟩ : ∃ y, y = wr := ⟨wr, rfl⟩
                    have HBZ := Lib.hid hbz
                    have HYZ := Lib.hid hyz
                    by_cases hlj3 : j3 < o.xs.length
                    · have j31 : (j3 : Int) < (o.xs.length : Int) := by omega
                      have hat3 := HATQ.out wz hbz hyz
                      have hb8 := (HLB.out j3).1
                      have hbl := (HLB.out j3).2
                      rw [drop_flat vi hlj3 R] at hRz hb8 hbl
                      obtain ⟨ad', rfl, _, _, hcell⟩ := hat3.xs j3 (by rw [u64s_len]; exact hlj3)
                      rw [u64s_at hlj3] at hcell
                      have hn := HFW.out.x _ (List.getElem_mem hlj3)
                      generalize o.xs[j3] = n at *
                      have HNX := Lib.hid (rnum_next (R := (o.xs.drop (j3 + 1)).flatMap vi ++ R) hRz hn (by omega) hb8)
                      clear hRz hb8 hbl hbz hyz hat3
                      go_wp2_with fail
                      refine (HNX.out).mono ?_
                      rintro e w8 ⟨rfl, hR8, hf8⟩
                      have HR8 := Lib.hid hR8
                      have HB8 := Lib.hid (Below.fr HBZ.out HBZ.out.size hf8 HRX.out)
                      have HY8 := Lib.hid (Below.fr HYZ.out (Nat.le_trans HBQ0.out HYZ.out.size) hf8 HRX.out)
                      clear hR8 hf8
                      go_wp2_with fail
                      go_roundw
                      case rel => exact ⟨j3 + 1, by omega, by go_num, HR8.out, HB8.out, HY8.out⟩
                      case measure => simp [intOf]; omega
                    · have j31 : ¬ (j3 : Int) < (o.xs.length : Int) := by omega
                      obtain rfl : j3 = o.xs.length := by omega
                      rw [List.drop_length, List.flatMap_nil, List.nil_append] at hRz
                      have HRz := Lib.hid hRz
                      clear hRz hbz hyz
                      go_wp2_with fail
                      go_roundw
                      case rel => exact ⟨j2 + 1, by omega, by go_num, by rw [← HRR.out]; exact HRz.out, HBZ.out⟩
                      case measure => simp [intOf]; omega
                · have hib : itB o = o.ts.flatMap textB := by unfold itB; rw [if_neg (by have := HDM.out; omega), if_pos HDM.out.symm]
                  rw [hib] at HRQ
                  have hyl : o.ts.length ≤ 5 := by have h1 := HFW.out.xl; have h2 := HFW.out.tl; have h3 := HFW.out.vl; omega
                  have HLB : Hid (∀ j3 : Nat, Bytes8 ((o.ts.drop j3).flatMap textB ++ R) ∧ ((o.ts.drop j3).flatMap textB ++ R).length ≤ 20000) := fun j3 => by
                    have h1 := HFW.out.b8
                    have h2 := HFW.out.len
                    rw [hib] at h1 h2
                    have e : o.ts.flatMap textB = (o.ts.take j3).flatMap textB ++ (o.ts.drop j3).flatMap textB := by rw [← List.flatMap_append, List.take_append_drop]
                    rw [e] at h1 h2
                    refine ⟨fun x hx => ?_, ?_⟩
                    · rcases List.mem_append.1 hx with h | h
                      · exact h1 x (List.mem_append.2 (.inr h))
                      · exact HDB2.out.1 x h
                    · have h3 := HDB2.out.2
                      rw [List.length_append] at h2 ⊢
                      omega
                  have HBQ0 : Hid (W.heap.size ≤ wy.heap.size) := HWS.out
                  clear hib
                  go_wp2_with fail
                  rw [← HWQ.out]
                  go_loopw [22, 162] (fun _ i wz => ∃ j3 : Nat, j3 ≤ o.ts.length ∧ i = .int .i64 j3 ∧ Rd wz r ((o.ts.drop j3).flatMap textB ++ R) 0 ∧ RowKit.Below W.heap.size W wz ∧ RowKit.Below W.heap.size wy wz) (fun _ i _ => o.ts.length - (intOf i).toNat)
                  case atStart => exact ⟨0, Nat.zero_le _, rfl, by rw [List.drop_zero]; exact HRQ.out, HBQ.out, HYQ.out⟩
                  case round =>
                    obtain ⟨j3, hj3, rfl, hRz, hbz, hyz⟩ := hrel
                    obtain ⟨wz, rfl⟩ : ∃ y, y = wr := ⟨wr, rfl⟩
                    have HBZ := Lib.hid hbz
                    have HYZ := Lib.hid hyz
                    by_cases hlj3 : j3 < o.ts.length
                    · have j31 : (j3 : Int) < (o.ts.length : Int) := by omega
                      have hat3 := HATQ.out wz hbz hyz
                      have hb8 := (HLB.out j3).1
                      have hbl := (HLB.out j3).2
                      rw [drop_flat textB hlj3 R] at hRz hb8 hbl
                      obtain ⟨ad', At, ct, rfl, hcell, hrt⟩ := hat3.ts.at_ hlj3
                      have hn := HFW.out.t _ (List.getElem_mem hlj3)
                      generalize o.ts[j3] = n at *
                      have HNX := Lib.hid (rtext_next (R := (o.ts.drop (j3 + 1)).flatMap textB ++ R) hRz hn.1 (by omega) hb8)
                      have HRT := Lib.hid hrt
                      have HN8 := Lib.hid hn
                      clear hrt hn
                      clear hRz hb8 hbl hbz hyz hat3
                      go_wp2_with fail
                      refine (HNX.out).mono ?_
                      rintro e w8 ⟨A8, c8, rfl, hrow8, hR8, hf8⟩
                      have HR8 := Lib.hid hR8
                      have HB8 := Lib.hid (Below.fr HBZ.out HBZ.out.size hf8 HRX.out)
                      have HY8 := Lib.hid (Below.fr HYZ.out (Nat.le_trans HBQ0.out HYZ.out.size) hf8 HRX.out)
                      have HSM := Lib.hid (same_any _ _ A8 At c8 ct n n w8 hrow8 (HRT.out.kept hf8.size fun g' hg' s => hf8.block g' hg' (by have := HRX.out; omega) (by simp)) HN8.out.2 HN8.out.2)
                      rw [show (n == n) = true by simp] at HSM
                      clear hR8 hf8 hrow8
                      go_wp2_with fail
                      refine (HSM.out).mono ?_
                      rintro e w9 ⟨rfl, rfl⟩
                      go_wp2_with fail
                      go_roundw
                      case rel => exact ⟨j3 + 1, by omega, by go_num, HR8.out, HB8.out, HY8.out⟩
                      case measure => simp [intOf]; omega
                    · have j31 : ¬ (j3 : Int) < (o.ts.length : Int) := by omega
                      obtain rfl : j3 = o.ts.length := by omega
                      rw [List.drop_length, List.flatMap_nil, List.nil_append] at hRz
                      have HRz := Lib.hid hRz
                      clear hRz hbz hyz
                      go_wp2_with fail
                      go_roundw
                      case rel => exact ⟨j2 + 1, by omega, by go_num, by rw [← HRR.out]; exact HRz.out, HBZ.out⟩
                      case measure => simp [intOf]; omega
                · have hib : itB o = o.vs.flatMap vecB := by unfold itB; rw [if_neg (by have := HDM.out; omega), if_neg (by have := HDM.out; omega)]
                  rw [hib] at HRQ
                  have hyl : o.vs.length ≤ 5 := by have h1 := HFW.out.xl; have h2 := HFW.out.tl; have h3 := HFW.out.vl; omega
                  have HLB : Hid (∀ j3 : Nat, Bytes8 ((o.vs.drop j3).flatMap vecB ++ R) ∧ ((o.vs.drop j3).flatMap vecB ++ R).length ≤ 20000) := fun j3 => by
                    have h1 := HFW.out.b8
                    have h2 := HFW.out.len
                    rw [hib] at h1 h2
                    have e : o.vs.flatMap vecB = (o.vs.take j3).flatMap vecB ++ (o.vs.drop j3).flatMap vecB := by rw [← List.flatMap_append, List.take_append_drop]
                    rw [e] at h1 h2
                    refine ⟨fun x hx => ?_, ?_⟩
                    · rcases List.mem_append.1 hx with h | h
                      · exact h1 x (List.mem_append.2 (.inr h))
                      · exact HDB2.out.1 x h
                    · have h3 := HDB2.out.2
                      rw [List.length_append] at h2 ⊢
                      omega
                  have HBQ0 : Hid (W.heap.size ≤ wy.heap.size) := HWS.out
                  clear hib
                  go_wp2_with fail
                  rw [← HWQ.out]
                  go_loopw [24, 133] (fun _ i wz => ∃ j3 : Nat, j3 ≤ o.vs.length ∧ i = .int .i64 j3 ∧ Rd wz r ((o.vs.drop j3).flatMap vecB ++ R) 0 ∧ RowKit.Below W.heap.size W wz ∧ RowKit.Below W.heap.size wy wz) (fun _ i _ => o.vs.length - (intOf i).toNat)
                  case atStart => exact ⟨0, Nat.zero_le _, rfl, by rw [List.drop_zero]; exact HRQ.out, HBQ.out, HYQ.out⟩
                  case round =>
                    obtain ⟨j3, hj3, rfl, hRz, hbz, hyz⟩ := hrel
                    obtain ⟨wz, rfl⟩ : ∃ y, y = wr := ⟨wr, rfl⟩
                    have HBZ := Lib.hid hbz
                    have HYZ := Lib.hid hyz
                    by_cases hlj3 : j3 < o.vs.length
                    · have j31 : (j3 : Int) < (o.vs.length : Int) := by omega
                      have hat3 := HATQ.out wz hbz hyz
                      have hb8 := (HLB.out j3).1
                      have hbl := (HLB.out j3).2
                      rw [drop_flat vecB hlj3 R] at hRz hb8 hbl
                      obtain ⟨ad', At, ct, rfl, hcell, hrt⟩ := hat3.vs.at_ hlj3
                      have hn := HFW.out.v _ (List.getElem_mem hlj3)
                      generalize o.vs[j3] = n at *
                      have HNX := Lib.hid (rvec_next (R := (o.vs.drop (j3 + 1)).flatMap vecB ++ R) hRz hn.1 hn.2 (by omega) hb8)
                      have HRT := Lib.hid hrt
                      have HN8 := Lib.hid hn
                      clear hrt hn
                      clear hRz hb8 hbl hbz hyz hat3
                      go_wp2_with fail
                      refine (HNX.out).mono ?_
                      rintro e w8' ⟨A8, c8, rfl, hrow8, hR8, hf8⟩
                      have HB8' := Lib.hid (Below.fr HBZ.out HBZ.out.size hf8 HRX.out)
                      have HY8' := Lib.hid (Below.fr HYZ.out (Nat.le_trans HBQ0.out HYZ.out.size) hf8 HRX.out)
                      have HSM := Lib.hid (sameVec_any _ _ A8 At c8 ct n n w8' hrow8 (HRT.out.kept hf8.size fun g' hg' s => hf8.block g' hg' (by have := HRX.out; omega) (by simp)) (by have := HN8.out.1; omega))
                      rw [show (n == n) = true by simp] at HSM
                      have HR8' := Lib.hid hR8
                      clear hR8 hf8 hrow8
                      go_wp2_with fail
                      refine (HSM.out).mono ?_
                      rintro e w8 ⟨rfl, hb9⟩
                      have HR8 := Lib.hid (HR8'.out.below hb9)
                      have HB8 : Hid (RowKit.Below W.heap.size W w8) := HB8'.out.trans (hb9.mono HB8'.out.size)
                      have HY8 : Hid (RowKit.Below W.heap.size wy w8) := HY8'.out.trans (hb9.mono (Nat.le_trans HBQ0.out HY8'.out.size))
                      clear hb9
                      go_wp2_with fail
                      go_roundw
                      case rel => exact ⟨j3 + 1, by omega, by go_num, HR8.out, HB8.out, HY8.out⟩
                      case measure => simp [intOf]; omega
                    · have j31 : ¬ (j3 : Int) < (o.vs.length : Int) := by omega
                      obtain rfl : j3 = o.vs.length := by omega
                      rw [List.drop_length, List.flatMap_nil, List.nil_append] at hRz
                      have HRz := Lib.hid hRz
                      clear hRz hbz hyz
                      go_wp2_with fail
                      go_roundw
                      case rel => exact ⟨j2 + 1, by omega, by go_num, by rw [← HRR.out]; exact HRz.out, HBZ.out⟩
                      case measure => simp [intOf]; omega
              · have j21 : ¬ (j2 : Int) < (os.length : Int) := by omega
                obtain rfl : j2 = os.length := by omega
                rw [List.drop_length] at hRd
                obtain ⟨w6, rfl⟩ : ∃ y, y = wy := ⟨wy, rfl⟩
                have HE := Lib.hid (end_any r [] 0 w6 hRd)
                have HLF := Lib.hid (left_any r [] 0 w6 hRd)
                have HB6 : Hid (RowKit.Below w.heap.size w w6) := HBW0.out.trans (hby.mono HBW0.out.size)
                rw [show endR [] 0 = 0 by rfl] at HE
                clear hRd hby
                go_wp2_with fail
                refine (HE.out).mono ?_
                rintro e w7 ⟨rfl, rfl⟩
                go_wp2_with fail
                refine (HLF.out).mono ?_
                rintro e w7 ⟨rfl, rfl⟩
                go_wp2_with fail
                go_ret
                exact ⟨rfl, HB6.out⟩

end Go.Proofs.Ytlambcmikfihgaa
