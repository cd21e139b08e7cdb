/-
  A List of ref04 in memory; the contract of its worst.
-/
import Derived.Test.YtfhnhfppamnjhaaWithout
namespace Go.Proofs.Ytfhnhfppamnjhaa
open Go.RowKit Go.Maps

/-- A List of ref04: its block, its row. -/
structure RL (w : World) (S : Nat → Prop) (B b most : Nat) (A : Option Addr) (c : Nat) (L : List Hit) : Prop where
  blk : w.heap[b]? = some (.cells #[.int .i64 most, .slice A L.length c] 31 (0, 0))
  row : ∃ cs, w.ownsRow B 36 3 (.slice A L.length c) L.length cs ∧ Cells3 S w cs L
  own : ∀ g, (Value.slice A L.length c).ownBlock = some g → S g
  off : ∀ g, S g → g ≠ b

theorem RL.cells {w : World} {S : Nat → Prop} {B b most : Nat} {A : Option Addr} {c : Nat} {L : List Hit} (h : RL w S B b most A c L) : w.cell? ⟨b, 0, none⟩ = some (.int .i64 most) ∧ w.cell? ⟨b, 1, none⟩ = some (.slice A L.length c) := by
  have := h.blk
  simp [World.cell?, this]
theorem RL.hits {w : World} {S : Nat → Prop} {B b most : Nat} {A : Option Addr} {c : Nat} {L : List Hit} (h : RL w S B b most A c L) : L.length ≤ c ∧ HitsAt S w A L := by
  obtain ⟨cs, h1, h2⟩ := h.row
  obtain ⟨A', c', e, hc, hat⟩ := Cells3.hitsAt (T := S) h1 h2 rfl (fun _ s => s) (fun g _ e => h.own g e.symm)
  injection e with e1 _ e3
  subst e1 e3
  exact ⟨hc, hat⟩
theorem RL.kept {w w' : World} {S : Nat → Prop} {B b most : Nat} {A : Option Addr} {c : Nat} {L : List Hit} (h : RL w S B b most A c L) (hs : w.heap.size ≤ w'.heap.size) (hk : ∀ g, g < w.heap.size → (S g ∨ g = b) → w'.heap[g]? = w.heap[g]?) : RL w' S B b most A c L := by
  obtain ⟨cs, ⟨hl, hr⟩, hc⟩ := h.row
  refine ⟨(hk b (lt_of_block h.blk) (.inr rfl)).trans h.blk, ⟨cs, ⟨hl, ?_⟩, hc.kept hs fun g hg s => ⟨hk g hg (.inl s), s⟩⟩, h.own, h.off⟩
  rcases hr with hr | ⟨g, cap, cur, e, hg, hh, r⟩
  · exact .inl hr
  · exact .inr ⟨g, cap, cur, e, hg, (hk g (lt_of_block hh) (.inl (h.own g (by rw [e]; rfl)))).trans hh, r⟩
theorem RL.below {w w' : World} {S : Nat → Prop} {B b most : Nat} {A : Option Addr} {c : Nat} {L : List Hit} (h : RL w S B b most A c L) (hb : Below w.heap.size w w') : RL w' S B b most A c L := h.kept hb.size fun g hg _ => hb.block g hg
theorem two_free {w : World} {b k : Nat} {x y : Value} {t : TypeId} (h : w.heap[b]? = some (.cells #[x, y] t (0, 0))) : w.frozen? ⟨b, k, none⟩ = false := by simp [World.frozen?, h]

set_option maxRecDepth 100000 in
set_option maxHeartbeats 2000000 in
theorem worst_any (S : Nat → Prop) (b most : Nat) (A : Option Addr) (c : Nat) (L : List Hit) (w : World) (hblk : w.heap[b]? = some (.cells #[.int .i64 most, .slice A L.length c] 31 (0, 0))) (hat : HitsAt S w A L) (h0 : 0 < L.length) (hL : L.length ≤ 1000000) :
    Calls Try.prog 24 #[.pointer (some ⟨b, 0, none⟩)] w fun e w' => ∃ q, e = .returned (.int .i64 (q : Nat)) ∧ (∃ hq : q < L.length, ∀ j (hj : j < L.length), near L[q] L[j] = false) ∧ Below w.heap.size w w' := by
  have c1 : w.cell? ⟨b, 1, none⟩ = some (.slice A L.length c) := by simp [World.cell?, hblk]
  have hbl := lt_of_block hblk
  have HAT := Lib.hid hat
  clear hat hblk
  go_enter Try.func24, Try.ntmps24
  go_wp2_with fail
  go_loopw [3, 4, 5, 11] (fun q _ _ i wr => ∃ k p : Nat, k ≤ L.length ∧ i = .int .i64 k ∧ q = .int .i64 p ∧ (∃ hp : p < L.length, ∀ j (hj : j < L.length), j < k → near L[p] L[j] = false) ∧ Below w.heap.size w wr) (fun _ _ _ i _ => L.length - (intOf i).toNat)
  case atStart => exact ⟨0, 0, Nat.zero_le _, rfl, rfl, ⟨h0, fun j _ hj => by omega⟩, Below.refl _ _⟩
  case round =>
    obtain ⟨k, p, hk, rfl, rfl, ⟨hp, hmin⟩, hB⟩ := hrel
    have HB := Lib.hid hB
    by_cases hlt : k < L.length
    · have i1 : (k : Int) < (L.length : Int) := by omega
      have i2 : (p : Int) < (L.length : Int) := by omega
      obtain ⟨ad, rfl, _, hadl, a0, a1, X, cx, a2, _, _⟩ := (HAT.out.below hB) k hlt
      obtain ⟨bd, he, _, _, b0, b1, Y, cy, b2, _, _⟩ := (HAT.out.below hB) p hp
      injection he with he
      subst he
      have HMIN : Hid (∀ (nr : Bool), near L[p] L[k] = nr → (nr = true → ∃ hp : k < L.length, ∀ j (hj : j < L.length), j < k + 1 → near L[k] L[j] = false) ∧ (nr = false → ∃ hp : p < L.length, ∀ j (hj : j < L.length), j < k + 1 → near L[p] L[j] = false)) := fun nr hnr => by
        refine ⟨fun e => ⟨hlt, fun j hj hjk => ?_⟩, fun e => ⟨hp, fun j hj hjk => ?_⟩⟩
        · subst e
          by_cases ej : j = k
          · subst ej; exact near_irrefl _
          · cases h1 : near L[k] L[j] with
            | false => rfl
            | true =>
              have := hmin j hj (by omega)
              rw [near_trans hnr h1] at this
              cases this
        · subst e
          by_cases ej : j = k
          · subst ej; exact hnr
          · exact hmin j hj (by omega)
      obtain ⟨wa, hwa⟩ : ∃ x, x = wr.alloc (.cells #[.int .u64 L[k].1, .int .u64 L[k].2.1, .slice X L[k].2.2.length cx] 36) := ⟨_, rfl⟩
      have hba : Below wr.heap.size wr wa := by rw [hwa]; exact (Below.refl _ _).alloc (Nat.le_refl _) _
      have d1 := (hba.cell (p := ⟨b, 1, none⟩) (by show b < wr.heap.size; have := hB.size; omega)).trans ((hB.cell (p := ⟨b, 1, none⟩) hbl).trans c1)
      have b0' := (hba.cell (p := ad.add (p * 3)) (by rw [block_add]; exact hadl)).trans b0
      have b1' := (hba.cell (p := ⟨(ad.add (p * 3)).block, (ad.add (p * 3)).off + 1, none⟩) (by show (ad.add (p * 3)).block < _; rw [block_add]; exact hadl)).trans b1
      have b2' := (hba.cell (p := ⟨(ad.add (p * 3)).block, (ad.add (p * 3)).off + 2, none⟩) (by show (ad.add (p * 3)).block < _; rw [block_add]; exact hadl)).trans b2
      have x0 : wa.cell? ⟨wr.heap.size, 0, none⟩ = some (.int .u64 L[k].1) := by rw [hwa]; go_simp
      have x1 : wa.cell? ⟨wr.heap.size, 1, none⟩ = some (.int .u64 L[k].2.1) := by rw [hwa]; go_simp
      have x2 : wa.cell? ⟨wr.heap.size, 2, none⟩ = some (.slice X L[k].2.2.length cx) := by rw [hwa]; go_simp
      have hsa : wr.heap.size < wa.heap.size := by rw [hwa]; simp
      have hadl' : (ad.add (p * 3)).block < wa.heap.size := by rw [block_add]; omega
      have hbl' : b < wa.heap.size := by have := hB.size; omega
      have HN : Hid (Calls Try.prog 21 #[.agg #[.int .u64 L[p].1, .int .u64 L[p].2.1, .slice Y L[p].2.2.length cy], .agg #[.int .u64 L[k].1, .int .u64 L[k].2.1, .slice X L[k].2.2.length cx]] wa.drew fun e w' => e = .returned (.bool (near L[p] L[k])) ∧ Below wa.heap.size wa w') :=
        (refNearer_any _ _ _ _ _ _ _ _ _ _ wa.drew).mono fun _ _ ⟨he, hb⟩ => ⟨he, ((Below.refl _ _).drew).trans hb⟩
      have HBA : Hid (Below w.heap.size w wa) := hB.trans (hba.mono hB.size)
      clear hmin hB hba b0 b1 b2
      go_wp2_with fail
      rw [← hwa]
      clear hwa a0 a1 a2
      generalize hnr : near L[p] L[k] = nr at *
      generalize L[k].1 = ki at *
      generalize L[k].2.1 = kd at *
      generalize L[k].2.2.length = kl at *
      generalize L[p].1 = pi at *
      generalize L[p].2.1 = pd at *
      generalize L[p].2.2.length = pl at *
      generalize wr.heap.size = q0 at *
      go_region_held3 (fun w' => w'.cell? ⟨b, 1, none⟩ = some (.slice (some ad) L.length c) ∧ w'.cell? (ad.add (p * 3)) = some (.int .u64 pi) ∧ w'.cell? ⟨(ad.add (p * 3)).block, (ad.add (p * 3)).off + 1, none⟩ = some (.int .u64 pd) ∧ w'.cell? ⟨(ad.add (p * 3)).block, (ad.add (p * 3)).off + 2, none⟩ = some (.slice Y pl cy) ∧ w'.cell? ⟨q0, 0, none⟩ = some (.int .u64 ki) ∧ w'.cell? ⟨q0, 1, none⟩ = some (.int .u64 kd) ∧ w'.cell? ⟨q0, 2, none⟩ = some (.slice X kl cx)) (first | exact ⟨d1, b0', b1', b2', x0, x1, x2⟩ | exact hS6)
        (first | (go_at_call 21; refine (HN.out).mono ?_; rintro e w7 ⟨rfl, hb7⟩; have hS6 := (⟨(hb7.cell (p := ⟨b, 1, none⟩) hbl').trans d1, (hb7.cell (p := ad.add (p * 3)) hadl').trans b0', (hb7.cell (p := ⟨(ad.add (p * 3)).block, (ad.add (p * 3)).off + 1, none⟩) hadl').trans b1', (hb7.cell (p := ⟨(ad.add (p * 3)).block, (ad.add (p * 3)).off + 2, none⟩) hadl').trans b2', (hb7.cell (p := ⟨q0, 0, none⟩) hsa).trans x0, (hb7.cell (p := ⟨q0, 1, none⟩) hsa).trans x1, (hb7.cell (p := ⟨q0, 2, none⟩) hsa).trans x2⟩ : _ ∧ _ ∧ _ ∧ _ ∧ _ ∧ _ ∧ _)))
      have HB7 : Hid (Below w.heap.size w w7) := HBA.out.trans (hb7.mono HBA.out.size)
      clear hb7 hS6
      cases nr with
      | true =>
        go_wp2_with fail
        go_roundw
        case rel => exact ⟨k + 1, k, by omega, by go_num, rfl, (HMIN.out _ rfl).1 rfl, HB7.out⟩
        case measure => simp [intOf]; omega
      | false =>
        go_wp2_with fail
        go_roundw
        case rel => exact ⟨k + 1, p, by omega, by go_num, rfl, (HMIN.out _ rfl).2 rfl, HB7.out⟩
        case measure => simp [intOf]; omega
    · have i1 : ¬ (k : Int) < (L.length : Int) := by omega
      have HF := Lib.hid (show ∃ hq : p < L.length, ∀ j (hj : j < L.length), near L[p] L[j] = false from ⟨hp, fun j hj => hmin j hj (by omega)⟩)
      clear hmin hB
      go_wp2_with fail
      go_ret
      exact ⟨p, rfl, HF.out, HB.out⟩

end Go.Proofs.Ytfhnhfppamnjhaa
