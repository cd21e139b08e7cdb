/-
  What VecNears does: it returns true, and turns nothing that was there.
-/
import Derived.Test.YtnpbfacmjmgfaaaLaws
import Derived.Deep.RegionHeld3
namespace Go.Proofs.Ytnpbfacmjmgfaaa
open Go.RowKit

theorem slice_of {H : Type} {enc : TypeId × Value → H} {w : World} {base fuel : Nat} {spare : Nat → Bool} {held : Bool} {cs : List Value} {x : DataW H × List MemPlace}
    (h : DataW.trod enc Try.prog w base spare held fuel 22 cs = some x) : ∃ A n c, cs = [.slice A n c] := by
  rcases DataW.trod_slice Try.underlying22 h with ⟨hc, _⟩ | ⟨a, len, cap, _, _, _, _, hc, _⟩
  · exact ⟨_, _, _, hc⟩
  · exact ⟨_, _, _, hc⟩

def nearB (i d j f : Int) : Bool := if d = f then decide (i < j) else decide (d < f)
def hitV (i d : Int) (A : Option Addr) (n c : Nat) : Value := .agg #[.int .u64 i, .int .u64 d, .slice A n c]

set_option maxHeartbeats 400000 in
theorem nearer_any (i d j f : Int) (A B : Option Addr) (n c m g : Nat) (w : World) :
    Calls Try.prog 18 #[.agg #[.int .u64 i, .int .u64 d, .slice A n c], .agg #[.int .u64 j, .int .u64 f, .slice B m g]] w fun e w' => e = .returned (.bool (nearB i d j f)) ∧ Below w.heap.size w w' := by
  by_cases h : d = f
  · have HV := Lib.hid (show nearB i d j f = decide (i < j) by unfold nearB; rw [if_pos h])
    have h' : (d != f) = false := by simp [h]
    clear h
    go_enter Try.func18, Try.ntmps18
    go_wp2_with fail
    go_ret
    exact ⟨ret_bool HV.out.symm, ((Below.refl _ _).alloc (Nat.le_refl _) _).alloc (by simp) _⟩
  · have HV := Lib.hid (show nearB i d j f = decide (d < f) by unfold nearB; rw [if_neg h])
    have h' : (d != f) = true := by simp [h]
    clear h
    go_enter Try.func18, Try.ntmps18
    go_wp2_with fail
    go_ret
    exact ⟨ret_bool HV.out.symm, ((Below.refl _ _).alloc (Nat.le_refl _) _).alloc (by simp) _⟩
set_option maxHeartbeats 400000 in
theorem refNearer_any (i d j f : Int) (A B : Option Addr) (n c m g : Nat) (w : World) :
    Calls Try.prog 19 #[.agg #[.int .u64 i, .int .u64 d, .slice A n c], .agg #[.int .u64 j, .int .u64 f, .slice B m g]] w fun e w' => e = .returned (.bool (nearB i d j f)) ∧ Below w.heap.size w w' := by
  by_cases h : d = f
  · have HV := Lib.hid (show nearB i d j f = decide (i < j) by unfold nearB; rw [if_pos h])
    have h' : (d != f) = false := by simp [h]
    clear h
    go_enter Try.func19, Try.ntmps19
    go_wp2_with fail
    go_ret
    exact ⟨ret_bool HV.out.symm, ((Below.refl _ _).alloc (Nat.le_refl _) _).alloc (by simp) _⟩
  · have HV := Lib.hid (show nearB i d j f = decide (d < f) by unfold nearB; rw [if_neg h])
    have h' : (d != f) = true := by simp [h]
    clear h
    go_enter Try.func19, Try.ntmps19
    go_wp2_with fail
    go_ret
    exact ⟨ret_bool HV.out.symm, ((Below.refl _ _).alloc (Nat.le_refl _) _).alloc (by simp) _⟩

theorem nearB_asym {i d j f : Int} (h : nearB i d j f = true) : nearB j f i d = false := by
  unfold nearB at *
  split at h <;> simp at h <;> split <;> simp <;> omega
theorem nearB_trans {i d j f k g : Int} (h1 : nearB i d j f = true) (h2 : nearB j f k g = true) : nearB i d k g = true := by
  unfold nearB at *
  split at h1 <;> split at h2 <;> simp at h1 h2 <;> split <;> simp <;> omega

/-- three structs that lie in three blocks -/
structure Three (w : World) (b : Nat) (x y z : Int) (u v t : Int) (X Y Z : Value) : Prop where
  lt : b + 1 + 1 < w.heap.size
  a0 : w.cell? ⟨b, 0, none⟩ = some (.int .u64 x)
  a1 : w.cell? ⟨b, 1, none⟩ = some (.int .u64 u)
  a2 : w.cell? ⟨b, 2, none⟩ = some X
  b0 : w.cell? ⟨b + 1, 0, none⟩ = some (.int .u64 y)
  b1 : w.cell? ⟨b + 1, 1, none⟩ = some (.int .u64 v)
  b2 : w.cell? ⟨b + 1, 2, none⟩ = some Y
  c0 : w.cell? ⟨b + 1 + 1, 0, none⟩ = some (.int .u64 z)
  c1 : w.cell? ⟨b + 1 + 1, 1, none⟩ = some (.int .u64 t)
  c2 : w.cell? ⟨b + 1 + 1, 2, none⟩ = some Z
theorem Three.below {w w' : World} {b B : Nat} {x y z u v t : Int} {X Y Z : Value} (h : Three w b x y z u v t X Y Z) (hb : Below B w w') (hB : b + 1 + 1 < B) : Three w' b x y z u v t X Y Z :=
  ⟨by have := hb.size; have := h.lt; omega, (hb.cell (p := ⟨b, 0, none⟩) (by simp; omega)).trans h.a0, (hb.cell (p := ⟨b, 1, none⟩) (by simp; omega)).trans h.a1, (hb.cell (p := ⟨b, 2, none⟩) (by simp; omega)).trans h.a2,
    (hb.cell (p := ⟨b + 1, 0, none⟩) (by simp; omega)).trans h.b0, (hb.cell (p := ⟨b + 1, 1, none⟩) (by simp; omega)).trans h.b1, (hb.cell (p := ⟨b + 1, 2, none⟩) (by simp; omega)).trans h.b2,
    (hb.cell (p := ⟨b + 1 + 1, 0, none⟩) (by simp; omega)).trans h.c0, (hb.cell (p := ⟨b + 1 + 1, 1, none⟩) (by simp; omega)).trans h.c1, (hb.cell (p := ⟨b + 1 + 1, 2, none⟩) (by simp; omega)).trans h.c2⟩

theorem Three.drew {w : World} {b : Nat} {x y z u v t : Int} {X Y Z : Value} (h : Three w b x y z u v t X Y Z) : Three w.drew b x y z u v t X Y Z := ⟨h.lt, h.a0, h.a1, h.a2, h.b0, h.b1, h.b2, h.c0, h.c1, h.c2⟩

set_option maxRecDepth 100000 in
set_option maxHeartbeats 1000000 in
theorem law_nears (i d j f k g : Int) (A B C : Option Addr) (n1 c1 n2 c2 n3 c3 : Nat) (w : World) :
    Calls Try.prog 4 #[.agg #[.int .u64 i, .int .u64 d, .slice A n1 c1], .agg #[.int .u64 j, .int .u64 f, .slice B n2 c2], .agg #[.int .u64 k, .int .u64 g, .slice C n3 c3]] w
      fun e w' => e = .returned (.bool true) ∧ Below w.heap.size w w' := by
  obtain ⟨Ok, hOk⟩ : ∃ Ok : World → Prop, ∀ W, Ok W ↔ Three W w.heap.size i j k d f g (.slice A n1 c1) (.slice B n2 c2) (.slice C n3 c3) ∧ Below w.heap.size w W := ⟨_, fun _ => Iff.rfl⟩
  have HO := Lib.hid hOk
  have ok_step : ∀ W W', Ok W → Below W.heap.size W W' → Ok W' := fun W W' h hb => by
    rw [hOk] at h ⊢
    exact ⟨h.1.below hb h.1.lt, h.2.trans (hb.mono h.2.size)⟩
  have HAB : Hid (∀ W, Ok W → Calls Try.prog 18 #[.agg #[.int .u64 i, .int .u64 d, .slice A n1 c1], .agg #[.int .u64 j, .int .u64 f, .slice B n2 c2]] W fun e w' => e = .returned (.bool (nearB i d j f)) ∧ Ok w') := fun W h => (nearer_any i d j f A B n1 c1 n2 c2 W).mono fun _ _ ⟨he, hb⟩ => ⟨he, ok_step _ _ h hb⟩
  have HRB : Hid (∀ W, Ok W → Calls Try.prog 19 #[.agg #[.int .u64 i, .int .u64 d, .slice A n1 c1], .agg #[.int .u64 j, .int .u64 f, .slice B n2 c2]] W fun e w' => e = .returned (.bool (nearB i d j f)) ∧ Ok w') := fun W h => (refNearer_any i d j f A B n1 c1 n2 c2 W).mono fun _ _ ⟨he, hb⟩ => ⟨he, ok_step _ _ h hb⟩
  have HBA : Hid (∀ W, Ok W → Calls Try.prog 18 #[.agg #[.int .u64 j, .int .u64 f, .slice B n2 c2], .agg #[.int .u64 i, .int .u64 d, .slice A n1 c1]] W fun e w' => e = .returned (.bool (nearB j f i d)) ∧ Ok w') := fun W h => (nearer_any j f i d B A n2 c2 n1 c1 W).mono fun _ _ ⟨he, hb⟩ => ⟨he, ok_step _ _ h hb⟩
  have HBC : Hid (∀ W, Ok W → Calls Try.prog 18 #[.agg #[.int .u64 j, .int .u64 f, .slice B n2 c2], .agg #[.int .u64 k, .int .u64 g, .slice C n3 c3]] W fun e w' => e = .returned (.bool (nearB j f k g)) ∧ Ok w') := fun W h => (nearer_any j f k g B C n2 c2 n3 c3 W).mono fun _ _ ⟨he, hb⟩ => ⟨he, ok_step _ _ h hb⟩
  have HAC : Hid (∀ W, Ok W → Calls Try.prog 18 #[.agg #[.int .u64 i, .int .u64 d, .slice A n1 c1], .agg #[.int .u64 k, .int .u64 g, .slice C n3 c3]] W fun e w' => e = .returned (.bool (nearB i d k g)) ∧ Ok w') := fun W h => (nearer_any i d k g A C n1 c1 n3 c3 W).mono fun _ _ ⟨he, hb⟩ => ⟨he, ok_step _ _ h hb⟩
  have HW : Hid (∀ W, Ok W → Calls Try.prog 11 #[] W fun e w' => e = .returned (.bool true) ∧ Ok w') := fun W h => (awake_any W).mono fun _ _ ⟨he, hb⟩ => ⟨he, ok_step _ _ h hb⟩
  have HDR : Hid (∀ W, Ok W → Ok W.drew) := fun W h => by
    rw [hOk] at h ⊢
    exact ⟨h.1.drew, h.2.drew⟩
  obtain ⟨w3, hw3⟩ : ∃ x, x = ((w.alloc (.cells #[.int .u64 i, .int .u64 d, .slice A n1 c1] 34)).alloc (.cells #[.int .u64 j, .int .u64 f, .slice B n2 c2] 34)).alloc (.cells #[.int .u64 k, .int .u64 g, .slice C n3 c3] 34) := ⟨_, rfl⟩
  have T0 : Ok w3 := by
    rw [hOk]
    exact ⟨by rw [hw3]; constructor <;> go_simp, by rw [hw3]; exact (((Below.refl _ _).alloc (Nat.le_refl _) _).alloc (by simp) _).alloc (by simp; omega) _⟩
  clear ok_step hOk
  go_enter Try.func4, Try.ntmps4
  go_wp2_with fail
  rw [← hw3]
  clear hw3
  refine (HW.out _ T0).mono ?_
  rintro e w4 ⟨rfl, T⟩
  obtain ⟨_, a0, a1, a2, b0, b1, b2, x0, x1, x2⟩ := ((HO.out _).1 T).1
  clear T0
  cases hx : nearB i d j f with
  | false =>
    rw [hx] at HAB HRB
    clear hx HBA HBC HAC
    go_wp2_with fail
    refine wp_region_held_drew (S := (fun w' => w'.cell? ⟨w.heap.size, 0, none⟩ = some (.int .u64 i) ∧ w'.cell? ⟨w.heap.size, 1, none⟩ = some (.int .u64 d) ∧ w'.cell? ⟨w.heap.size, 2, none⟩ = some (.slice A n1 c1) ∧ w'.cell? ⟨w.heap.size + 1, 0, none⟩ = some (.int .u64 j) ∧ w'.cell? ⟨w.heap.size + 1, 1, none⟩ = some (.int .u64 f) ∧ w'.cell? ⟨w.heap.size + 1, 2, none⟩ = some (.slice B n2 c2))) (by kernel_rfl) ⟨a0, a1, a2, b0, b1, b2⟩ (fun hHeld => ?_)
    refine wpAnyH_take (i := 0) (v := .agg #[.int .u64 i, .int .u64 d, .slice A n1 c1]) rfl (by kernel_rfl) (by kernel_rfl) (by kernel_rfl) (fun _ _ _ h => h) (Or.inl ⟨by rfl, ?_⟩) hHeld ?_
    · intro w' hSw; (try dsimp only at hSw); go_simp
    simp only [Act.put, List.setIfInBounds_toArray, List.set_cons_zero, List.set_cons_succ]
    refine wpAnyH_take (i := 1) (v := .agg #[.int .u64 j, .int .u64 f, .slice B n2 c2]) rfl (by kernel_rfl) (by kernel_rfl) (by kernel_rfl) (fun _ _ _ h => h) (Or.inl ⟨by rfl, ?_⟩) hHeld ?_
    · intro w' hSw; (try dsimp only at hSw); go_simp
    simp only [Act.put, List.setIfInBounds_toArray, List.set_cons_zero, List.set_cons_succ]
    refine wpAnyH_take (i := 3) (v := .agg #[.int .u64 i, .int .u64 d, .slice A n1 c1]) rfl (by kernel_rfl) (by kernel_rfl) (by kernel_rfl) (fun _ _ _ h => h) (Or.inl ⟨by rfl, ?_⟩) hHeld ?_
    · intro w' hSw; (try dsimp only at hSw); go_simp
    simp only [Act.put, List.setIfInBounds_toArray, List.set_cons_zero, List.set_cons_succ]
    refine wpAnyH_take (i := 4) (v := .agg #[.int .u64 j, .int .u64 f, .slice B n2 c2]) rfl (by kernel_rfl) (by kernel_rfl) (by kernel_rfl) (fun _ _ _ h => h) (Or.inl ⟨by rfl, ?_⟩) hHeld ?_
    · intro w' hSw; (try dsimp only at hSw); go_simp
    simp only [Act.put, List.setIfInBounds_toArray, List.set_cons_zero, List.set_cons_succ]
    refine wpAnyH_ready (rs := [2]) (by kernel_rfl) (by simp) ?_
    refine AllReadyH.cons rfl (fun K hK => ?_) AllReadyH.nil
    go_simp
    refine (HAB.out _ ?_).mono ?_
    · first | exact T | exact HDR.out _ T
    rintro e w5 ⟨rfl, T⟩
    obtain ⟨_, a0, a1, a2, b0, b1, b2, x0, x1, x2⟩ := ((HO.out _).1 T).1
    go_wp2_with fail
    refine hK.out _ _ ⟨a0, a1, a2, b0, b1, b2⟩ (fun hHeld => ?_)
    clear hK K
    try simp only [Act.put, List.setIfInBounds_toArray, List.set_cons_zero, List.set_cons_succ]
    refine wpAnyH_ready (rs := [5]) (by kernel_rfl) (by simp) ?_
    refine AllReadyH.cons rfl (fun K hK => ?_) AllReadyH.nil
    go_simp
    refine (HRB.out _ ?_).mono ?_
    · first | exact T | exact HDR.out _ T
    rintro e w5 ⟨rfl, T⟩
    obtain ⟨_, a0, a1, a2, b0, b1, b2, x0, x1, x2⟩ := ((HO.out _).1 T).1
    go_wp2_with fail
    refine hK.out _ _ ⟨a0, a1, a2, b0, b1, b2⟩ (fun hHeld => ?_)
    clear hK K
    try simp only [Act.put, List.setIfInBounds_toArray, List.set_cons_zero, List.set_cons_succ]
    refine wpAnyH_take (i := 6) (v := .bool false) rfl (by kernel_rfl) (by kernel_rfl) (by kernel_rfl) (fun _ _ _ h => h) (Or.inl ⟨by rfl, ?_⟩) hHeld ?_
    · intro w' hSw; (try dsimp only at hSw); go_simp
    simp only [Act.put, List.setIfInBounds_toArray, List.set_cons_zero, List.set_cons_succ]
    refine wpAnyH_take (i := 7) (v := .bool false) rfl (by kernel_rfl) (by kernel_rfl) (by kernel_rfl) (fun _ _ _ h => h) (Or.inl ⟨by rfl, ?_⟩) hHeld ?_
    · intro w' hSw; (try dsimp only at hSw); go_simp
    simp only [Act.put, List.setIfInBounds_toArray, List.set_cons_zero, List.set_cons_succ]
    refine wpAnyH_take (i := 8) (v := .agg #[.int .u64 i, .int .u64 d, .slice A n1 c1]) rfl (by kernel_rfl) (by kernel_rfl) (by kernel_rfl) (fun _ _ _ h => h) (Or.inl ⟨by rfl, ?_⟩) hHeld ?_
    · intro w' hSw; (try dsimp only at hSw); go_simp
    simp only [Act.put, List.setIfInBounds_toArray, List.set_cons_zero, List.set_cons_succ]
    refine wpAnyH_take (i := 9) (v := .agg #[.int .u64 j, .int .u64 f, .slice B n2 c2]) rfl (by kernel_rfl) (by kernel_rfl) (by kernel_rfl) (fun _ _ _ h => h) (Or.inl ⟨by rfl, ?_⟩) hHeld ?_
    · intro w' hSw; (try dsimp only at hSw); go_simp
    simp only [Act.put, List.setIfInBounds_toArray, List.set_cons_zero, List.set_cons_succ]
    refine wpAnyH_ready (rs := [10]) (by kernel_rfl) (by simp) ?_
    refine AllReadyH.cons rfl (fun K hK => ?_) AllReadyH.nil
    go_simp
    refine (HAB.out _ ?_).mono ?_
    · first | exact T | exact HDR.out _ T
    rintro e w5 ⟨rfl, T⟩
    obtain ⟨_, a0, a1, a2, b0, b1, b2, x0, x1, x2⟩ := ((HO.out _).1 T).1
    go_wp2_with fail
    refine hK.out _ _ ⟨a0, a1, a2, b0, b1, b2⟩ (fun hHeld => ?_)
    clear hK K
    try simp only [Act.put, List.setIfInBounds_toArray, List.set_cons_zero, List.set_cons_succ]
    refine wpAnyH_take (i := 11) (v := .bool false) rfl (by kernel_rfl) (by kernel_rfl) (by kernel_rfl) (fun _ _ _ h => h) (Or.inl ⟨by rfl, ?_⟩) hHeld ?_
    · intro w' hSw; (try dsimp only at hSw); go_simp
    simp only [Act.put, List.setIfInBounds_toArray, List.set_cons_zero, List.set_cons_succ]
    refine wpAnyH_take (i := 12) (v := undef) rfl (by kernel_rfl) (by kernel_rfl) (by kernel_rfl) (fun _ _ _ h => h) (Or.inr ⟨by rfl, rfl⟩) hHeld ?_
    simp only [Act.put, List.setIfInBounds_toArray, List.set_cons_zero, List.set_cons_succ]
    refine wpAnyH_take (i := 13) (v := undef) rfl (by kernel_rfl) (by kernel_rfl) (by kernel_rfl) (fun _ _ _ h => h) (Or.inr ⟨by rfl, rfl⟩) hHeld ?_
    simp only [Act.put, List.setIfInBounds_toArray, List.set_cons_zero, List.set_cons_succ]
    refine wpAnyH_take (i := 14) (v := undef) rfl (by kernel_rfl) (by kernel_rfl) (by kernel_rfl) (fun _ _ _ h => h) (Or.inr ⟨by rfl, rfl⟩) hHeld ?_
    simp only [Act.put, List.setIfInBounds_toArray, List.set_cons_zero, List.set_cons_succ]
    refine wpAnyH_take (i := 15) (v := .bool false) rfl (by kernel_rfl) (by kernel_rfl) (by kernel_rfl) (fun _ _ _ h => h) (Or.inl ⟨by rfl, ?_⟩) hHeld ?_
    · intro w' hSw; (try dsimp only at hSw); go_simp
    simp only [Act.put, List.setIfInBounds_toArray, List.set_cons_zero, List.set_cons_succ]
    refine wpAnyH_take (i := 16) (v := .bool false) rfl (by kernel_rfl) (by kernel_rfl) (by kernel_rfl) (fun _ _ _ h => h) (Or.inl ⟨by rfl, ?_⟩) hHeld ?_
    · intro w' hSw; (try dsimp only at hSw); go_simp
    simp only [Act.put, List.setIfInBounds_toArray, List.set_cons_zero, List.set_cons_succ]
    refine wpAnyH_done (by kernel_rfl) ?_ _
    all_goals
      go_wp2_with (go_at_call 18; refine (HAB.out _ T).mono ?_; rintro e w7 ⟨rfl, T⟩)
      go_ret
      exact ⟨rfl, ((HO.out _).1 T).2⟩
  | true =>
    have hy := nearB_asym hx
    rw [hy] at HBA
    cases hz : nearB j f k g with
    | false =>
      rw [hx] at HAB HRB
      rw [hz] at HBC
      clear hx hy hz HAC
      go_wp2_with fail
      first
        | (go_region_held3 (fun w' => w'.cell? ⟨w.heap.size, 0, none⟩ = some (.int .u64 i) ∧ w'.cell? ⟨w.heap.size, 1, none⟩ = some (.int .u64 d) ∧ w'.cell? ⟨w.heap.size, 2, none⟩ = some (.slice A n1 c1) ∧
            w'.cell? ⟨w.heap.size + 1, 0, none⟩ = some (.int .u64 j) ∧ w'.cell? ⟨w.heap.size + 1, 1, none⟩ = some (.int .u64 f) ∧ w'.cell? ⟨w.heap.size + 1, 2, none⟩ = some (.slice B n2 c2))
          (exact ⟨a0, a1, a2, b0, b1, b2⟩) (first | (go_at_call 18; (first | with_reducible refine (HAB.out _ ?_).mono ?_ | with_reducible refine (HBA.out _ ?_).mono ?_); (first | exact T | exact HDR.out _ T); rintro e w5 ⟨rfl, T⟩; obtain ⟨_, a0, a1, a2, b0, b1, b2, x0, x1, x2⟩ := ((HO.out _).1 T).1) | (go_at_call 19; refine (HRB.out _ ?_).mono ?_; (first | exact T | exact HDR.out _ T); rintro e w6 ⟨rfl, T⟩; obtain ⟨_, a0, a1, a2, b0, b1, b2, x0, x1, x2⟩ := ((HO.out _).1 T).1)))
      all_goals
        go_wp2_with (go_at_call 18; (first | with_reducible refine (HAB.out _ T).mono ?_ | with_reducible refine (HBC.out _ T).mono ?_); rintro e w7 ⟨rfl, T⟩; obtain ⟨_, a0, a1, a2, b0, b1, b2, x0, x1, x2⟩ := ((HO.out _).1 T).1)
        go_ret
        exact ⟨rfl, ((HO.out _).1 T).2⟩
    | true =>
      have hu := nearB_trans hx hz
      rw [hx] at HAB HRB
      rw [hz] at HBC
      rw [hu] at HAC
      clear hx hy hz hu
      go_wp2_with fail
      first
        | (go_region_held3 (fun w' => w'.cell? ⟨w.heap.size, 0, none⟩ = some (.int .u64 i) ∧ w'.cell? ⟨w.heap.size, 1, none⟩ = some (.int .u64 d) ∧ w'.cell? ⟨w.heap.size, 2, none⟩ = some (.slice A n1 c1) ∧
            w'.cell? ⟨w.heap.size + 1, 0, none⟩ = some (.int .u64 j) ∧ w'.cell? ⟨w.heap.size + 1, 1, none⟩ = some (.int .u64 f) ∧ w'.cell? ⟨w.heap.size + 1, 2, none⟩ = some (.slice B n2 c2))
          (exact ⟨a0, a1, a2, b0, b1, b2⟩) (first | (go_at_call 18; (first | with_reducible refine (HAB.out _ ?_).mono ?_ | with_reducible refine (HBA.out _ ?_).mono ?_); (first | exact T | exact HDR.out _ T); rintro e w5 ⟨rfl, T⟩; obtain ⟨_, a0, a1, a2, b0, b1, b2, x0, x1, x2⟩ := ((HO.out _).1 T).1) | (go_at_call 19; refine (HRB.out _ ?_).mono ?_; (first | exact T | exact HDR.out _ T); rintro e w6 ⟨rfl, T⟩; obtain ⟨_, a0, a1, a2, b0, b1, b2, x0, x1, x2⟩ := ((HO.out _).1 T).1)))
      all_goals
        go_wp2_with (go_at_call 18; (first | with_reducible refine (HAB.out _ T).mono ?_ | with_reducible refine (HBC.out _ T).mono ?_ | with_reducible refine (HAC.out _ T).mono ?_); rintro e w7 ⟨rfl, T⟩; obtain ⟨_, a0, a1, a2, b0, b1, b2, x0, x1, x2⟩ := ((HO.out _).1 T).1)
        go_ret
        exact ⟨rfl, ((HO.out _).1 T).2⟩

end Go.Proofs.Ytnpbfacmjmgfaaa
