/-
  An edge laid, an edge taken, a node laid: what becomes of a graph. The contract of join.
-/
import Derived.Test.YtdfmgfclcbeeiaaGNear
namespace Go.Proofs.Ytdfmgfclcbeeiaa
open Go.RowKit Go.Maps
set_option linter.unusedSimpArgs false
set_option linter.unusedVariables false

def upd (g : Int → Int) (y k : Int) : Int → Int := fun z => if z = y then k else g z
def upd2 (f : Int → Int → Int) (x y k : Int) : Int → Int → Int := fun z => if z = x then upd (f x) y k else f z

theorem litU_ne {x y : Int} (h : x ≠ y) : litU x ≠ litU y := fun e => by
  unfold litU at e
  injection e with _ e
  exact h e

/-- nothing but the graph's maps has turned -/
def Kept (B mb : Nat) (nb : Int → Option Nat) (w w' : World) : Prop := Below B w w' ∧ ∀ g, g < w.heap.size → g ≠ mb → (∀ z, nb z ≠ some g) → w'.heap[g]? = w.heap[g]?
theorem Kept.refl (B mb : Nat) (nb : Int → Option Nat) (w : World) : Kept B mb nb w w := ⟨Below.refl B w, fun _ _ _ _ => rfl⟩
theorem Kept.trans {B mb : Nat} {nb : Int → Option Nat} {w w1 w2 : World} (h : Kept B mb nb w w1) (k : Kept B mb nb w1 w2) : Kept B mb nb w w2 :=
  ⟨h.1.trans k.1, fun g h1 h2 h3 => (k.2 g (Nat.lt_of_lt_of_le h1 h.1.size) h2 h3).trans (h.2 g h1 h2 h3)⟩

section
variable {w : World} {B b mb m n : Nat} {D : DataW Unit} {nb : Int → Option Nat} {f : Int → Int → Int} {g : Int → Int} {x y k : Int}

theorem Inn.kept (h : Inn w m n g D) {w' : World} {row : Option Nat} (hg : w.grownBy w' row) (hne : some m ≠ row) : Inn w' m n g D := ⟨h.map.kept hg hne, h.mem, h.look⟩
theorem Inn.mono (h : Inn w m n g D) {n' : Nat} (hn : n ≤ n') : Inn w m n' g D := ⟨h.map.mono hn, h.mem, h.look⟩

theorem Inn.put (h : Inn w m n g D) (hy : U64 y) (hk : k = 1 ∨ k = 2) (hn : n < maxLen) :
    ∃ w', (Instr.mapUpdate 64 (.map (some m)) (.int .u64 y) (.int .u8 k)).run Try.prog w = .ok () w' ∧ (∃ D', Inn w' m (n + 1) (upd g y k) D') ∧ w.grownBy w' (some m) := by
  have hv : plainElem (H := Unit) Try.prog 65 (.int .u8 k) = some (kindD k, []) := plainElem_int Try.underlying65 (by rcases hk with rfl | rfl <;> decide)
  obtain ⟨w', hrun, hm, hg⟩ := h.map.update law31 Try.underlying64 hn (key31 hy) hv
  refine ⟨w', hrun, ⟨_, hm, fun z => ?_, fun z => ?_⟩, hg⟩
  · by_cases hz : z = y
    · subst hz
      rw [has_put_same h.map.isMap (by trivial)]
      simp [upd]
      rcases hk with rfl | rfl <;> decide
    · rw [has_put_other (litU_ne hz), h.mem z]
      simp [upd, hz]
  · by_cases hz : z = y
    · subst hz
      rw [atKey_put_same h.map.isMap (by trivial)]
      simp [upd]
    · rw [atKey_put_other (litU_ne hz), h.look z]
      simp [upd, hz]

theorem Inn.cut (h : Inn w m n g D) (hy : U64 y) (ty : TypeId) :
    ∃ w', (Builtin.delete_ #[64, 31] ty #[.map (some m), .int .u64 y]).run Try.prog w = .ok (.tuple #[]) w' ∧ (∃ D', Inn w' m n (upd g y 0) D') ∧ w.grownBy w' (some m) := by
  obtain ⟨w', hrun, hm, hg⟩ := h.map.drop law31 Try.underlying64 (key31 hy) ty
  refine ⟨w', hrun, ⟨_, hm, fun z => ?_, fun z => ?_⟩, hg.grown⟩
  · by_cases hz : z = y
    · subst hz
      rw [has_del_same]
      simp [upd]
    · rw [has_del_other (litU_ne hz), h.mem z]
      simp [upd, hz]
  · by_cases hz : z = y
    · subst hz
      rw [atKey_del_same]
      simp [upd]
    · rw [atKey_del_other (litU_ne hz), h.look z]
      simp [upd, hz]

theorem Gr.turn (h : Gr w B b mb n D nb f) (hm : nb x = some m) {w' : World} (hg : w.grownBy w' (some m)) {g : Int → Int} {n' : Nat} (hn : n ≤ n') (hI : ∃ D', Inn w' m n' g D') :
    Gr w' B b mb n' D nb (fun z => if z = x then g else f z) ∧ Kept B mb nb w w' := by
  obtain ⟨D0, h0⟩ := h.inn x m hm
  have hbm : b ≠ m := fun e => by
    have h1 := h.blk
    obtain ⟨es, cl, h2, _⟩ := h0.map
    unfold Boxed at h1
    rw [e, h2] at h1
    cases h1
  have hmm := (h.new.2.2 x m hm)
  refine ⟨⟨h.blk.kept hg (by simpa using hbm), (h.map.kept hg (by simpa using hmm.2.symm)).mono hn, h.mem, h.look, fun z mz hz => ?_, fun z hz y => ?_, h.apart, h.new⟩, (Below.refl B w).grown hg (by have := h0.map.lt; omega) (fun j e => by cases e; exact hmm.1), fun g hgl _ hgn => hg.block g hgl (fun e => by cases e; exact hgn x hm)⟩
  · by_cases hzx : z = x
    · subst hzx
      rw [hm] at hz
      cases hz
      simpa using hI
    · obtain ⟨D1, h1⟩ := h.inn z mz hz
      have : mz ≠ m := fun e => hzx (h.apart z x m (by rw [hz, e]) hm)
      simp only [if_neg hzx]
      exact ⟨D1, (h1.kept hg (by simpa using this)).mono hn⟩
  · have hzx : z ≠ x := fun e => by rw [e, hm] at hz; cases hz
    simp only [if_neg hzx]
    exact h.non z hz y

theorem Gr.put (h : Gr w B b mb n D nb f) (hm : nb x = some m) (hy : U64 y) (hk : k = 1 ∨ k = 2) (hn : n < maxLen) :
    ∃ w', (Instr.mapUpdate 64 (.map (some m)) (.int .u64 y) (.int .u8 k)).run Try.prog w = .ok () w' ∧ Gr w' B b mb (n + 1) D nb (upd2 f x y k) ∧ Kept B mb nb w w' := by
  obtain ⟨D0, h0⟩ := h.inn x m hm
  obtain ⟨w', hrun, hI, hg⟩ := h0.put hy hk hn
  exact ⟨w', hrun, h.turn hm hg (Nat.le_succ n) hI⟩

theorem Gr.cut (h : Gr w B b mb n D nb f) (hm : nb x = some m) (hy : U64 y) (ty : TypeId) :
    ∃ w', (Builtin.delete_ #[64, 31] ty #[.map (some m), .int .u64 y]).run Try.prog w = .ok (.tuple #[]) w' ∧ Gr w' B b mb n D nb (upd2 f x y 0) ∧ Kept B mb nb w w' := by
  obtain ⟨D0, h0⟩ := h.inn x m hm
  obtain ⟨w', hrun, hI, hg⟩ := h0.cut hy ty
  exact ⟨w', hrun, h.turn hm hg (Nat.le_refl n) hI⟩

set_option maxRecDepth 100000 in
set_option maxHeartbeats 2000000 in
theorem join_any {my : Nat} (h : Gr w B b mb n D nb f) (hm : nb x = some m) (hm2 : nb y = some my) (hk : k = 1 ∨ k = 2) (hn : n + 1 < maxLen) :
    Calls Try.prog 39 #[.pointer (some ⟨b, 0, none⟩), .int .u64 x, .int .u64 y, .int .u8 k] w fun e w' => e = .returned (.tuple #[]) ∧ Gr w' B b mb (n + 2) D nb (upd2 (upd2 f x y k) y x k) ∧ Kept B mb nb w w' := by
  have hc := h.blk.cell
  have hl := h.hit hm
  obtain ⟨w1, hrun1, hG1, hB1⟩ := h.put hm (h.look y my hm2).1 hk (by omega)
  have hc1 := hG1.blk.cell
  have hl1 := hG1.hit hm2
  obtain ⟨w2, hrun2, hG2, hB2⟩ := hG1.put hm2 (h.look x m hm).1 hk hn
  have HF := Lib.hid (And.intro hG2 (hB1.trans hB2))
  clear h hG1 hB1 hG2 hB2 hm hm2
  go_enter Try.func39, Try.ntmps39
  go_wp2_with fail
  go_end0
  exact ⟨rfl, HF.out⟩
end

end Go.Proofs.Ytdfmgfclcbeeiaa
