/-
  The contracts of Add, Bind, Link and Cut.
-/
import Derived.Test.YtdfmgfclcbeeiaaGPut
namespace Go.Proofs.Ytdfmgfclcbeeiaa
open Go.RowKit Go.Maps
set_option linter.unusedSimpArgs false
set_option linter.unusedVariables false

def node (nb : Int → Option Nat) (x : Int) (m : Nat) : Int → Option Nat := fun z => if z = x then some m else nb z

section
variable {w : World} {B b mb m n : Nat} {D : DataW Unit} {nb : Int → Option Nat} {f : Int → Int → Int} {g : Int → Int} {x y k : Int}

theorem Gr.alloc (h : Gr w B b mb n D nb f) (o : Obj) : Gr (w.alloc o) B b mb n D nb f where
  blk := h.blk.alloc o
  map := h.map.alloc o
  mem := h.mem
  look := h.look
  inn x m hm := let ⟨D', hI⟩ := h.inn x m hm; ⟨D', hI.kept (World.grownBy_alloc w o none) (by simp)⟩
  non := h.non
  apart := h.apart
  new := h.new

theorem Gr.add (h : Gr w B b mb n D nb f) (hx : U64 x) (hno : nb x = none) (hn : n < maxLen) :
    ∃ w', (Instr.mapUpdate 55 (.map (some mb)) (.int .u64 x) (.map (some w.heap.size))).run Try.prog (w.alloc (.map #[] 0)) = .ok () w' ∧ (∃ D', Gr w' B b mb (n + 1) D' (node nb x w.heap.size) f) ∧ Kept B mb nb w w' := by
  have h1 := h.alloc (.map #[] 0)
  obtain ⟨w', hrun, hm, hg⟩ := h1.map.update law31 Try.underlying55 hn (key31 hx) (rdM_at w.heap.size)
  have hbm : b ≠ mb := fun e => by
    have k1 := h.blk
    obtain ⟨es, cl, k2, _⟩ := h.map
    unfold Boxed at k1
    rw [e, k2] at k1
    cases k1
  have hmlt := h.map.lt
  have hnew : ∀ z mz, nb z = some mz → mz < w.heap.size := fun z mz hz => by obtain ⟨D1, hI⟩ := h.inn z mz hz; exact hI.map.lt
  refine ⟨w', hrun, ⟨_, h1.blk.kept hg (by simpa using hbm), hm, fun z => ?_, fun z mz hz => ?_, fun z mz hz => ?_, fun z hz => ?_, fun z z' mz hz hz' => ?_, h.new.1, h.new.2.1, fun z mz hz => ?_⟩, ?_⟩
  · by_cases hzx : z = x
    · subst hzx
      rw [has_put_same h1.map.isMap (by trivial)]
      simp [node]
    · rw [has_put_other (litU_ne hzx), h.mem z]
      simp [node, hzx]
  · by_cases hzx : z = x
    · subst hzx
      simp [node] at hz
      subst hz
      exact ⟨hx, atKey_put_same h1.map.isMap (by trivial) _ _⟩
    · simp [node, hzx] at hz
      exact ⟨(h.look z mz hz).1, by rw [atKey_put_other (litU_ne hzx)]; exact (h.look z mz hz).2⟩
  · by_cases hzx : z = x
    · subst hzx
      simp [node] at hz
      subst hz
      refine ⟨.map [], ((World.ownsMap_made w Try.prog 31 _).kept hg (by simp; omega)).mono (Nat.zero_le _), fun y => ?_, fun y => ?_⟩
      · rw [h.non z hno y]
        simp [has]
      · rw [h.non z hno y]
        rfl
    · simp [node, hzx] at hz
      obtain ⟨D1, hI⟩ := h1.inn z mz hz
      exact ⟨D1, (hI.kept hg (by have := (h.new.2.2 z mz hz).2; simpa using this)).mono (Nat.le_succ n)⟩
  · by_cases hzx : z = x
    · subst hzx; simp [node] at hz
    · simp [node, hzx] at hz
      exact h.non z hz
  · by_cases hzx : z = x <;> by_cases hzx' : z' = x
    · rw [hzx, hzx']
    · simp [node, hzx, hzx'] at hz hz'
      have := hnew z' mz hz'
      omega
    · simp [node, hzx, hzx'] at hz hz'
      have := hnew z mz hz
      omega
    · simp [node, hzx, hzx'] at hz hz'
      exact h.apart z z' mz hz hz'
  · by_cases hzx : z = x
    · simp [node, hzx] at hz
      subst hz
      have := h.new.2.1
      omega
    · simp [node, hzx] at hz
      exact h.new.2.2 z mz hz
  · exact ⟨((Below.refl B w).alloc (by have := h.new.2.1; omega) _).grown hg (by have := h.new.2.1; simp; omega) (fun j e => by cases e; exact h.new.2.1), fun g hgl hgm _ => (hg.block g (by simp; omega) (fun e => by cases e; exact hgm rfl)).trans (Below.heap_alloc _ _ _ hgl)⟩

/-- what Add answers -/
def addE (nb : Int → Option Nat) (x : Int) : Int := if (nb x).isSome then 7 else 0

set_option maxRecDepth 100000 in
set_option maxHeartbeats 2000000 in
theorem add_any (h : Gr w B b mb n D nb f) (hx : U64 x) (hn : n < maxLen) :
    Calls Try.prog 26 #[.pointer (some ⟨b, 0, none⟩), .int .u64 x] w fun e w' => e = .returned (.int .i64 (addE nb x)) ∧ (if (nb x).isSome then w' = w else (∃ D' m, Gr w' B b mb (n + 1) D' (node nb x m) f) ∧ Kept B mb nb w w') := by
  have HH := Lib.hid (has_any h hx)
  have hc := h.blk.cell
  cases hnb : nb x with
  | some m =>
    rw [hnb] at HH
    go_enter Try.func26, Try.ntmps26
    go_wp2_with fail
    refine (HH.out).mono ?_
    rintro e w' ⟨rfl, rfl⟩
    go_wp2_with fail
    go_ret
    exact ⟨by simp [addE, hnb], by simp⟩
  | none =>
    rw [hnb] at HH
    obtain ⟨w1, hrun, hG, hB⟩ := h.add hx hnb hn
    have HG := Lib.hid (And.intro hG hB)
    have hc1 := (h.alloc (.map #[] 0)).blk.cell
    have hmm : (Instr.makeMap 64 none).run Try.prog w = .ok (.map (some w.heap.size)) (w.alloc (.map #[] 0)) := rfl
    clear hG hB
    go_enter Try.func26, Try.ntmps26
    go_wp2_with fail
    refine (HH.out).mono ?_
    rintro e w' ⟨rfl, rfl⟩
    go_wp2_with fail
    go_ret
    obtain ⟨⟨D', hG⟩, hB⟩ := HG.out
    exact ⟨by simp [addE, hnb], by simpa using ⟨⟨D', _, hG⟩, hB⟩⟩
end

end Go.Proofs.Ytdfmgfclcbeeiaa
