/-
  Both disks tied, without memory: the program's by names, bytes and how many are firm, in whatever order; the document's by rising names.
-/
import Derived.Test.YtchedflfinkppaaRef8
import Derived.Test.YtchedflfinkppaaRef11
import Derived.Test.YtchedflfinkppaaActs
import Derived.Sort.Walk0
namespace Go.Proofs.Ytchedflfinkppaa
open Go.RowKit Go.Maps Go.Sort Go.Shelf

def keyR (f : RF) : List UInt8 := f.name.data.toList
def toA (f : RF) : AFile := (f.name.data.toList, f.firm ++ f.loose, f.firm.length)
def absR (L : List RF) : List AFile := L.map toA
def ltB (a b : ByteArray) : Prop := a.data.toList < b.data.toList
structure Tied (A : List AFile) (L : List RF) : Prop where
  perm : A.Perm (absR L)
  srt : (L.map RF.name).Pairwise ltB

theorem data_inj {a b : ByteArray} (h : a.data.toList = b.data.toList) : a = b := by
  cases a
  cases b
  simp only [ByteArray.mk.injEq] at *
  exact Array.toList_inj.1 h
theorem lt_irr (x : List UInt8) : ¬ x < x := List.lt_irrefl x
theorem srt_ne {L : List RF} (h : (L.map RF.name).Pairwise ltB) : L.Pairwise (fun f g => keyR f ≠ keyR g) := by
  have h1 := List.pairwise_map.1 h
  refine h1.imp fun {a b} hab e => ?_
  unfold ltB at hab
  unfold keyR at e
  rw [e] at hab
  exact lt_irr _ hab
theorem absR_ne {L : List RF} (h : (L.map RF.name).Pairwise ltB) : (absR L).Pairwise (fun a b => a.1 ≠ b.1) := List.pairwise_map.2 (srt_ne h)
theorem Tied.ne {A : List AFile} {L : List RF} (h : Tied A L) : A.Pairwise (fun a b => a.1 ≠ b.1) :=
  (h.perm.pairwise_iff (fun {a b} hab => Ne.symm hab)).2 (absR_ne h.srt)
theorem findA_of : ∀ {A : List AFile} {a : AFile} {x : List UInt8}, A.Pairwise (fun a b => a.1 ≠ b.1) → a ∈ A → a.1 = x → findA A x = some a
  | [], _, _, _, h, _ => absurd h List.not_mem_nil
  | b :: A, a, x, hn, h, hx => by
    unfold findA
    rw [List.find?_cons]
    rw [List.pairwise_cons] at hn
    rcases List.mem_cons.1 h with rfl | h
    · simp [hx]
    · have := hn.1 a h
      rw [hx] at this
      simp [this]
      exact findA_of hn.2 h hx
theorem findA_no {A : List AFile} {x : List UInt8} (h : ∀ a ∈ A, a.1 ≠ x) : findA A x = none := by
  unfold findA
  rw [List.find?_eq_none]
  intro a ha
  simpa using h a ha
theorem idx_some {L : List RF} {s : ByteArray} {k : Nat} (h : L.findIdx? (fun f => decide (f.name = s)) = some k) : ∃ hk : k < L.length, L[k].name = s := by
  obtain ⟨hk, h1, _⟩ := List.findIdx?_eq_some_iff_getElem.1 h
  exact ⟨hk, by simpa using h1⟩
theorem idx_none {L : List RF} {s : ByteArray} (h : L.findIdx? (fun f => decide (f.name = s)) = none) : ∀ f ∈ L, keyR f ≠ s.data.toList := fun f hf e => by
  have := List.findIdx?_eq_none_iff.1 h f hf
  exact (by simpa using this : ¬ f.name = s) (data_inj e)

section
variable {A : List AFile} {L : List RF} {s t : ByteArray} {k : Nat}
theorem Tied.mem (h : Tied A L) (a : AFile) : a ∈ A ↔ a ∈ absR L := h.perm.mem_iff
theorem Tied.hit (h : Tied A L) (hk : k < L.length) (hs : L[k].name = s) : findA A s.data.toList = some (toA L[k]) :=
  findA_of h.ne ((h.mem _).2 (List.mem_map.2 ⟨L[k], List.getElem_mem hk, rfl⟩)) (by show L[k].name.data.toList = _; rw [hs])
theorem Tied.miss (h : Tied A L) (hs : ∀ f ∈ L, keyR f ≠ s.data.toList) : findA A s.data.toList = none := findA_no fun a ha => by
  obtain ⟨f, hf, rfl⟩ := List.mem_map.1 ((h.mem a).1 ha)
  exact hs f hf
theorem Tied.len (h : Tied A L) : A.length = L.length := by
  have := h.perm.length_eq
  rw [absR, List.length_map] at this
  exact this
theorem Tied.sum (h : Tied A L) : sumA A = sumR L := by
  unfold sumA sumR
  rw [(h.perm.map (fun a => a.2.1.length)).sum_nat, absR, List.map_map]
  congr 1
  refine List.map_congr_left fun f _ => ?_
  simp [toA, RF.size]
/-- a file changed in its place -/
theorem Tied.at (h : Tied A L) (hk : k < L.length) (g : AFile → AFile) (f' : RF) (hn : f'.name = L[k].name) (hg : toA f' = g (toA L[k])) (x : List UInt8) (hx : x = keyR L[k]) : Tied (A.map fun a => if a.1 = x then g a else a) (L.set k f') := by
  subst hx
  refine ⟨(h.perm.map _).trans (List.Perm.of_eq ?_), by rw [names_set hk f' hn]; exact h.srt⟩
  rw [absR, absR, List.map_map]
  refine List.ext_getElem (by simp) fun j h1 h2 => ?_
  simp only [List.getElem_map, Function.comp]
  have hj : j < L.length := by simpa using h1
  by_cases e : j = k
  · subst e
    rw [List.getElem_set_self, if_pos (show (toA L[j]).1 = keyR L[j] from rfl), hg]
  · rw [List.getElem_set_ne (fun e' => e e'.symm), if_neg]
    show keyR L[j] ≠ keyR L[k]
    have hp := List.pairwise_iff_getElem.1 (srt_ne h.srt)
    rcases Nat.lt_or_gt_of_ne e with h3 | h3
    · exact hp j k hj hk h3
    · exact fun e' => hp k j hk hj h3 e'.symm
theorem Tied.no (h : Tied A L) (g : AFile → AFile) (x : List UInt8) (hx : ∀ f ∈ L, keyR f ≠ x) : Tied (A.map fun a => if a.1 = x then g a else a) L := by
  have : (A.map fun a => if a.1 = x then g a else a) = A := by
    refine (List.map_congr_left fun a ha => ?_).trans (List.map_id A)
    obtain ⟨f, hf, rfl⟩ := List.mem_map.1 ((h.mem a).1 ha)
    rw [if_neg (show ¬ (toA f).1 = x from hx f hf)]
    rfl
  rw [this]
  exact h
theorem drop_keep {M : List RF} {x : List UInt8} (hx : ∀ f ∈ M, keyR f ≠ x) : dropA (absR M) x = absR M := by
  unfold dropA
  rw [List.filter_eq_self]
  intro a ha
  obtain ⟨f, hf, rfl⟩ := List.mem_map.1 ha
  exact decide_eq_true (show ¬ (toA f).1 = x from hx f hf)
theorem Tied.drop1 (h : Tied A L) (s : ByteArray) : Tied (dropA A s.data.toList) (rdrop1 L s) := by
  unfold rdrop1
  cases hi : L.findIdx? (fun f => decide (f.name = s)) with
  | none =>
    refine ⟨(h.perm.filter _).trans (List.Perm.of_eq ?_), h.srt⟩
    exact drop_keep (idx_none hi)
  | some k =>
    obtain ⟨hk, hs⟩ := idx_some hi
    have hp := List.pairwise_iff_getElem.1 (srt_ne h.srt)
    have hkey : keyR L[k] = s.data.toList := by unfold keyR; rw [hs]
    refine ⟨(h.perm.filter _).trans (List.Perm.of_eq ?_), ?_⟩
    · show dropA (absR L) s.data.toList = _
      have e : L = L.take k ++ (L[k] :: L.drop (k + 1)) := by rw [List.getElem_cons_drop, List.take_append_drop]
      have h1 : ∀ f ∈ L.take k, keyR f ≠ s.data.toList := fun f hf => by
        obtain ⟨j, hj, rfl⟩ := List.mem_iff_getElem.1 hf
        rw [List.length_take] at hj
        rw [List.getElem_take, ← hkey]
        exact hp j k (by omega) hk (by omega)
      have h2 : ∀ f ∈ L.drop (k + 1), keyR f ≠ s.data.toList := fun f hf => by
        obtain ⟨j, hj, rfl⟩ := List.mem_iff_getElem.1 hf
        rw [List.length_drop] at hj
        rw [List.getElem_drop, ← hkey]
        exact fun e' => hp k (k + 1 + j) hk (by omega) (by omega) e'.symm
      have e2 : absR L = absR (L.take k) ++ (toA L[k] :: absR (L.drop (k + 1))) := (congrArg absR e).trans (by simp only [absR, List.map_append, List.map_cons])
      rw [e2]
      have e3 : ∀ (a b : List AFile) (y : AFile), y.1 = s.data.toList → dropA (a ++ (y :: b)) s.data.toList = dropA a s.data.toList ++ dropA b s.data.toList := fun a b y hy => by
        unfold dropA
        rw [List.filter_append, List.filter_cons, if_neg (by simp [hy])]
      rw [e3 _ _ _ hkey, drop_keep h1, drop_keep h2]
      simp [absR]
    · have hsub : (L.take k ++ L.drop (k + 1)).Sublist L := by
        conv => rhs; rw [← List.take_append_drop k L]
        refine List.Sublist.append_left ?_ _
        rw [show L.drop (k + 1) = (L.drop k).drop 1 by rw [List.drop_drop]]
        exact List.drop_sublist _ _
      exact h.srt.sublist (hsub.map _)
theorem rdrop1_no (L : List RF) (s : ByteArray) (h : (L.map RF.name).Pairwise ltB) : ∀ f ∈ rdrop1 L s, keyR f ≠ s.data.toList := fun f hf e => by
  have ht : Tied (absR L) L := ⟨List.Perm.refl _, h⟩
  have := ((ht.drop1 s).mem (toA f)).2 (List.mem_map.2 ⟨f, hf, rfl⟩)
  unfold dropA at this
  exact of_decide_eq_true (List.mem_filter.1 this).2 e
/-- those ahead of s stand in front -/
theorem place_split : ∀ {L : List RF} (s : ByteArray), (L.map RF.name).Pairwise ltB → (∀ f ∈ L, keyR f ≠ s.data.toList) → (∀ f ∈ L.take (placeR L s), ltB f.name s) ∧ (∀ f ∈ L.drop (placeR L s), ltB s f.name)
  | [], s, _, _ => ⟨fun f hf => by simp at hf, fun f hf => by simp at hf⟩
  | a :: L, s, hp, hn => by
    rw [List.map_cons, List.pairwise_cons] at hp
    obtain ⟨h1, h2⟩ := place_split s hp.2 (fun f hf => hn f (List.mem_cons_of_mem _ hf))
    have hlt : ltR s a = true ↔ ltB a.name s := by
      unfold ltR ltB
      rw [bytesLess_eq, ByteArray.toList_eq, ByteArray.toList_eq, decide_eq_true_eq]
    by_cases hl : ltR s a = true
    · have e : placeR (a :: L) s = placeR L s + 1 := by unfold placeR; rw [List.countP_cons_of_pos hl]
      rw [e, List.take_succ_cons, List.drop_succ_cons]
      refine ⟨fun f hf => ?_, h2⟩
      rcases List.mem_cons.1 hf with rfl | hf
      · exact hlt.1 hl
      · exact h1 f hf
    · have hge : ltB s a.name := by
        have h3 : ¬ ltB a.name s := fun h => hl (hlt.2 h)
        unfold ltB at h3 ⊢
        rcases List.le_total a.name.data.toList s.data.toList with h4 | h4
        · rcases List.le_iff_lt_or_eq.1 h4 with h5 | h5
          · exact absurd h5 h3
          · exact absurd h5 (hn a List.mem_cons_self)
        · rcases List.le_iff_lt_or_eq.1 h4 with h5 | h5
          · exact h5
          · exact absurd h5.symm (hn a List.mem_cons_self)
      have hall : ∀ f ∈ L, ltB s f.name := fun f hf => List.lt_trans hge (hp.1 f.name (List.mem_map.2 ⟨f, hf, rfl⟩))
      have e : placeR (a :: L) s = 0 := by
        unfold placeR
        rw [List.countP_eq_zero]
        intro f hf hc
        have hltf : ltB f.name s := by
          unfold ltR at hc
          rw [bytesLess_eq, ByteArray.toList_eq, ByteArray.toList_eq, decide_eq_true_eq] at hc
          exact hc
        rcases List.mem_cons.1 hf with rfl | hf
        · exact lt_irr _ (List.lt_trans hltf hge)
        · exact lt_irr _ (List.lt_trans hltf (hall f hf))
      rw [e, List.take_zero, List.drop_zero]
      refine ⟨fun f hf => (by cases hf), fun f hf => ?_⟩
      rcases List.mem_cons.1 hf with rfl | hf
      · exact hge
      · exact hall f hf
theorem Tied.ins (h : Tied A L) (f : RF) (hf : f.name = s) (hn : ∀ f ∈ L, keyR f ≠ s.data.toList) : Tied (toA f :: A) (insR L s f) := by
  obtain ⟨h1, h2⟩ := place_split s h.srt hn
  have hs : ((L.take (placeR L s) ++ L.drop (placeR L s)).map RF.name).Pairwise ltB := by rw [List.take_append_drop]; exact h.srt
  rw [List.map_append, List.pairwise_append] at hs
  refine ⟨?_, ?_⟩
  · refine (h.perm.cons (toA f)).trans ?_
    have e : absR L = absR (L.take (placeR L s)) ++ absR (L.drop (placeR L s)) := (congrArg absR (List.take_append_drop (placeR L s) L).symm).trans (by simp only [absR, List.map_append])
    rw [e, insR, show absR (L.take (placeR L s) ++ f :: L.drop (placeR L s)) = absR (L.take (placeR L s)) ++ (toA f :: absR (L.drop (placeR L s))) by simp only [absR, List.map_append, List.map_cons]]
    exact List.perm_middle.symm
  · unfold insR
    rw [List.map_append, List.map_cons, List.pairwise_append, List.pairwise_cons]
    refine ⟨hs.1, ⟨fun n hn' => ?_, hs.2.1⟩, fun m hm n hn' => ?_⟩
    · obtain ⟨g, hg, rfl⟩ := List.mem_map.1 hn'
      rw [hf]
      exact h2 g hg
    · rcases List.mem_cons.1 hn' with rfl | hn'
      · obtain ⟨g, hg, rfl⟩ := List.mem_map.1 hm
        rw [hf]
        exact h1 g hg
      · exact hs.2.2 m hm n hn'
end

end Go.Proofs.Ytchedflfinkppaa

/-
  Each change keeps both disks tied, and is answered alike.
-/
namespace Go.Proofs.Ytchedflfinkppaa
open Go.RowKit Go.Maps Go.Sort Go.Shelf

/-- the power of both -/
def PwEq (p q : Pw) : Prop := p.down = q.down ∧ p.armed = q.armed ∧ (p.armed = true → p.left = q.left)
theorem PwEq.spent {p q : Pw} (h : PwEq p q) : PwEq p.spent q.spent := by
  obtain ⟨d, a, l⟩ := p
  obtain ⟨d', a', l'⟩ := q
  obtain ⟨h1, h2, h3⟩ := h
  simp only at h1 h2 h3
  subst h1 h2
  unfold Pw.spent
  cases d
  · cases a
    · exact ⟨rfl, rfl, fun e => by cases e⟩
    · obtain rfl : l = l' := h3 rfl
      exact ⟨rfl, rfl, fun _ => rfl⟩
  · exact ⟨rfl, rfl, h3⟩
theorem PwEq.arm {p q : Pw} (h : PwEq p q) (z : Int) : PwEq (p.arm z) (q.arm z) := ⟨h.1, rfl, fun _ => rfl⟩
theorem PwEq.crash (x : Int) : PwEq Pw.fresh ⟨false, false, x⟩ := ⟨rfl, rfl, fun e => by cases e⟩

section
variable {A : List AFile} {L : List RF} {s t : ByteArray} {k : Nat} {p q : Pw}
/-- where it is, on both sides -/
theorem Tied.find (h : Tied A L) (s : ByteArray) : (∃ k, ∃ hk : k < L.length, L[k].name = s ∧ L.findIdx? (fun f => decide (f.name = s)) = some k ∧ findR L s = (k : Int) ∧ findA A s.data.toList = some (toA L[k])) ∨
    ((∀ f ∈ L, keyR f ≠ s.data.toList) ∧ L.findIdx? (fun f => decide (f.name = s)) = none ∧ findR L s = -1 ∧ findA A s.data.toList = none) := by
  cases hi : L.findIdx? (fun f => decide (f.name = s)) with
  | some k =>
    obtain ⟨hk, hs⟩ := idx_some hi
    exact .inl ⟨k, hk, hs, rfl, by unfold findR; rw [hi], h.hit hk hs⟩
  | none => exact .inr ⟨idx_none hi, rfl, by unfold findR; rw [hi], h.miss (idx_none hi)⟩
theorem Tied.write (h : Tied A L) (hp : PwEq p q) (room : Nat) (s : ByteArray) (bs : List Int) :
    (writeA p room A s bs).1 = rwriteE q room L s bs.length ∧ Tied (writeA p room A s bs).2 (if rwriteE q room L s bs.length = 0 then rwriteL L s bs else L) := by
  unfold writeA rwriteE
  rw [← hp.spent.1]
  by_cases h1 : p.spent.down = true
  · rw [if_pos h1, if_pos h1, if_neg (by decide)]
    exact ⟨rfl, h⟩
  rw [if_neg h1, if_neg h1]
  by_cases h2 : IsName s
  · rw [if_neg (Classical.not_not.2 h2), if_neg (show ¬ nameB s = false by rw [nameB_yes h2]; decide)]
    rcases h.find s with ⟨k, hk, hs, hi, hf, ha⟩ | ⟨hn, hi, hf, ha⟩
    · rw [ha, h.sum, hf]
      simp only
      by_cases h3 : room < sumR L + bs.length
      · rw [if_pos h3, if_pos (show room < sumR L + bs.length ∨ ((k : Int) < 0 ∧ 16 ≤ L.length) from .inl h3), if_neg (by decide)]
        exact ⟨rfl, h⟩
      · rw [if_neg h3, if_neg (show ¬ (room < sumR L + bs.length ∨ ((k : Int) < 0 ∧ 16 ≤ L.length)) by omega), if_pos rfl]
        refine ⟨rfl, ?_⟩
        unfold rwriteL
        rw [hi]
        show Tied _ (L.set k (addF (L.getD k ⟨s, [], []⟩) bs))
        rw [getD_at hk]
        exact h.at hk (fun a => (a.1, (toA L[k]).2.1 ++ bs, (toA L[k]).2.2)) (addF L[k] bs) rfl (by simp [toA, addF]) _ rfl
    · rw [h.sum, hf, h.len, ha]
      simp only
      by_cases h3 : 16 ≤ L.length ∨ room < sumR L + bs.length
      · rw [if_pos h3, if_pos (show room < sumR L + bs.length ∨ ((-1 : Int) < 0 ∧ 16 ≤ L.length) by omega), if_neg (by decide)]
        exact ⟨rfl, h⟩
      · rw [if_neg h3, if_neg (show ¬ (room < sumR L + bs.length ∨ ((-1 : Int) < 0 ∧ 16 ≤ L.length)) by omega), if_pos rfl]
        refine ⟨rfl, ?_⟩
        unfold rwriteL
        rw [hi]
        exact h.ins ⟨s, [], bs⟩ rfl hn
  · rw [if_pos h2, if_pos (nameB_no h2), if_neg (by decide)]
    exact ⟨rfl, h⟩
theorem Tied.all (h : Tied A L) (ns : List ByteArray) : allA A ns = allR L ns := by
  unfold allA allR
  congr 1
  funext s
  rcases h.find s with ⟨k, hk, hs, hi, hf, ha⟩ | ⟨hn, hi, hf, ha⟩
  · rw [ha, hf]; simp
  · rw [ha, hf]; rfl
theorem Tied.firm1 (h : Tied A L) (s : ByteArray) : Tied (firm1A A s.data.toList) (rfirm1 L s) := by
  rcases h.find s with ⟨k, hk, hs, hi, _, _⟩ | ⟨hn, hi, _, _⟩
  · rw [rfirm1_at hk hi]
    exact h.at hk (fun a => (a.1, a.2.1, a.2.1.length)) ⟨L[k].name, L[k].firm ++ L[k].loose, []⟩ rfl (by simp [toA]) _ (by unfold keyR; rw [hs])
  · unfold rfirm1
    rw [hi]
    exact h.no _ _ hn
theorem Tied.firmL (h : Tied A L) : ∀ ns : List ByteArray, Tied (firmA A ns) (rfirmL L ns) := fun ns => by
  induction ns generalizing A L with
  | nil => exact h
  | cons s ns ih => exact ih (h.firm1 s)
theorem Tied.dropL (h : Tied A L) : ∀ ns : List ByteArray, Tied (dropsA A ns) (rdropL L ns) := fun ns => by
  induction ns generalizing A L with
  | nil => exact h
  | cons s ns ih => exact ih (h.drop1 s)
theorem Tied.firm (h : Tied A L) (hp : PwEq p q) (ns : List ByteArray) : (firmAll p A ns).1 = rfirmE q L ns ∧ Tied (firmAll p A ns).2 (if rfirmE q L ns = 0 then rfirmL L ns else L) := by
  unfold firmAll rfirmE
  rw [← hp.spent.1, h.all]
  by_cases h1 : p.spent.down = true
  · rw [if_pos h1, if_pos h1, if_neg (by decide)]
    exact ⟨rfl, h⟩
  rw [if_neg h1, if_neg h1]
  by_cases h2 : allR L ns = true
  · rw [if_pos h2, if_pos h2, if_pos rfl]
    exact ⟨rfl, h.firmL ns⟩
  · rw [if_neg h2, if_neg h2, if_neg (by decide)]
    exact ⟨rfl, h⟩
theorem Tied.drop (h : Tied A L) (hp : PwEq p q) (ns : List ByteArray) : (dropAll p A ns).1 = rdropE q L ns ∧ Tied (dropAll p A ns).2 (if rdropE q L ns = 0 then rdropL L ns else L) := by
  unfold dropAll rdropE
  rw [← hp.spent.1, h.all]
  by_cases h1 : p.spent.down = true
  · rw [if_pos h1, if_pos h1, if_neg (by decide)]
    exact ⟨rfl, h⟩
  rw [if_neg h1, if_neg h1]
  by_cases h2 : allR L ns = true
  · rw [if_pos h2, if_pos h2, if_pos rfl]
    exact ⟨rfl, h.dropL ns⟩
  · rw [if_neg h2, if_neg h2, if_neg (by decide)]
    exact ⟨rfl, h⟩
theorem Tied.swap (h : Tied A L) (hp : PwEq p q) (s t : ByteArray) : (swapA p A s t).1 = rswapE q L s t ∧ Tied (swapA p A s t).2 (if rswapE q L s t = 0 then rswapL L s t else L) := by
  unfold swapA rswapE
  rw [← hp.spent.1]
  by_cases h1 : p.spent.down = true
  · rw [if_pos h1, if_pos h1, if_neg (by decide)]
    exact ⟨rfl, h⟩
  rw [if_neg h1, if_neg h1]
  by_cases h2 : IsName t
  · rw [if_neg (Classical.not_not.2 h2), if_neg (show ¬ nameB t = false by rw [nameB_yes h2]; decide)]
    rcases h.find s with ⟨k, hk, hs, hi, hf, ha⟩ | ⟨hn, hi, hf, ha⟩
    · rw [ha, hf]
      simp only
      rw [if_neg (show ¬ (k : Int) < 0 by omega), if_pos rfl]
      refine ⟨rfl, ?_⟩
      unfold rswapL
      rw [hi]
      show Tied _ (insR (rdrop1 (rdrop1 L s) t) t ⟨t, (L.getD k ⟨s, [], []⟩).firm, []⟩)
      rw [getD_at hk]
      have h2 := (h.drop1 s).drop1 t
      have := h2.ins ⟨t, L[k].firm, []⟩ rfl (rdrop1_no _ t (h.drop1 s).srt)
      have e : toA ⟨t, L[k].firm, []⟩ = (t.data.toList, (toA L[k]).2.1.take (toA L[k]).2.2, (toA L[k]).2.2) := by simp [toA]
      rw [e] at this
      exact this
    · rw [ha, hf]
      simp only
      rw [if_pos (by decide), if_neg (by decide)]
      exact ⟨rfl, h⟩
  · rw [if_pos h2, if_pos (nameB_no h2), if_neg (by decide)]
    exact ⟨rfl, h⟩
theorem Tied.trim (h : Tied A L) (hp : PwEq p q) (s : ByteArray) (z : Int) : (trimA p A s z).1 = rtrimE q L s z ∧ Tied (trimA p A s z).2 (if rtrimE q L s z = 0 then rtrimL L s z else L) := by
  unfold trimA rtrimE rtrimL
  rw [← hp.spent.1]
  by_cases h1 : p.spent.down = true
  · rw [if_pos h1, if_pos h1, if_neg (by decide)]
    exact ⟨rfl, h⟩
  rw [if_neg h1, if_neg h1]
  rcases h.find s with ⟨k, hk, hs, hi, hf, ha⟩ | ⟨hn, hi, hf, ha⟩
  · rw [ha, hi]
    simp only
    rw [getD_at hk]
    have hsz : (toA L[k]).2.1.length = L[k].size := by simp [toA, RF.size]
    rw [hsz]
    by_cases h2 : z < 0 ∨ ((L[k].size : Nat) : Int) < z
    · rw [if_pos h2, if_pos h2, if_neg (by decide)]
      exact ⟨rfl, h⟩
    · rw [if_neg h2, if_neg h2, if_pos rfl]
      refine ⟨rfl, ?_⟩
      refine h.at hk (fun a => (a.1, (toA L[k]).2.1.take z.toNat, min (toA L[k]).2.2 z.toNat)) (trimF L[k] z.toNat) (by unfold trimF; split <;> rfl) ?_ _ rfl
      unfold trimF toA
      by_cases h3 : z.toNat ≤ L[k].firm.length
      · rw [if_pos h3]
        simp [List.take_append_of_le_length h3, h3]
      · rw [if_neg h3]
        have h4 : L[k].firm.length ≤ z.toNat := by omega
        simp [List.take_append, List.take_of_length_le h4, h4]
  · rw [ha, hi]
    simp only
    rw [if_neg (by decide)]
    exact ⟨by trivial, h⟩
theorem Tied.srtA (h : Tied A L) : srtA A = L.map keyR := by
  show (A.map Prod.fst).mergeSort leB = _
  have h1 : (A.map Prod.fst).Perm (L.map keyR) := by
    have := h.perm.map Prod.fst
    rw [absR, List.map_map] at this
    exact this
  rw [mergeSort_of_perm h1]
  refine List.mergeSort_of_pairwise ?_
  have h2 := List.pairwise_map.1 h.srt
  refine List.pairwise_map.2 (h2.imp fun {a b} hab => ?_)
  unfold ltB at hab
  simp only [leB, decide_eq_true_eq]
  exact List.le_of_lt hab
theorem Tied.names (h : Tied A L) : namesA A = L.map RF.name := by
  unfold namesA
  rw [h.srtA, List.map_map]
  refine List.map_congr_left fun f _ => ?_
  exact data_inj (keyB_data (keyR f))
theorem Tied.crashK (h : Tied A L) (keep : List Int) : ∀ k, k ≤ L.length → Tied (crT A (L.map keyR) keep k) (rcrL L keep k) ∧ (rcrL L keep k).map RF.name = L.map RF.name
  | 0, _ => ⟨h, rfl⟩
  | k + 1, hk => by
    obtain ⟨ih, hn⟩ := Tied.crashK h keep k (by omega)
    have hl : (rcrL L keep k).length = L.length := rcrL_len L keep k
    have hk' : k < (rcrL L keep k).length := by omega
    rw [crT_succ, rcrL_succ, List.getD_eq_getElem?_getD (l := rcrL L keep k), List.getElem?_eq_getElem hk']
    have hname : (rcrL L keep k)[k].name = L[k].name := by
      have h1 : ((rcrL L keep k).map RF.name)[k]? = (L.map RF.name)[k]? := by rw [hn]
      rw [List.getElem?_map, List.getElem?_map, List.getElem?_eq_getElem hk', List.getElem?_eq_getElem (by omega : k < L.length)] at h1
      simpa using h1
    have hx : (L.map keyR).getD k [] = keyR (rcrL L keep k)[k] := by
      rw [List.getD_eq_getElem?_getD, List.getElem?_map, List.getElem?_eq_getElem (by omega : k < L.length)]
      show keyR L[k] = _
      unfold keyR
      rw [hname]
    refine ⟨ih.at hk' (cr0 k keep) (rcr1 keep k (rcrL L keep k)[k]) rfl ?_ _ hx, ?_⟩
    · generalize (rcrL L keep k)[k] = f
      unfold rcr1 cr0 toA keepN
      simp [List.take_append, List.take_of_length_le]
    · show ((rcrL L keep k).set k (rcr1 keep k (rcrL L keep k)[k])).map RF.name = _
      rw [names_set hk' (rcr1 keep k (rcrL L keep k)[k]) rfl, hn]
theorem Tied.crash (h : Tied A L) (keep : List Int) : Tied (crashA A keep) (rcrL L keep L.length) := by
  unfold crashA
  rw [h.srtA, h.len]
  exact (h.crashK keep _ (Nat.le_refl _)).1
theorem Tied.loose (h : Tied A L) (hk : k < L.length) : looseA A (keyR L[k]) = L[k].loose.length := by
  unfold looseA
  have := h.hit hk rfl
  unfold keyR
  rw [this]
  simp [toA]
theorem Tied.empty : Tied [] [] := ⟨List.Perm.nil, List.Pairwise.nil⟩
end

end Go.Proofs.Ytchedflfinkppaa
