/- When a configuration passes: plain words and what follows of them. -/
import Derived.Test.YtmjdamcbdclgpaaM2
import Derived.Test.YtmjdamcbdclgpaaCrc
import Derived.Test.YtmjdamcbdclgpaaCrr
namespace Go.Proofs.Ytmjdamcbdclgpaa
open Go.RowKit
set_option linter.unusedVariables false
set_option linter.unusedSimpArgs false

section
variable {ls : List ByteArray} {rs : List Rt} {cs : List Cl}
theorem check_ok : (checkI ls rs cs).1 = 0 ↔ fitsB ls rs cs = true ∧ (∀ j, j < ls.length → errI (asksL ls) j = 0) ∧ (∀ j, j < cs.length → errI (asksC cs) j = 0) ∧ (∀ j, j < rs.length → errI (asksR ls rs cs) j = 0) := by
  unfold checkI
  cases fitsB ls rs cs with
  | false => simp
  | true => rw [cond_true, thenI_ok, thenI_ok, kind_ok, kind_ok, kind_ok]; simp
theorem check_zero (h : (checkI ls rs cs).1 = 0) : checkI ls rs cs = (0, 0) := by
  obtain ⟨h1, h2, h3, h4⟩ := check_ok.1 h
  unfold checkI
  rw [h1, cond_true, kind_none h2, kind_none h3, kind_none h4]
  rfl
end

/-! Twice in a list. -/
theorem pairwise_take {α : Type} {p : α → α → Bool} {l : List α} : (∀ (j : Nat) (h : j < l.length), (l.take j).any (fun o => p o l[j]) = false) ↔ l.Pairwise (fun o r => p o r = false) := by
  rw [List.pairwise_iff_getElem]
  constructor
  · intro h i j hi hj hij
    have := List.any_eq_false.1 (h j hj) l[i] (List.mem_iff_getElem.2 ⟨i, by rw [List.length_take]; omega, by rw [List.getElem_take]⟩)
    simpa using this
  · intro h j hj
    rw [List.any_eq_false]
    intro x hx
    obtain ⟨i, hi, rfl⟩ := List.mem_iff_getElem.1 hx
    rw [List.length_take] at hi
    rw [List.getElem_take]
    simpa using h i j (by omega) hj (by omega)
theorem pairwise_rev {α : Type} {p : α → α → Bool} (hp : ∀ a b, p a b = p b a) {l : List α} (h : l.Pairwise (fun o r => p o r = false)) : l.reverse.Pairwise (fun o r => p o r = false) := by
  rw [List.pairwise_reverse]
  exact h.imp fun {a b} hab => by rw [hp]; exact hab

theorem eqB_swap (a b : ByteArray) : eqB a b = eqB b a := eqB_comm a b
theorem eqB_self (a : ByteArray) : eqB a a = true := by simp [eqB]
theorem alike_swap (a b : Rt) : alikeB a b = alikeB b a := by unfold alikeB; rw [eqB_comm a.listen, eqB_comm a.host, eqB_comm a.path]
theorem alike_self (a : Rt) : alikeB a a = true := by simp [alikeB, eqB_self]

/-- The parts of one kind, each told by itself, and none twice. -/
theorem okL_iff {ls : List ByteArray} : (∀ j, j < ls.length → errI (asksL ls) j = 0) ↔ (∀ x ∈ ls, nameB x = true) ∧ ls.Pairwise (fun o r => eqB r o = false) := by
  have key : ∀ j (h : j < ls.length), errI (asksL ls) j = 0 ↔ nameB ls[j] = true ∧ (ls.take j).any (fun o => eqB ls[j] o) = false := fun j h => by
    rw [errI_zero]
    simp only [asksL, List.mem_cons, List.not_mem_nil, or_false, forall_eq_or_imp, forall_eq, lName, lOnce]
    rw [unlessI_zero (by decide), unlessI_zero (by decide), lAt_get h, Bool.not_eq_true']
    rfl
  rw [← pairwise_take (p := fun (o r : ByteArray) => eqB r o)]
  constructor
  · intro h
    exact ⟨fun x hx => by obtain ⟨j, hj, rfl⟩ := List.getElem_of_mem hx; exact ((key j hj).1 (h j hj)).1, fun j hj => ((key j hj).1 (h j hj)).2⟩
  · exact fun ⟨h1, h2⟩ j hj => (key j hj).2 ⟨h1 _ (List.getElem_mem hj), h2 j hj⟩
def goodC (x : Cl) : Bool := nameB x.name && ((x.policy == 1 || x.policy == 2) && (withinB x.slots 4 && withinB x.hn 4))
theorem okC_iff {cs : List Cl} : (∀ j, j < cs.length → errI (asksC cs) j = 0) ↔ (∀ x ∈ cs, goodC x = true) ∧ cs.Pairwise (fun o r => eqB o.name r.name = false) := by
  have key : ∀ j (h : j < cs.length), errI (asksC cs) j = 0 ↔ goodC cs[j] = true ∧ (cs.take j).any (fun o => eqB o.name cs[j].name) = false := fun j h => by
    rw [errI_zero]
    simp only [asksC, List.mem_cons, List.not_mem_nil, or_false, forall_eq_or_imp, forall_eq, cName, cOnce, cPolicy, cSlots, cHealth, goodC, Bool.and_eq_true]
    rw [unlessI_zero (by decide), unlessI_zero (by decide), unlessI_zero (by decide), unlessI_zero (by decide), unlessI_zero (by decide), cAt_get h, Bool.not_eq_true']
    constructor
    · exact fun ⟨h1, h2, h3, h4, h5⟩ => ⟨⟨h1, h3, h4, h5⟩, h2⟩
    · exact fun ⟨⟨h1, h3, h4, h5⟩, h2⟩ => ⟨h1, h2, h3, h4, h5⟩
  rw [← pairwise_take (p := fun (o r : Cl) => eqB o.name r.name)]
  constructor
  · intro h
    exact ⟨fun x hx => by obtain ⟨j, hj, rfl⟩ := List.getElem_of_mem hx; exact ((key j hj).1 (h j hj)).1, fun j hj => ((key j hj).1 (h j hj)).2⟩
  · exact fun ⟨h1, h2⟩ j hj => (key j hj).2 ⟨h1 _ (List.getElem_mem hj), h2 j hj⟩
def goodR (ls : List ByteArray) (cs : List Cl) (r : Rt) : Bool := hasL ls r.listen && (patternB r.host && (pathB r.path && hasC cs r.cluster))
theorem okR_iff {ls : List ByteArray} {rs : List Rt} {cs : List Cl} : (∀ j, j < rs.length → errI (asksR ls rs cs) j = 0) ↔ (∀ x ∈ rs, goodR ls cs x = true) ∧ rs.Pairwise (fun o r => alikeB o r = false) := by
  have key : ∀ j (h : j < rs.length), errI (asksR ls rs cs) j = 0 ↔ goodR ls cs rs[j] = true ∧ (rs.take j).any (fun o => alikeB o rs[j]) = false := fun j h => by
    rw [errI_zero]
    simp only [asksR, List.mem_cons, List.not_mem_nil, or_false, forall_eq_or_imp, forall_eq, rListen, rHost, rPath, rCluster, rOnce, goodR, Bool.and_eq_true]
    rw [unlessI_zero (by decide), unlessI_zero (by decide), unlessI_zero (by decide), unlessI_zero (by decide), unlessI_zero (by decide), rAt_get h, Bool.not_eq_true']
    constructor
    · exact fun ⟨h1, h2, h3, h4, h5⟩ => ⟨⟨h1, h2, h3, h4⟩, h5⟩
    · exact fun ⟨⟨h1, h2, h3, h4⟩, h5⟩ => ⟨h1, h2, h3, h4, h5⟩
  rw [← pairwise_take (p := fun (o r : Rt) => alikeB o r)]
  constructor
  · intro h
    exact ⟨fun x hx => by obtain ⟨j, hj, rfl⟩ := List.getElem_of_mem hx; exact ((key j hj).1 (h j hj)).1, fun j hj => ((key j hj).1 (h j hj)).2⟩
  · exact fun ⟨h1, h2⟩ j hj => (key j hj).2 ⟨h1 _ (List.getElem_mem hj), h2 j hj⟩

/-- All that a configuration that passes is. -/
structure Good (ls : List ByteArray) (rs : List Rt) (cs : List Cl) : Prop where
  fits : fitsB ls rs cs = true
  l : ∀ x ∈ ls, nameB x = true
  l2 : ls.Pairwise (fun o r => eqB r o = false)
  c : ∀ x ∈ cs, goodC x = true
  c2 : cs.Pairwise (fun o r => eqB o.name r.name = false)
  r : ∀ x ∈ rs, goodR ls cs x = true
  r2 : rs.Pairwise (fun o r => alikeB o r = false)
theorem good_iff {ls : List ByteArray} {rs : List Rt} {cs : List Cl} : (checkI ls rs cs).1 = 0 ↔ Good ls rs cs := by
  rw [check_ok, okL_iff, okC_iff, okR_iff]
  exact ⟨fun ⟨h, ⟨a, b⟩, ⟨c, d⟩, e, f⟩ => ⟨h, a, b, c, d, e, f⟩, fun g => ⟨g.fits, ⟨g.l, g.l2⟩, ⟨g.c, g.c2⟩, g.r, g.r2⟩⟩

theorem within_iff {n m : Int} : withinB n m = true ↔ 1 ≤ n ∧ n ≤ m := by simp [withinB]
theorem fits_iff {ls : List ByteArray} {rs : List Rt} {cs : List Cl} : fitsB ls rs cs = true ↔ (1 ≤ ls.length ∧ ls.length ≤ 4) ∧ (1 ≤ rs.length ∧ rs.length ≤ 8) ∧ (1 ≤ cs.length ∧ cs.length ≤ 4) := by
  unfold fitsB
  rw [Bool.and_eq_true, Bool.and_eq_true, within_iff, within_iff, within_iff]
  omega

/-! What follows. -/
section
variable {ls : List ByteArray} {rs : List Rt} {cs : List Cl}
theorem good_less (g : Good ls rs cs) (h : 2 ≤ rs.length) : Good ls (rs.take (rs.length - 1)) cs := by
  have f := fits_iff.1 g.fits
  exact ⟨fits_iff.2 (by rw [List.length_take]; omega), g.l, g.l2, g.c, g.c2, fun x hx => g.r x (List.mem_of_mem_take hx), g.r2.sublist (List.take_sublist _ _)⟩
theorem any_rev {α : Type} (p : α → Bool) (l : List α) : l.reverse.any p = l.any p := by simp
theorem good_rev (g : Good ls rs cs) : Good ls.reverse rs.reverse cs.reverse := by
  have f := fits_iff.1 g.fits
  exact ⟨fits_iff.2 (by simpa using f), fun x hx => g.l x (by simpa using hx), pairwise_rev (p := fun (o r : ByteArray) => eqB r o) (fun a b => eqB_comm b a) g.l2, fun x hx => g.c x (by simpa using hx),
    pairwise_rev (p := fun (o r : Cl) => eqB o.name r.name) (fun a b => eqB_comm _ _) g.c2, fun x hx => by
      have := g.r x (by simpa using hx)
      unfold goodR hasL hasC at this ⊢
      rwa [any_rev, any_rev], pairwise_rev (p := fun (o r : Rt) => alikeB o r) alike_swap g.r2⟩
theorem good_rev_iff : Good ls.reverse rs.reverse cs.reverse ↔ Good ls rs cs := ⟨fun g => by have := good_rev g; simpa using this, good_rev⟩

/-- A listener that is there twice. -/
theorem twice_l (g : Good ls rs cs) {x : ByteArray} (hx : x ∈ ls) : checkI (ls ++ [x]) rs cs = if ls.length = 4 then (6, 0) else (4, (ls.length : Int)) := by
  have f := fits_iff.1 g.fits
  by_cases h4 : ls.length = 4
  · rw [if_pos h4]
    have : fitsB (ls ++ [x]) rs cs = false := by
      rw [Bool.eq_false_iff]
      intro hf
      have := (fits_iff.1 hf).1.2
      simp at this
      omega
    rw [checkI, this]
    rfl
  · rw [if_neg h4]
    have hf : fitsB (ls ++ [x]) rs cs = true := fits_iff.2 (by rw [List.length_append, List.length_singleton]; omega)
    have hk : kindI3 (asksL (ls ++ [x])) (ls ++ [x]).length = (4, (ls.length : Int)) := by
      refine kind_at (by simp) (fun j hj => ?_) (errL_twice ?_ ?_) (by decide)
      · have := okL_iff.2 ⟨g.l, g.l2⟩ j hj
        rw [errI_zero] at this ⊢
        intro a ha
        simp only [asksL, List.mem_cons, List.not_mem_nil, or_false] at ha
        have e1 : lAt (ls ++ [x]) j = lAt ls j := by rw [lAt_get (by simp; omega), lAt_get hj, List.getElem_append_left]
        have e2 : (ls ++ [x]).take j = ls.take j := List.take_append_of_le_length (by omega)
        rcases ha with rfl | rfl
        · have := this (lName ls) (by simp [asksL])
          rwa [lName, e1]
        · have := this (lOnce ls) (by simp [asksL])
          rwa [lOnce, e1, e2]
      · rw [lAt_get (by simp)]
        simpa using g.l x hx
      · rw [lAt_get (by simp), List.take_left]
        simp only [List.getElem_concat_length]
        exact List.any_eq_true.2 ⟨x, hx, eqB_self x⟩
    rw [checkI, hf, cond_true, hk]
    rfl
/-- A route that is there twice. -/
theorem twice_r (g : Good ls rs cs) {x : Rt} (hx : x ∈ rs) : checkI ls (rs ++ [x]) cs = if rs.length = 8 then (6, 0) else (4, (rs.length : Int)) := by
  have f := fits_iff.1 g.fits
  by_cases h4 : rs.length = 8
  · rw [if_pos h4]
    have : fitsB ls (rs ++ [x]) cs = false := by
      rw [Bool.eq_false_iff]
      intro hf
      have := (fits_iff.1 hf).2.1.2
      simp at this
      omega
    rw [checkI, this]
    rfl
  · rw [if_neg h4]
    have hf : fitsB ls (rs ++ [x]) cs = true := fits_iff.2 (by rw [List.length_append, List.length_singleton]; omega)
    have hk : kindI3 (asksR ls (rs ++ [x]) cs) (rs ++ [x]).length = (4, (rs.length : Int)) := by
      have gx := g.r x hx
      unfold goodR at gx
      simp only [Bool.and_eq_true] at gx
      have ex : rAt (rs ++ [x]) rs.length = x := by rw [rAt_get (by simp)]; simp
      refine kind_at (by simp) (fun j hj => ?_) (errR_twice ex gx.1 gx.2.1 gx.2.2.1 gx.2.2.2 ?_) (by decide)
      · have := okR_iff.2 ⟨g.r, g.r2⟩ j hj
        rw [errI_zero] at this ⊢
        intro a ha
        simp only [asksR, List.mem_cons, List.not_mem_nil, or_false] at ha
        have e1 : rAt (rs ++ [x]) j = rAt rs j := by rw [rAt_get (by simp; omega), rAt_get hj, List.getElem_append_left]
        have e2 : (rs ++ [x]).take j = rs.take j := List.take_append_of_le_length (by omega)
        rcases ha with rfl | rfl | rfl | rfl | rfl
        · have := this (rListen ls rs) (by simp [asksR])
          rwa [rListen, e1]
        · have := this (rHost rs) (by simp [asksR])
          rwa [rHost, e1]
        · have := this (rPath rs) (by simp [asksR])
          rwa [rPath, e1]
        · have := this (rCluster cs rs) (by simp [asksR])
          rwa [rCluster, e1]
        · have := this (rOnce rs) (by simp [asksR])
          rwa [rOnce, e1, e2]
      · rw [List.take_left]
        exact List.any_eq_true.2 ⟨x, hx, alike_self x⟩
    rw [checkI, hf, cond_true, kind_none (okL_iff.2 ⟨g.l, g.l2⟩), kind_none (okC_iff.2 ⟨g.c, g.c2⟩), hk]
    rfl
end
end Go.Proofs.Ytmjdamcbdclgpaa
