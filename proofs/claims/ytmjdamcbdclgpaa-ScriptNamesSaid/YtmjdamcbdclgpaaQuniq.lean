/- Names: no two the same, and the first configuration's ahead of all. No word of the program. -/
import Derived.Test.YtmjdamcbdclgpaaQlaw3
namespace Go.Proofs.Ytmjdamcbdclgpaa
open Go.RowKit
set_option linter.unusedVariables false
set_option linter.unusedSimpArgs false

def Uniq (l : List ByteArray) : Prop := l.Pairwise (fun o r => eqB r o = false)
theorem uniq_snoc {out : List ByteArray} {x : ByteArray} (h : Uniq out) (hx : hasL out x = false) : Uniq (out ++ [x]) := by
  unfold Uniq
  rw [List.pairwise_append]
  refine ⟨h, by simp, fun a ha b hb => ?_⟩
  rw [List.mem_singleton] at hb
  subst hb
  have := List.any_eq_false.1 hx a ha
  simpa using this
theorem addL_uniq {out l : List ByteArray} (h : Uniq out) : Uniq (addL out l) := by
  induction l generalizing out with
  | nil => exact h
  | cons x l ih =>
    show Uniq (addL (bif hasL out x then out else out ++ [x]) l)
    cases hh : hasL out x with
    | true => exact ih h
    | false => exact ih (uniq_snoc h hh)
theorem addL_front (out l : List ByteArray) : ∃ t, addL out l = out ++ t := by
  induction l generalizing out with
  | nil => exact ⟨[], by simp [addL]⟩
  | cons x l ih =>
    show ∃ t, addL (bif hasL out x then out else out ++ [x]) l = out ++ t
    cases hasL out x with
    | true => exact ih out
    | false =>
      obtain ⟨t, ht⟩ := ih (out ++ [x])
      exact ⟨x :: t, by rw [cond_false, ht, List.append_assoc]; rfl⟩
theorem addL_all {out l : List ByteArray} (h : Uniq (out ++ l)) : addL out l = out ++ l := by
  induction l generalizing out with
  | nil => simp [addL]
  | cons x l ih =>
    show addL (bif hasL out x then out else out ++ [x]) l = out ++ x :: l
    have hx : hasL out x = false := by
      unfold hasL
      rw [List.any_eq_false]
      intro a ha
      have := (List.pairwise_append.1 h).2.2 a ha x (List.mem_cons_self ..)
      rw [this]
      exact Bool.false_ne_true
    rw [hx, cond_false, ih (by rw [List.append_assoc]; exact h), List.append_assoc]
    rfl
theorem opNames_uniq {out : List ByteArray} {o : Opn} (h : Uniq out) : Uniq (opNames out o) ∧ ∃ t, opNames out o = out ++ t := by
  unfold opNames
  cases ((o.kind == 3) && ((checkI o.cfg.ls o.cfg.rs o.cfg.cs).1 == 0))
  · exact ⟨h, [], by simp⟩
  · exact ⟨addL_uniq h, addL_front _ _⟩
theorem thrNames_uniq {os : List Opn} {out : List ByteArray} (h : Uniq out) : Uniq (os.foldl opNames out) ∧ ∃ t, os.foldl opNames out = out ++ t := by
  induction os generalizing out with
  | nil => exact ⟨h, [], by simp⟩
  | cons o os ih =>
    obtain ⟨h1, t1, e1⟩ := opNames_uniq (o := o) h
    obtain ⟨h2, t2, e2⟩ := ih h1
    refine ⟨h2, t1 ++ t2, ?_⟩
    rw [List.foldl_cons, e2, e1, List.append_assoc]
theorem scrNames_uniq (s : Scr) : Uniq (scrNames s) ∧ ∃ t, scrNames s = addL [] s.first.ls ++ t := by
  have key : ∀ (ts : List Thr) (out : List ByteArray), Uniq out → Uniq (ts.foldl thrNames out) ∧ ∃ t, ts.foldl thrNames out = out ++ t := by
    intro ts
    induction ts with
    | nil => exact fun out h => ⟨h, [], by simp⟩
    | cons t ts ih =>
      intro out h
      obtain ⟨h1, t1, e1⟩ := thrNames_uniq (os := t.os) h
      obtain ⟨h2, t2, e2⟩ := ih (thrNames out t) h1
      refine ⟨h2, t1 ++ t2, ?_⟩
      rw [List.foldl_cons, e2]
      have e3 : thrNames out t = out ++ t1 := e1
      rw [e3, List.append_assoc]
  exact key s.ts _ (addL_uniq List.Pairwise.nil)
/-- The first configuration's names are ahead of all, if it passes. -/
theorem names_front {s : Scr} (h : (checkI s.first.ls s.first.rs s.first.cs).1 = 0) : s.first.ls.length ≤ (scrNames s).length ∧ (scrNames s).take s.first.ls.length = s.first.ls := by
  obtain ⟨_, t, e⟩ := scrNames_uniq s
  have g := good_iff.1 h
  rw [addL_all (out := []) (by rw [List.nil_append]; exact g.l2), List.nil_append] at e
  rw [e]
  exact ⟨by simp, by simp⟩
theorem names_apart {s : Scr} {i k : Nat} (hk : k < i) (hi : i < (scrNames s).length) : eqB (scrNames s)[i] (scrNames s)[k] = false :=
  List.pairwise_iff_getElem.1 (scrNames_uniq s).1 k i (by omega) hi hk
theorem ok_first {s : Scr} (h : scrOk s = true) : (checkI s.first.ls s.first.rs s.first.cs).1 = 0 := by
  unfold scrOk at h
  simp only [Bool.and_eq_true, beq_iff_eq] at h
  exact h.1.1
end Go.Proofs.Ytmjdamcbdclgpaa
