/- What follows of kinds of texts: names are hosts, hosts are patterns, no path is; beginnings and ends. Plain words that name no function of the program. -/
import Derived.Test.YtnjacobimndnbaaNstar
namespace Go.Proofs.Ytnjacobimndnbaa
open Go.RowKit
set_option linter.unusedVariables false

theorem wordI_dot {n : Int} (h : wordI n = true) : n ≠ 46 := by
  intro e; subst e; exact absurd h (by decide)

theorem kindL_cons {m : Nat} {f g : Int → Bool} {l : List UInt8} (h : kindL m f g l = true) : ∃ c cs, l = c :: cs ∧ cs.length + 1 ≤ m ∧ f (c.toNat : Int) = true ∧ ∀ x ∈ cs, g (x.toNat : Int) = true := by
  cases l with
  | nil => cases h
  | cons c cs =>
    simp only [kindL, Bool.and_eq_true, decide_eq_true_eq, List.all_eq_true] at h
    exact ⟨c, cs, rfl, h.1.1, h.1.2, h.2⟩
theorem kindL_mk {m : Nat} {f g : Int → Bool} {c : UInt8} {cs : List UInt8} (h1 : cs.length + 1 ≤ m) (h2 : f (c.toNat : Int) = true) (h3 : ∀ x ∈ cs, g (x.toNat : Int) = true) : kindL m f g (c :: cs) = true := by
  simp only [kindL, Bool.and_eq_true, decide_eq_true_eq, List.all_eq_true]
  exact ⟨⟨h1, h2⟩, h3⟩

theorem name_host (s : ByteArray) (h : nameB s = true) : hostB s = true := by
  rw [hostB_list]
  have h' : kindL 16 lowI wordI s.data.toList = true := h
  obtain ⟨c, cs, e, hl, hc, hx⟩ := kindL_cons h'
  have hw : partsL 46 s.data.toList = [s.data.toList] := partsL_whole 46 _ fun x hx' => by
    rw [e] at hx'
    rcases List.mem_cons.1 hx' with rfl | hx'
    · exact wordI_dot (by simp [wordI, hc])
    · exact wordI_dot (hx x hx')
  rw [hw]
  have : decide (s.data.toList.length ≤ 32) = true := decide_eq_true (by rw [e, List.length_cons]; omega)
  rw [this]
  simp [h']

theorem host_head {s : ByteArray} (h : hostB s = true) : ∃ c cs, s.data.toList = c :: cs ∧ lowI (c.toNat : Int) = true := by
  rw [hostB_list, Bool.and_eq_true] at h
  obtain ⟨_, h⟩ := h
  revert h
  cases s.data.toList with
  | nil => intro h; cases h
  | cons c cs =>
    intro h
    refine ⟨c, cs, rfl, ?_⟩
    by_cases hc : (c.toNat : Int) = 46
    · rw [partsL_hit _ hc] at h; cases h
    · rw [partsL_miss _ hc] at h
      revert h
      cases partsL 46 cs with
      | nil =>
        intro h
        simp only [prep, List.all_cons, Bool.and_eq_true] at h
        obtain ⟨c', cs', e, _, h2, _⟩ := kindL_cons h.1
        cases e; exact h2
      | cons p ps =>
        intro h
        simp only [prep, List.all_cons, Bool.and_eq_true] at h
        obtain ⟨c', cs', e, _, h2, _⟩ := kindL_cons h.1
        simp at e
        rw [e.1]; exact h2

theorem tail_head {s : ByteArray} (h : tailB s = true) : ∃ cs, s.data.toList = 42 :: 46 :: cs := by
  unfold tailB at h
  rw [Bool.and_eq_true, beq_iff_eq, toList_data, extract_list, List.drop_zero] at h
  refine ⟨s.data.toList.drop 2, ?_⟩
  have := List.take_append_drop 2 s.data.toList
  rw [h.2] at this
  exact this.symm

theorem tail_not {s : ByteArray} {c : UInt8} {cs : List UInt8} (h : s.data.toList = c :: cs) (hc : c ≠ 42) : tailB s = false := by
  rw [Bool.eq_false_iff]
  intro ht
  obtain ⟨cs', e⟩ := tail_head ht
  rw [h] at e
  exact hc (List.cons.inj e).1
theorem trim_not {s : ByteArray} (h : tailB s = false) : trimB s = s := by rw [trimB, h, cond_false]
theorem low_ne {c : UInt8} (h : lowI (c.toNat : Int) = true) : c ≠ 42 := by
  intro e; subst e; exact absurd h (by decide)

theorem host_pattern (s : ByteArray) (h : hostB s = true) : patternB s = true := by
  obtain ⟨c, cs, e, hc⟩ := host_head h
  rw [patternB, trim_not (tail_not e (low_ne hc)), h, Bool.or_true]

theorem path_head {s : ByteArray} (h : pathB s = true) : ∃ cs, s.data.toList = 47 :: cs := by
  obtain ⟨c, cs, e, _, hc, _⟩ := kindL_cons (show kindL 32 slashI pathI s.data.toList = true from h)
  refine ⟨cs, ?_⟩
  have : (c.toNat : Int) = 47 := of_decide_eq_true hc
  have hc' : c = 47 := UInt8.toNat_inj.1 (by have : c.toNat = 47 := by omega
                                             rw [this]; rfl)
  rw [e, hc']

theorem path_pattern (s : ByteArray) (h : pathB s = true) : patternB s = false := by
  obtain ⟨cs, e⟩ := path_head h
  have h1 : (s.toList == [42]) = false := by
    rw [beq_eq_false_iff_ne, toList_data, e]
    intro e'
    exact absurd (List.cons.inj e').1 (by decide)
  have h2 : hostB s = false := by
    rw [Bool.eq_false_iff]
    intro hh
    obtain ⟨c, cs', e', hc⟩ := host_head hh
    rw [e] at e'
    rw [← (List.cons.inj e').1] at hc
    exact absurd hc (by decide)
  rw [patternB, trim_not (tail_not e (by decide)), h1, h2]
  rfl

theorem append_list (a b : ByteArray) : (a ++ b).data.toList = a.data.toList ++ b.data.toList := by
  rw [ByteArray.data_append, Array.toList_append]
theorem ext_list {a b : ByteArray} (h : a.data.toList = b.data.toList) : a = b := by
  cases a; cases b
  congr
  exact Array.toList_inj.1 h

theorem tail_pattern (s : ByteArray) : patternB (⟨#[42, 46]⟩ ++ s) = hostB s := by
  have hl : ((⟨#[42, 46]⟩ : ByteArray) ++ s).data.toList = 42 :: 46 :: s.data.toList := append_list _ _
  have hs : ((⟨#[42, 46]⟩ : ByteArray) ++ s).size = s.size + 2 := by
    have := size_list ((⟨#[42, 46]⟩ : ByteArray) ++ s)
    rw [hl] at this
    have h2 := size_list s
    simp at this h2 ⊢
    omega
  have ht : tailB (⟨#[42, 46]⟩ ++ s) = true := by
    rw [tailB, hs, toList_data, extract_list, hl]
    simp
  have h1 : ((⟨#[42, 46]⟩ ++ s : ByteArray).toList == [42]) = false := by
    rw [beq_eq_false_iff_ne, toList_data, hl]
    intro e
    exact absurd (List.cons.inj e).2 (by simp)
  have he : (⟨#[42, 46]⟩ ++ s : ByteArray).extract 2 (⟨#[42, 46]⟩ ++ s : ByteArray).size = s := ext_list (by
    rw [extract_list, hl, hs, List.take_of_length_le (by simp)]
    rfl)
  rw [patternB, h1, trimB, ht, cond_true, he, Bool.false_or]

theorem path_more (s : ByteArray) (h : pathB s = true) (hs : s.size ≠ 32) : pathB (s ++ ⟨#[47]⟩) = true := by
  obtain ⟨c, cs, e, hl, hc, hx⟩ := kindL_cons (show kindL 32 slashI pathI s.data.toList = true from h)
  show kindL 32 slashI pathI (s ++ ⟨#[47]⟩ : ByteArray).data.toList = true
  have h2 := size_list s
  rw [e, List.length_cons] at h2
  rw [append_list, e]
  refine kindL_mk ?_ hc fun x hx' => ?_
  · simp; omega
  · rcases List.mem_append.1 hx' with hx' | hx'
    · exact hx x hx'
    · simp at hx'; subst hx'; decide

/-! Beginnings and ends. -/
theorem kind_take {m : Nat} {f g : Int → Bool} {l : List UInt8} (h : kindL m f g l = true) {n : Nat} (hn : 1 ≤ n) : kindL m f g (l.take n) = true := by
  obtain ⟨c, cs, rfl, hl, hc, hx⟩ := kindL_cons h
  obtain ⟨k, rfl⟩ : ∃ k, n = k + 1 := ⟨n - 1, by omega⟩
  rw [List.take_succ_cons]
  exact kindL_mk (by rw [List.length_take]; omega) hc fun x hx' => hx x (List.mem_of_mem_take hx')
theorem name_take (s : ByteArray) {n : Nat} (h : nameB s = true) (hn : 1 ≤ n) : nameB (s.extract 0 n) = true := by
  show kindL 16 lowI wordI (s.extract 0 n).data.toList = true
  rw [extract_list, List.drop_zero]
  exact kind_take h hn
theorem path_take (s : ByteArray) {n : Nat} (h : pathB s = true) (hn : 1 ≤ n) : pathB (s.extract 0 n) = true := by
  show kindL 32 slashI pathI (s.extract 0 n).data.toList = true
  rw [extract_list, List.drop_zero]
  exact kind_take h hn
theorem host_cut (s : ByteArray) {k : Nat} (hk : k < s.size) (h : hostB s = true) (hd : (s[k].toNat : Int) = 46) : hostB (s.extract (k + 1) s.size) = true ∧ hostB (s.extract 0 k) = true := by
  have hl : k < s.data.toList.length := by rw [size_list]; exact hk
  have e : s.data.toList = s.data.toList.take k ++ s[k] :: s.data.toList.drop (k + 1) := by
    rw [show s[k] = s.data.toList[k] from rfl, ← List.drop_eq_getElem_cons hl, List.take_append_drop]
  have h1 : (s.extract (k + 1) s.size).data.toList = s.data.toList.drop (k + 1) := by
    rw [extract_list, List.take_of_length_le (by rw [size_list]; exact Nat.le_refl _)]
  have h2 : (s.extract 0 k).data.toList = s.data.toList.take k := by rw [extract_list, List.drop_zero]
  rw [hostB_list, Bool.and_eq_true, decide_eq_true_eq] at h
  obtain ⟨hn, ha⟩ := h
  rw [e, partsL_split 46 _ hd, List.all_append, Bool.and_eq_true] at ha
  constructor
  · rw [hostB_list, h1, ha.2, Bool.and_true]
    exact decide_eq_true (by rw [List.length_drop]; omega)
  · rw [hostB_list, h2, ha.1, Bool.and_true]
    exact decide_eq_true (by rw [List.length_take]; omega)
end Go.Proofs.Ytnjacobimndnbaa
