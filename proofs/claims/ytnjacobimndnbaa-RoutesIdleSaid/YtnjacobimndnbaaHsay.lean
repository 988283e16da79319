/- What patterns mean, what they weigh, and what is under a path: plain words, by the program's own cases and by the bytes. They name no function of the program. -/
import Derived.Test.YtnjacobimndnbaaHstr
import Derived.Test.YtnjacobimndnbaaNkind
namespace Go.Proofs.Ytnjacobimndnbaa
open Go.RowKit
set_option linter.unusedVariables false

def starS : ByteArray := ⟨#[42]⟩
def slashS : ByteArray := ⟨#[47]⟩
def kindI (p : ByteArray) : Int := bif patternB p then (bif p.toList == [42] then 1 else bif preB p starS then 2 else 3) else 0
def matchB (p h : ByteArray) : Bool := bif patternB p then (bif p.toList == [42] then hostB h else bif preB p starS then sufB h (cutB p starS) && hostB h else h.toList == p.toList) else false
def weightI (p : ByteArray) : Int := bif patternB p then (bif p.toList == [42] then 0 else bif preB p starS then (p.size : Int) - 2 else 100) else 0
def underB (a t : ByteArray) : Bool := pathB a && pathB t && preB a t && ((cutB a t).toList.isEmpty || sufB t slashS || preB (cutB a t) slashS)
def betterB (a p b q : ByteArray) : Bool := decide (weightI b < weightI a) || (weightI a == weightI b) && decide (q.size < p.size)

/-! The cases of a pattern. -/
theorem kind_cases (p : ByteArray) :
    (kindI p = 0 ∧ weightI p = 0 ∧ patternB p = false ∧ ∀ h, matchB p h = false) ∨
    (kindI p = 1 ∧ weightI p = 0 ∧ patternB p = true ∧ (p.toList == [42]) = true ∧ ∀ h, matchB p h = hostB h) ∨
    (kindI p = 2 ∧ weightI p = (p.size : Int) - 2 ∧ patternB p = true ∧ (p.toList == [42]) = false ∧ preB p starS = true ∧ ∀ h, matchB p h = (sufB h (cutB p starS) && hostB h)) ∨
    (kindI p = 3 ∧ weightI p = 100 ∧ patternB p = true ∧ (p.toList == [42]) = false ∧ preB p starS = false ∧ ∀ h, matchB p h = (h.toList == p.toList)) := by
  unfold kindI weightI matchB
  cases h1 : patternB p with
  | false => exact .inl ⟨rfl, rfl, rfl, fun _ => rfl⟩
  | true =>
    cases h2 : (p.toList == [42]) with
    | true => exact .inr (.inl ⟨rfl, rfl, rfl, rfl, fun _ => rfl⟩)
    | false =>
      cases h3 : preB p starS with
      | true => exact .inr (.inr (.inl ⟨rfl, rfl, rfl, rfl, rfl, fun _ => rfl⟩))
      | false => exact .inr (.inr (.inr ⟨rfl, rfl, rfl, rfl, rfl, fun _ => rfl⟩))

/-! By bytes. -/
def hostL (l : List UInt8) : Bool := decide (l.length ≤ 32) && (partsL 46 l).all (kindL 16 lowI wordI)
theorem hostB_L (s : ByteArray) : hostB s = hostL s.data.toList := hostB_list s
theorem hostL_head {l : List UInt8} (h : hostL l = true) : ∃ c cs, l = c :: cs ∧ lowI (c.toNat : Int) = true := by
  obtain ⟨c, cs, e, hc⟩ := host_head (s := ⟨⟨l⟩⟩) (by rw [hostB_L]; exact h)
  exact ⟨c, cs, e, hc⟩
theorem hostL_size {l : List UInt8} (h : hostL l = true) : l.length ≤ 32 := by
  unfold hostL at h
  rw [Bool.and_eq_true] at h
  exact of_decide_eq_true h.1

theorem preB_iff (s p : ByteArray) : preB s p = true ↔ ∃ l, s.data.toList = p.data.toList ++ l := by
  unfold preB
  rw [Bool.and_eq_true, decide_eq_true_eq, beq_iff_eq, toList_data, toList_data, extract_list, List.drop_zero]
  have h1 := size_list s
  have h2 := size_list p
  constructor
  · rintro ⟨_, h⟩
    refine ⟨s.data.toList.drop p.size, ?_⟩
    conv => lhs; rw [← List.take_append_drop p.size s.data.toList, h]
  · rintro ⟨l, h⟩
    have h3 := congrArg List.length h
    rw [List.length_append, h1, h2] at h3
    refine ⟨by omega, ?_⟩
    rw [h, List.take_append_of_le_length (by omega), List.take_of_length_le (by omega)]
theorem sufB_iff (s p : ByteArray) : sufB s p = true ↔ ∃ l, s.data.toList = l ++ p.data.toList := by
  unfold sufB
  rw [Bool.and_eq_true, decide_eq_true_eq, beq_iff_eq, toList_data, toList_data, extract_list, List.take_of_length_le (by rw [size_list]; omega)]
  have h1 := size_list s
  have h2 := size_list p
  constructor
  · rintro ⟨_, h⟩
    refine ⟨s.data.toList.take (s.size - p.size), ?_⟩
    conv => lhs; rw [← List.take_append_drop (s.size - p.size) s.data.toList, h]
  · rintro ⟨l, h⟩
    have h3 := congrArg List.length h
    rw [List.length_append, h1, h2] at h3
    refine ⟨by omega, ?_⟩
    rw [h]
    exact List.drop_left' (by omega)
theorem cutB_list {s p : ByteArray} {l : List UInt8} (h : s.data.toList = p.data.toList ++ l) : (cutB s p).data.toList = l := by
  have hp : preB s p = true := (preB_iff s p).2 ⟨l, h⟩
  rw [cutB, hp, cond_true, extract_list, List.take_of_length_le (by rw [size_list]; omega), h]
  exact List.drop_left' (size_list p)

theorem pattern_star {p : ByteArray} (h : patternB p = true) (h1 : (p.toList == [42]) = false) (h2 : preB p starS = true) :
    ∃ t, p.data.toList = 42 :: 46 :: t ∧ hostL t = true ∧ (cutB p starS).data.toList = 46 :: t := by
  obtain ⟨l, hl⟩ := (preB_iff _ _).1 h2
  have hl' : p.data.toList = 42 :: l := hl
  have hc := cutB_list hl
  rcases ht : tailB p with _ | _
  · rw [patternB, h1, Bool.false_or, trim_not ht] at h
    obtain ⟨c, cs, e, hlow⟩ := host_head h
    rw [hl'] at e
    rw [← (List.cons.inj e).1] at hlow
    exact absurd hlow (by decide)
  · obtain ⟨t, et⟩ := tail_head ht
    rw [hl'] at et
    have el := (List.cons.inj et).2
    refine ⟨t, by rw [hl', el], ?_, by rw [hc, el]⟩
    rw [patternB, h1, Bool.false_or, trimB, ht, cond_true, hostB_L, extract_list, List.take_of_length_le (by rw [size_list]; omega), hl', el] at h
    exact h
theorem pattern_host {p : ByteArray} (h : patternB p = true) (h1 : (p.toList == [42]) = false) (h2 : preB p starS = false) : hostL p.data.toList = true := by
  rcases ht : tailB p with _ | _
  · rw [patternB, h1, Bool.false_or, trim_not ht, hostB_L] at h
    exact h
  · obtain ⟨t, et⟩ := tail_head ht
    have : preB p starS = true := (preB_iff _ _).2 ⟨46 :: t, et⟩
    rw [h2] at this
    cases this
theorem eq42 (p : ByteArray) : (p.toList == [42]) = true ↔ p.data.toList = [42] := by rw [beq_iff_eq, toList_data]

theorem match_iff (p h : ByteArray) : matchB p h = true ↔ hostL h.data.toList = true ∧
    (p.data.toList = [42] ∨ p.data.toList = h.data.toList ∨ ∃ t l, p.data.toList = 42 :: 46 :: t ∧ hostL t = true ∧ h.data.toList = l ++ 46 :: t) := by
  rcases kind_cases p with ⟨_, _, hp, hm⟩ | ⟨_, _, hp, h1, hm⟩ | ⟨_, _, hp, h1, h2, hm⟩ | ⟨_, _, hp, h1, h2, hm⟩ <;> rw [hm]
  · refine ⟨fun h => (by cases h), ?_⟩
    rintro ⟨hh, h1⟩
    exfalso
    have key : patternB p = true := by
      rcases h1 with h1 | h1 | ⟨t, l, h1, h2, _⟩
      · rw [patternB, (eq42 p).2 h1]; rfl
      · exact host_pattern p (by rw [hostB_L, h1]; exact hh)
      · have e : p = ⟨#[42, 46]⟩ ++ ⟨⟨t⟩⟩ := ext_list (by rw [append_list, h1]; rfl)
        rw [e, tail_pattern, hostB_L]
        exact h2
    rw [hp] at key
    cases key
  · rw [hostB_L]
    exact ⟨fun h => ⟨h, .inl ((eq42 p).1 h1)⟩, fun h => h.1⟩
  · obtain ⟨t, e1, e2, e3⟩ := pattern_star hp h1 h2
    rw [Bool.and_eq_true, hostB_L, sufB_iff, e3]
    constructor
    · rintro ⟨⟨l, hl⟩, hh⟩
      exact ⟨hh, .inr (.inr ⟨t, l, e1, e2, hl⟩)⟩
    · rintro ⟨hh, h | h | ⟨t', l, h, _, h'⟩⟩
      · rw [e1] at h; cases h
      · obtain ⟨c, cs, ec, hc⟩ := hostL_head hh
        rw [e1, ec] at h
        rw [← (List.cons.inj h).1] at hc
        exact absurd hc (by decide)
      · rw [e1] at h
        have et : t = t' := by simpa using h
        rw [et]
        exact ⟨⟨l, h'⟩, hh⟩
  · have hp' := pattern_host hp h1 h2
    rw [beq_iff_eq, toList_data, toList_data]
    constructor
    · intro h
      rw [h]
      exact ⟨hp', .inr (.inl rfl)⟩
    · rintro ⟨hh, h | h | ⟨t', l, h, _, h'⟩⟩
      · rw [(eq42 p).2 h] at h1; cases h1
      · exact h.symm
      · have : preB p starS = true := (preB_iff _ _).2 ⟨46 :: t', h⟩
        rw [h2] at this
        cases this

theorem weight_cases (p : ByteArray) :
    (patternB p = false ∧ weightI p = 0) ∨ (p.data.toList = [42] ∧ patternB p = true ∧ weightI p = 0) ∨
    (∃ t, p.data.toList = 42 :: 46 :: t ∧ hostL t = true ∧ 1 ≤ t.length ∧ t.length ≤ 32 ∧ patternB p = true ∧ weightI p = (t.length : Int)) ∨ (hostL p.data.toList = true ∧ patternB p = true ∧ weightI p = 100) := by
  rcases kind_cases p with ⟨_, hw, hp, hm⟩ | ⟨_, hw, hp, h1, hm⟩ | ⟨_, hw, hp, h1, h2, hm⟩ | ⟨_, hw, hp, h1, h2, hm⟩
  · exact .inl ⟨hp, hw⟩
  · exact .inr (.inl ⟨(eq42 p).1 h1, hp, hw⟩)
  · obtain ⟨t, e1, e2, e3⟩ := pattern_star hp h1 h2
    obtain ⟨c, cs, ec, _⟩ := hostL_head e2
    have h3 := size_list p
    rw [e1, List.length_cons, List.length_cons] at h3
    refine .inr (.inr (.inl ⟨t, e1, e2, by rw [ec, List.length_cons]; omega, hostL_size e2, hp, ?_⟩))
    rw [hw]; omega
  · exact .inr (.inr (.inr ⟨pattern_host hp h1 h2, hp, hw⟩))
theorem weight_bd (p : ByteArray) : 0 ≤ weightI p ∧ weightI p ≤ 100 := by
  rcases weight_cases p with ⟨_, h⟩ | ⟨_, _, h⟩ | ⟨t, _, _, _, _, _, h⟩ | ⟨_, _, h⟩ <;> omega

/-- Of two patterns that mean a host, unlike ones have unlike weights. -/
theorem match_unlike {a b h : ByteArray} (ha : matchB a h = true) (hb : matchB b h = true) : (a.toList == b.toList) = (weightI a == weightI b) := by
  rw [Bool.eq_iff_iff, beq_iff_eq, beq_iff_eq]
  constructor
  · intro e
    have : a = b := ext_list (by rw [← toList_data, ← toList_data]; exact e)
    rw [this]
  · intro e
    rw [toList_data, toList_data]
    obtain ⟨hh, ha⟩ := (match_iff a h).1 ha
    obtain ⟨_, hb⟩ := (match_iff b h).1 hb
    have no : ∀ {t : List UInt8}, hostL (42 :: t) = true → False := fun h' => by
      obtain ⟨c, cs, ec, hc⟩ := hostL_head h'
      rw [← (List.cons.inj ec).1] at hc
      exact absurd hc (by decide)
    have plain : ∀ p : ByteArray, (p.data.toList = [42] ∨ p.data.toList = h.data.toList ∨ ∃ t l, p.data.toList = 42 :: 46 :: t ∧ hostL t = true ∧ h.data.toList = l ++ 46 :: t) →
        (p.data.toList = [42] ∧ weightI p = 0) ∨ (p.data.toList = h.data.toList ∧ weightI p = 100) ∨ ∃ t l, p.data.toList = 42 :: 46 :: t ∧ h.data.toList = l ++ 46 :: t ∧ 1 ≤ t.length ∧ t.length ≤ 32 ∧ weightI p = (t.length : Int) := by
      intro p hp
      have hpat : patternB p = true := by
        have : matchB p h = true := (match_iff p h).2 ⟨hh, hp⟩
        rcases kind_cases p with ⟨_, _, _, hm⟩ | ⟨_, _, hq, _⟩ | ⟨_, _, hq, _⟩ | ⟨_, _, hq, _⟩
        · rw [hm] at this; cases this
        · exact hq
        · exact hq
        · exact hq
      rcases weight_cases p with ⟨h0, _⟩ | ⟨h0, _, hw⟩ | ⟨t, h0, _, h1, h2, _, hw⟩ | ⟨h0, _, hw⟩
      · rw [hpat] at h0; cases h0
      · exact .inl ⟨h0, hw⟩
      · rcases hp with hp | hp | ⟨t', l, hp, _, hl⟩
        · rw [h0] at hp; cases hp
        · rw [← hp, h0] at hh; exact (no hh).elim
        · rw [h0] at hp
          have et : t = t' := by simpa using hp
          exact .inr (.inr ⟨t, l, h0, by rw [et]; exact hl, h1, h2, hw⟩)
      · rcases hp with hp | hp | ⟨t', l, hp, _, hl⟩
        · rw [hp] at h0; exact (no h0).elim
        · exact .inr (.inl ⟨hp, hw⟩)
        · rw [hp] at h0; exact (no h0).elim
    rcases plain a ha with ⟨ea, wa⟩ | ⟨ea, wa⟩ | ⟨t, l, ea, hl, h1, h2, wa⟩ <;> rcases plain b hb with ⟨eb, wb⟩ | ⟨eb, wb⟩ | ⟨t', l', eb, hl', h1', h2', wb⟩
    · rw [ea, eb]
    · omega
    · omega
    · omega
    · rw [ea, eb]
    · omega
    · omega
    · omega
    · rw [ea, eb]
      have : t.length = t'.length := by omega
      rw [hl] at hl'
      have := List.append_inj_right' hl' (by simp; omega)
      rw [(List.cons.inj this).2]

/-! Paths. -/
theorem under_iff (a t : ByteArray) : underB a t = true ↔ pathB a = true ∧ pathB t = true ∧ ∃ l, a.data.toList = t.data.toList ++ l ∧ (l = [] ∨ (∃ x, t.data.toList = x ++ [47]) ∨ ∃ y, l = 47 :: y) := by
  unfold underB
  rw [Bool.and_eq_true, Bool.and_eq_true, Bool.and_eq_true, Bool.or_eq_true, Bool.or_eq_true, preB_iff, sufB_iff, preB_iff, List.isEmpty_iff]
  constructor
  · rintro ⟨⟨⟨ha, ht⟩, l, hl⟩, h⟩
    refine ⟨ha, ht, l, hl, ?_⟩
    rw [toList_data, cutB_list hl] at h
    rcases h with (h | ⟨x, h⟩) | ⟨y, h⟩
    · exact .inl h
    · exact .inr (.inl ⟨x, h⟩)
    · exact .inr (.inr ⟨y, h⟩)
  · rintro ⟨ha, ht, l, hl, h⟩
    refine ⟨⟨⟨ha, ht⟩, l, hl⟩, ?_⟩
    rw [toList_data, cutB_list hl]
    rcases h with h | ⟨x, h⟩ | ⟨y, h⟩
    · exact .inl (.inl h)
    · exact .inl (.inr ⟨x, h⟩)
    · exact .inr ⟨y, h⟩
theorem under_self (a : ByteArray) : underB a a = pathB a := by
  rw [Bool.eq_iff_iff, under_iff]
  exact ⟨fun h => h.1, fun h => ⟨h, h, [], by simp, .inl rfl⟩⟩
theorem under_trans {a b c : ByteArray} (h : underB a b = true) (k : underB b c = true) : underB a c = true := by
  obtain ⟨pa, pb, l, hl, h⟩ := (under_iff a b).1 h
  obtain ⟨_, pc, m, hm, k⟩ := (under_iff b c).1 k
  refine (under_iff a c).2 ⟨pa, pc, m ++ l, by rw [hl, hm, List.append_assoc], ?_⟩
  rcases k with rfl | k | ⟨y, rfl⟩
  · rw [List.append_nil] at hm
    rw [hm] at h
    exact h
  · exact .inr (.inl k)
  · exact .inr (.inr ⟨y ++ l, rfl⟩)
theorem under_anti {a b : ByteArray} (h : underB a b = true) (k : underB b a = true) : a = b := by
  obtain ⟨_, _, l, hl, _⟩ := (under_iff a b).1 h
  obtain ⟨_, _, m, hm, _⟩ := (under_iff b a).1 k
  have h1 := congrArg List.length hl
  have h2 := congrArg List.length hm
  rw [List.length_append] at h1 h2
  have : l = [] := List.eq_nil_of_length_eq_zero (by omega)
  exact ext_list (by rw [hl, this, List.append_nil])

/-! One more name ahead. -/
theorem match_deep {p h : ByteArray} {t x : List UInt8} (hp : p.data.toList = 42 :: 46 :: t) (hh : matchB p h = true) {d : ByteArray} (hd : hostB d = true) (hx : d.data.toList = x ++ h.data.toList) : matchB p d = true := by
  obtain ⟨hH, h1⟩ := (match_iff p h).1 hh
  refine (match_iff p d).2 ⟨by rw [← hostB_L]; exact hd, ?_⟩
  rcases h1 with h1 | h1 | ⟨t', l, h1, h2, h3⟩
  · rw [hp] at h1; cases h1
  · obtain ⟨c, cs, ec, hc⟩ := hostL_head hH
    rw [hp, ec] at h1
    rw [← (List.cons.inj h1).1] at hc
    exact absurd hc (by decide)
  · exact .inr (.inr ⟨t', x ++ l, h1, h2, by rw [hx, h3, List.append_assoc]⟩)
theorem match_tail {p h d : ByteArray} {x : List UInt8} (hp : p.data.toList = 42 :: 46 :: h.data.toList) (hh : hostB h = true) (hd : hostB d = true) (hx : d.data.toList = x ++ 46 :: h.data.toList) : matchB p d = true :=
  (match_iff p d).2 ⟨by rw [← hostB_L]; exact hd, .inr (.inr ⟨_, x, hp, by rw [← hostB_L]; exact hh, hx⟩)⟩
theorem match_not {p h : ByteArray} (hp : p.data.toList = 42 :: 46 :: h.data.toList) : matchB p h = false := by
  rw [Bool.eq_false_iff]
  intro hm
  obtain ⟨_, h1 | h1 | ⟨t, l, h1, _, h3⟩⟩ := (match_iff p h).1 hm
  · rw [hp] at h1; cases h1
  · rw [hp] at h1
    have := congrArg List.length h1
    simp at this
    omega
  · rw [hp] at h1
    have et : h.data.toList = t := by simpa using h1
    rw [et] at h3
    have := congrArg List.length h3
    simp at this
    omega
end Go.Proofs.Ytnjacobimndnbaa
