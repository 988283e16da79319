/- Snapshots, as plain data: numbers of names, what is built of a configuration, and what may be the same. No word of the program. -/
import Derived.Test.YtknjdaokidcllaaCok
import Derived.Test.YtknjdaokidcllaaM1
namespace Go.Proofs.Ytknjdaokidcllaa
open Go.RowKit
set_option linter.unusedVariables false
set_option linter.unusedSimpArgs false

/-! The number of the first one. -/
def findI {α : Type} (p : α → Bool) : List α → Int
  | [] => -1
  | x :: l => bif p x then 0 else (bif findI p l == -1 then -1 else findI p l + 1)
section
variable {α : Type} {p : α → Bool} {l : List α}
theorem findI_cases (p : α → Bool) (l : List α) : (findI p l = -1 ∧ l.any p = false) ∨ ∃ k, ∃ h : k < l.length, findI p l = (k : Int) ∧ p l[k] = true ∧ (l.take k).any p = false := by
  induction l with
  | nil => exact .inl ⟨rfl, rfl⟩
  | cons x l ih =>
    rcases hx : p x with _ | _
    · rcases ih with ⟨h1, h2⟩ | ⟨k, hk, h1, h2, h3⟩
      · exact .inl ⟨by simp [findI, hx, h1], by simp [hx, h2]⟩
      · have hne : (findI p l == -1) = false := by rw [h1, beq_eq_false_iff_ne]; omega
        refine .inr ⟨k + 1, by simpa using hk, ?_, by simpa using h2, ?_⟩
        · rw [findI, hx, cond_false, hne, cond_false, h1]; rfl
        · rw [List.take_succ_cons, List.any_cons, hx, h3]; rfl
    · exact .inr ⟨0, by simp, by simp [findI, hx], by simpa using hx, by simp⟩
theorem findI_none (h : l.any p = false) : findI p l = -1 := by
  rcases findI_cases p l with ⟨h1, _⟩ | ⟨k, hk, _, h2, _⟩
  · exact h1
  · rw [any_hit hk h2] at h; cases h
theorem findI_hit {k : Nat} (hk : k < l.length) (h : p l[k] = true) (h0 : (l.take k).any p = false) : findI p l = (k : Int) := by
  rcases findI_cases p l with ⟨_, h1⟩ | ⟨j, hj, h1, h2, h3⟩
  · rw [any_hit hk h] at h1; cases h1
  · have h4 : ¬ k < j := fun hlt => by
      rw [any_hit (xs := l.take j) (k := k) (by rw [List.length_take]; omega) (by rw [List.getElem_take]; exact h)] at h3
      cases h3
    have h5 : ¬ j < k := fun hlt => by
      rw [any_hit (xs := l.take k) (k := j) (by rw [List.length_take]; omega) (by rw [List.getElem_take]; exact h2)] at h0
      cases h0
    rw [h1, show j = k by omega]
theorem findI_lt (p : α → Bool) (l : List α) : -1 ≤ findI p l ∧ findI p l < l.length := by
  rcases findI_cases p l with ⟨h, _⟩ | ⟨k, hk, h, _, _⟩ <;> omega
end
def numL (ls : List ByteArray) (s : ByteArray) : Int := findI (fun x => eqB x s) ls
def numC (cs : List Cl) (s : ByteArray) : Int := findI (fun x => eqB x.name s) cs

/-! What is built. -/
def ruleI (ls : List ByteArray) (cs : List Cl) (r : Rt) : Rl := ⟨numL ls r.listen, r.host, r.path, numC cs r.cluster⟩
def rulesI (ls : List ByteArray) (rs : List Rt) (cs : List Cl) : List Rl := rs.map (ruleI ls cs)
/-- A name by its number; the empty text, if there is none. -/
def nameL (ls : List ByteArray) (i : Int) : ByteArray := if 0 ≤ i then ls.getD i.toNat ⟨#[]⟩ else ⟨#[]⟩
def nameC (cs : List Cl) (i : Int) : ByteArray := if 0 ≤ i then (cs.getD i.toNat Cl.none).name else ⟨#[]⟩
def routeI (ls : List ByteArray) (cs : List Cl) (r : Rl) : Rt := ⟨nameL ls r.listen, r.host, r.path, nameC cs r.cluster⟩
def routesI (ls : List ByteArray) (l : List Rl) (cs : List Cl) : List Rt := l.map (routeI ls cs)

theorem eqB_iff {a b : ByteArray} : eqB a b = true ↔ a = b := by
  unfold eqB
  rw [beq_iff_eq, toList_data, toList_data]
  exact ⟨ext_list, fun h => by rw [h]⟩
theorem nameL_num {ls : List ByteArray} {s : ByteArray} (h : hasL ls s = true) : nameL ls (numL ls s) = s := by
  unfold numL
  rcases findI_cases (fun x => eqB x s) ls with ⟨_, h2⟩ | ⟨k, hk, h1, h2, _⟩
  · exfalso
    unfold hasL at h
    obtain ⟨x, hx, hs⟩ := List.any_eq_true.1 h
    have := List.any_eq_false.1 h2 x hx
    rw [eqB_swap] at this
    exact this hs
  · rw [h1]
    unfold nameL
    rw [if_pos (by omega)]
    simp only [Int.toNat_natCast]
    rw [List.getD, List.getElem?_eq_getElem hk]
    exact eqB_iff.1 h2
theorem nameC_num {cs : List Cl} {s : ByteArray} (h : hasC cs s = true) : nameC cs (numC cs s) = s := by
  unfold numC
  rcases findI_cases (fun x => eqB x.name s) cs with ⟨_, h2⟩ | ⟨k, hk, h1, h2, _⟩
  · exfalso
    unfold hasC at h
    rw [h2] at h
    cases h
  · rw [h1]
    unfold nameC
    rw [if_pos (by omega)]
    simp only [Int.toNat_natCast]
    rw [List.getD, List.getElem?_eq_getElem hk]
    exact eqB_iff.1 h2
theorem goodR_iff {ls : List ByteArray} {cs : List Cl} {r : Rt} (h : goodR ls cs r = true) : hasL ls r.listen = true ∧ patternB r.host = true ∧ pathB r.path = true ∧ hasC cs r.cluster = true := by
  unfold goodR at h
  simpa [Bool.and_eq_true] using h

section
variable {ls : List ByteArray} {rs : List Rt} {cs : List Cl} {l : List Rl}
/-- What was built is of the configuration that it was built of. -/
theorem routes_rules (g : Good ls rs cs) : routesI ls (rulesI ls rs cs) cs = rs := by
  unfold routesI rulesI
  rw [List.map_map]
  conv => rhs; rw [← List.map_id rs]
  refine List.map_congr_left fun r hr => ?_
  obtain ⟨h1, _, _, h2⟩ := goodR_iff (g.r r hr)
  show (⟨nameL ls (numL ls r.listen), r.host, r.path, nameC cs (numC cs r.cluster)⟩ : Rt) = r
  rw [nameL_num h1, nameC_num h2]
theorem name_some {s : ByteArray} (h : nameB s = true) : s ≠ ⟨#[]⟩ := by
  rintro rfl
  exact absurd h (by decide)
theorem numL_name (h1 : ∀ x ∈ ls, nameB x = true) (h2 : ls.Pairwise (fun o r => eqB r o = false)) {i : Int} (h : hasL ls (nameL ls i) = true) : (0 ≤ i ∧ i < ls.length) ∧ numL ls (nameL ls i) = i := by
  have hin : nameL ls i ∈ ls := by
    unfold hasL at h
    obtain ⟨x, hx, hs⟩ := List.any_eq_true.1 h
    rw [eqB_iff.1 hs]
    exact hx
  have hb : 0 ≤ i ∧ i < ls.length := by
    have hne := name_some (h1 _ hin)
    unfold nameL at hne
    by_cases h0 : 0 ≤ i
    · rw [if_pos h0] at hne
      refine ⟨h0, ?_⟩
      by_cases hl : i.toNat < ls.length
      · omega
      · rw [List.getD, List.getElem?_eq_none (by omega)] at hne
        exact absurd rfl hne
    · rw [if_neg h0] at hne
      exact absurd rfl hne
  refine ⟨hb, ?_⟩
  obtain ⟨k, rfl⟩ : ∃ k : Nat, i = (k : Int) := ⟨i.toNat, by omega⟩
  have hk : k < ls.length := by omega
  have e : nameL ls (k : Int) = ls[k] := by
    unfold nameL
    rw [if_pos (by omega)]
    simp [List.getD, hk]
  rw [e]
  refine findI_hit hk (eqB_self _) ?_
  rw [List.any_eq_false]
  intro x hx
  obtain ⟨j, hj, rfl⟩ := List.mem_iff_getElem.1 hx
  rw [List.length_take] at hj
  rw [List.getElem_take]
  have := List.pairwise_iff_getElem.1 h2 j k (by omega) hk (by omega)
  rw [eqB_swap] at this
  rw [this]
  exact Bool.false_ne_true
theorem numC_name (h1 : ∀ x ∈ cs, goodC x = true) (h2 : cs.Pairwise (fun o r => eqB o.name r.name = false)) {i : Int} (h : hasC cs (nameC cs i) = true) : (0 ≤ i ∧ i < cs.length) ∧ numC cs (nameC cs i) = i := by
  have hin : ∃ x ∈ cs, x.name = nameC cs i := by
    unfold hasC at h
    obtain ⟨x, hx, hs⟩ := List.any_eq_true.1 h
    exact ⟨x, hx, eqB_iff.1 hs⟩
  have hb : 0 ≤ i ∧ i < cs.length := by
    obtain ⟨x, hx, hxn⟩ := hin
    have hg := h1 x hx
    unfold goodC at hg
    rw [Bool.and_eq_true] at hg
    have hne := name_some hg.1
    rw [hxn] at hne
    unfold nameC at hne
    by_cases h0 : 0 ≤ i
    · rw [if_pos h0] at hne
      refine ⟨h0, ?_⟩
      by_cases hl : i.toNat < cs.length
      · omega
      · rw [List.getD, List.getElem?_eq_none (by omega)] at hne
        exact absurd rfl hne
    · rw [if_neg h0] at hne
      exact absurd rfl hne
  refine ⟨hb, ?_⟩
  obtain ⟨k, rfl⟩ : ∃ k : Nat, i = (k : Int) := ⟨i.toNat, by omega⟩
  have hk : k < cs.length := by omega
  have e : nameC cs (k : Int) = cs[k].name := by
    unfold nameC
    rw [if_pos (by omega)]
    simp [List.getD, hk]
  rw [e]
  refine findI_hit hk (eqB_self _) ?_
  rw [List.any_eq_false]
  intro x hx
  obtain ⟨j, hj, rfl⟩ := List.mem_iff_getElem.1 hx
  rw [List.length_take] at hj
  rw [List.getElem_take]
  have := List.pairwise_iff_getElem.1 h2 j k (by omega) hk (by omega)
  rw [this]
  exact Bool.false_ne_true
/-- A snapshot's configuration is built as that snapshot again. -/
theorem rules_routes (g : Good ls (routesI ls l cs) cs) : rulesI ls (routesI ls l cs) cs = l ∧ ∀ r ∈ l, 0 ≤ r.cluster ∧ r.cluster < cs.length := by
  have key : ∀ r ∈ l, ruleI ls cs (routeI ls cs r) = r ∧ 0 ≤ r.cluster ∧ r.cluster < cs.length := fun r hr => by
    have hm : routeI ls cs r ∈ routesI ls l cs := List.mem_map.2 ⟨r, hr, rfl⟩
    obtain ⟨h1, _, _, h2⟩ := goodR_iff (g.r _ hm)
    obtain ⟨_, e1⟩ := numL_name g.l g.l2 h1
    obtain ⟨b2, e2⟩ := numC_name g.c g.c2 h2
    refine ⟨?_, b2⟩
    show (⟨numL ls (nameL ls r.listen), r.host, r.path, numC cs (nameC cs r.cluster)⟩ : Rl) = r
    rw [e1, e2]
  refine ⟨?_, fun r hr => (key r hr).2⟩
  unfold routesI rulesI
  rw [List.map_map]
  conv => rhs; rw [← List.map_id l]
  exact List.map_congr_left fun r hr => (key r hr).1
/-- Unlike routes of one configuration's lists are unlike rules. -/
theorem rules_inj {rs' : List Rt} (g : Good ls rs cs) (g' : Good ls rs' cs) (h : rulesI ls rs cs = rulesI ls rs' cs) : rs = rs' := by
  rw [← routes_rules g, h, routes_rules g']
end

/-! Two lists are the same, element by element. -/
def sameL {α : Type} (p : α → α → Bool) : List α → List α → Bool
  | [], [] => true
  | a :: l, b :: m => p a b && sameL p l m
  | _, _ => false
section
variable {α : Type} {p : α → α → Bool}
theorem sameL_iff (l m : List α) : sameL p l m = true ↔ l.length = m.length ∧ ∀ i (h : i < l.length) (h' : i < m.length), p l[i] m[i] = true := by
  induction l generalizing m with
  | nil =>
    cases m with
    | nil => simp [sameL]
    | cons b m => simp [sameL]
  | cons a l ih =>
    cases m with
    | nil => simp [sameL]
    | cons b m =>
      rw [sameL, Bool.and_eq_true, ih]
      constructor
      · rintro ⟨h1, h2, h3⟩
        refine ⟨by simp [h2], fun i h h' => ?_⟩
        cases i with
        | zero => exact h1
        | succ i => exact h3 i (by simpa using h) (by simpa using h')
      · rintro ⟨h1, h2⟩
        refine ⟨h2 0 (by simp) (by simp), by simpa using h1, fun i h h' => ?_⟩
        have := h2 (i + 1) (by simpa using h) (by simpa using h')
        simpa using this
theorem sameL_len {l m : List α} (h : l.length ≠ m.length) : sameL p l m = false := by
  rw [Bool.eq_false_iff]
  exact fun hh => h ((sameL_iff l m).1 hh).1
theorem sameL_at {l m : List α} {k : Nat} (h : k < l.length) (h' : k < m.length) (hp : p l[k] m[k] = false) : sameL p l m = false := by
  rw [Bool.eq_false_iff]
  intro hh
  have := ((sameL_iff l m).1 hh).2 k h h'
  rw [hp] at this
  cases this
theorem sameL_all {l m : List α} (h : l.length = m.length) (hp : ∀ i (h : i < l.length) (h' : i < m.length), p l[i] m[i] = true) : sameL p l m = true := (sameL_iff l m).2 ⟨h, hp⟩
theorem sameL_self (hp : ∀ a, p a a = true) (l : List α) : sameL p l l = true := sameL_all rfl fun i _ _ => hp _
theorem sameL_eq (hp : ∀ a b, p a b = true ↔ a = b) {l m : List α} : sameL p l m = true ↔ l = m := by
  rw [sameL_iff]
  constructor
  · rintro ⟨h, hh⟩
    exact List.ext_getElem h fun i h1 h2 => (hp _ _).1 (hh i h1 h2)
  · rintro rfl
    exact ⟨rfl, fun i _ _ => (hp _ _).2 rfl⟩
end

/-- A cluster, with the health of its endpoints. -/
structure Ch where
  name : ByteArray
  policy : Int
  slots : Int
  health : List Bool
def sameCh (a b : Ch) : Bool := eqB a.name b.name && (a.policy == b.policy) && (a.slots == b.slots) && (a.health == b.health)
theorem sameCh_iff (a b : Ch) : sameCh a b = true ↔ a = b := by
  obtain ⟨a1, a2, a3, a4⟩ := a
  obtain ⟨b1, b2, b3, b4⟩ := b
  simp only [sameCh, Bool.and_eq_true, eqB_iff, beq_iff_eq, Ch.mk.injEq]
  exact ⟨fun ⟨⟨⟨a, b⟩, c⟩, d⟩ => ⟨a, b, c, d⟩, fun ⟨a, b, c, d⟩ => ⟨⟨⟨a, b⟩, c⟩, d⟩⟩
def sameRt (a b : Rt) : Bool := eqB a.listen b.listen && eqB a.host b.host && eqB a.path b.path && eqB a.cluster b.cluster
theorem sameRt_iff (a b : Rt) : sameRt a b = true ↔ a = b := by
  obtain ⟨a1, a2, a3, a4⟩ := a
  obtain ⟨b1, b2, b3, b4⟩ := b
  simp only [sameRt, Bool.and_eq_true, eqB_iff, Rt.mk.injEq]
  exact ⟨fun ⟨⟨⟨a, b⟩, c⟩, d⟩ => ⟨a, b, c, d⟩, fun ⟨a, b, c, d⟩ => ⟨⟨⟨a, b⟩, c⟩, d⟩⟩
def sameRl (a b : Rl) : Bool := (a.listen == b.listen) && eqB a.host b.host && eqB a.path b.path && (a.cluster == b.cluster)
theorem sameRl_iff (a b : Rl) : sameRl a b = true ↔ a = b := by
  obtain ⟨a1, a2, a3, a4⟩ := a
  obtain ⟨b1, b2, b3, b4⟩ := b
  simp only [sameRl, Bool.and_eq_true, eqB_iff, beq_iff_eq, Rl.mk.injEq]
  exact ⟨fun ⟨⟨⟨a, b⟩, c⟩, d⟩ => ⟨a, b, c, d⟩, fun ⟨a, b, c, d⟩ => ⟨⟨⟨a, b⟩, c⟩, d⟩⟩
end Go.Proofs.Ytknjdaokidcllaa
