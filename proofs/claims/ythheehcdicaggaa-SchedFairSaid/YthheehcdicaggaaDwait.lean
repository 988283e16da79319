/- The longest wait in an order of threads, and the least bound by which it is fair: plain data. -/
import Derived.Test.YthheehcdicaggaaDpure
namespace Go.Proofs.Ythheehcdicaggaa
open Go.RowKit
set_option linter.unusedVariables false
set_option linter.unusedSimpArgs false

/-- Thread t has no number among those from place a on, ahead of place b. -/
def gone (l : List Int) (t a b : Nat) : Prop := ∀ i, a ≤ i → i < b → l[i]? ≠ some (t : Int)

/-- Of the first k numbers: the places at which the threads' waits began, and the longest wait, those that have not ended counted for the first j threads alone. -/
structure Waits (l : List Int) (T k : Nat) (ss : List Nat) (j L : Nat) : Prop where
  len : ss.length = T
  le : ∀ t s, ss[t]? = some s → s ≤ k ∧ gone l t s k ∧ (s = 0 ∨ ∃ q, s = q + 1 ∧ l[q]? = some (t : Int))
  all : ∀ t, t < T → ∀ a b, a ≤ b → b ≤ k → gone l t a b → b - a ≤ L ∨ (j ≤ t ∧ ∀ s, ss[t]? = some s → s ≤ a)
  one : L = 0 ∨ ∃ t a, t < T ∧ a + L ≤ k ∧ gone l t a (a + L)

theorem Waits.start (l : List Int) (T : Nat) : Waits l T 0 (List.replicate T 0) 0 0 := by
  refine ⟨by simp, fun t s h => ?_, fun t ht a b h1 h2 _ => .inl (by omega), .inl rfl⟩
  rw [List.getElem?_replicate] at h
  by_cases ht : t < T
  · rw [if_pos ht] at h
    injection h with h
    subst h
    exact ⟨Nat.le_refl _, fun i h1 h2 => by omega, .inl rfl⟩
  · rw [if_neg ht] at h
    cases h

/-- A window that ends behind the place of a thread's last number begins behind it. -/
theorem Waits.behind {l : List Int} {T k : Nat} {ss : List Nat} {j L : Nat} (h : Waits l T k ss j L) {t a b : Nat} (hg : gone l t a b) (hb : k < b) {s : Nat} (hs : ss[t]? = some s) : s ≤ a := by
  obtain ⟨h1, _, h3⟩ := h.le t s hs
  rcases h3 with rfl | ⟨q, rfl, hq⟩
  · omega
  · rcases Nat.lt_or_ge a (q + 1) with h4 | h4
    · exact absurd hq (hg q (by omega) (by omega))
    · exact h4

theorem Waits.skip {l : List Int} {T k : Nat} {ss : List Nat} {L : Nat} (h : Waits l T k ss 0 L) (hx : ∀ t : Nat, t < T → l[k]? ≠ some (t : Int)) : Waits l T (k + 1) ss 0 L := by
  refine ⟨h.len, fun t s hs => ?_, fun t ht a b hab hb hg => ?_, ?_⟩
  · obtain ⟨h1, h2, h3⟩ := h.le t s hs
    have htT : t < T := by rw [← h.len]; exact (List.getElem?_eq_some_iff.1 hs).1
    refine ⟨by omega, fun i hi1 hi2 => ?_, h3⟩
    rcases Nat.lt_or_ge i k with hik | hik
    · exact h2 i hi1 hik
    · obtain rfl : i = k := by omega
      exact hx t htT
  · rcases Nat.lt_or_ge k b with hkb | hkb
    · exact .inr ⟨Nat.zero_le _, fun s hs => h.behind hg hkb hs⟩
    · exact h.all t ht a b hab hkb hg
  · rcases h.one with h0 | ⟨t, a, h1, h2, h3⟩
    · exact .inl h0
    · exact .inr ⟨t, a, h1, by omega, h3⟩

theorem Waits.hit {l : List Int} {T k : Nat} {ss : List Nat} {L : Nat} (h : Waits l T k ss 0 L) {x s : Nat} (hx : l[k]? = some (x : Int)) (hs : ss[x]? = some s) : Waits l T (k + 1) (ss.set x (k + 1)) 0 (max L (k - s)) := by
  have hxl : x < ss.length := (List.getElem?_eq_some_iff.1 hs).1
  obtain ⟨s1, s2, s3⟩ := h.le x s hs
  refine ⟨by rw [List.length_set]; exact h.len, fun t s' hs' => ?_, fun t ht a b hab hb hg => ?_, ?_⟩
  · rw [List.getElem?_set] at hs'
    by_cases htx : x = t
    · subst htx
      rw [if_pos rfl, if_pos hxl] at hs'
      injection hs' with hs'
      subst hs'
      exact ⟨Nat.le_refl _, fun i h1 h2 => by omega, .inr ⟨k, rfl, hx⟩⟩
    · rw [if_neg htx] at hs'
      obtain ⟨h1, h2, h3⟩ := h.le t s' hs'
      refine ⟨by omega, fun i hi1 hi2 => ?_, h3⟩
      rcases Nat.lt_or_ge i k with hik | hik
      · exact h2 i hi1 hik
      · obtain rfl : i = k := by omega
        rw [hx]
        intro e
        injection e with e
        omega
  · by_cases htx : x = t
    · subst htx
      rcases Nat.lt_or_ge k b with hkb | hkb
      · rcases Nat.lt_or_ge a b with hlt | hge
        · exact absurd hx (hg k (by omega) hkb)
        · exact .inl (by omega)
      · rcases h.all x ht a b hab hkb hg with h1 | ⟨_, h1⟩
        · exact .inl (by omega)
        · have := h1 s hs
          exact .inl (by omega)
    · rcases Nat.lt_or_ge k b with hkb | hkb
      · exact .inr ⟨Nat.zero_le _, fun s' hs' => by rw [List.getElem?_set, if_neg htx] at hs'; exact h.behind hg hkb hs'⟩
      · rcases h.all t ht a b hab hkb hg with h1 | ⟨h0, h1⟩
        · exact .inl (by omega)
        · exact .inr ⟨h0, fun s' hs' => by rw [List.getElem?_set, if_neg htx] at hs'; exact h1 s' hs'⟩
  · rcases Nat.le_total (k - s) L with hm | hm
    · rw [Nat.max_eq_left hm]
      rcases h.one with h0 | ⟨t, a, h1, h2, h3⟩
      · exact .inl h0
      · exact .inr ⟨t, a, h1, by omega, h3⟩
    · rw [Nat.max_eq_right hm]
      exact .inr ⟨x, s, by rw [← h.len]; exact hxl, by omega, by rw [show s + (k - s) = k by omega]; exact s2⟩

theorem Waits.close {l : List Int} {T : Nat} {ss : List Nat} {j L : Nat} (h : Waits l T l.length ss j L) {s : Nat} (hs : ss[j]? = some s) : Waits l T l.length ss (j + 1) (max L (l.length - s)) := by
  have hj : j < T := by rw [← h.len]; exact (List.getElem?_eq_some_iff.1 hs).1
  obtain ⟨s1, s2, s3⟩ := h.le j s hs
  refine ⟨h.len, h.le, fun t ht a b hab hb hg => ?_, ?_⟩
  · rcases h.all t ht a b hab hb hg with h1 | ⟨h0, h1⟩
    · exact .inl (by omega)
    · rcases Nat.lt_or_ge j t with hjt | hjt
      · exact .inr ⟨hjt, h1⟩
      · obtain rfl : j = t := by omega
        have := h1 s hs
        exact .inl (by omega)
  · rcases Nat.le_total (l.length - s) L with hm | hm
    · rw [Nat.max_eq_left hm]
      rcases h.one with h0 | ⟨t, a, h1, h2, h3⟩
      · exact .inl h0
      · exact .inr ⟨t, a, h1, by omega, h3⟩
    · rw [Nat.max_eq_right hm]
      exact .inr ⟨j, s, hj, by omega, by rw [show s + (l.length - s) = l.length by omega]; exact s2⟩

/-- A window of a thread that has none of its numbers is not fair. -/
theorem gone_unfair {l : List Int} {T b t a : Nat} (hf : fairN l T b = true) (ht : t < T) (ha : a + b ≤ l.length) (hg : gone l t a (a + b)) : False := by
  obtain ⟨j, h1, h2, h3⟩ := fair_iff.1 hf a ha t ht
  exact hg j h1 h2 h3
theorem most_of {l : List Int} {T R : Nat} (h1 : ∀ t, t < T → ∀ a b, a ≤ b → b ≤ l.length → gone l t a b → b - a ≤ R) (h2 : R = 0 ∨ ∃ t a, t < T ∧ a + R ≤ l.length ∧ gone l t a (a + R)) : mostF l T l.length 1 = R + 1 := by
  have hfair : fairN l T (R + 1) = true := fair_iff.2 fun i hi t ht => Classical.byContradiction fun hno => by
    have := h1 t ht i (i + (R + 1)) (by omega) hi fun q hq1 hq2 hq3 => hno ⟨q, hq1, by omega, hq3⟩
    omega
  have hle := most_le (f := l.length) (b := 1) hfair (by omega)
  have hge := most_ge l T l.length 1
  have hmf := most_is_fair l T
  rcases h2 with rfl | ⟨t, a, ht, ha, hg⟩
  · omega
  · rcases Nat.lt_or_ge (mostF l T l.length 1) (R + 1) with hlt | h
    · exact (gone_unfair hmf ht (by omega) fun i hi1 hi2 => hg i hi1 (by omega)).elim
    · omega
theorem Waits.most {l : List Int} {T : Nat} {ss : List Nat} {L : Nat} (h : Waits l T l.length ss T L) : mostF l T l.length 1 = L + 1 :=
  most_of (fun t ht a b hab hb hg => by
    rcases h.all t ht a b hab hb hg with h1 | ⟨h0, _⟩
    · exact h1
    · omega) h.one
theorem all_in {T : Nat} {l : List Int} (h : ∀ t : Nat, t < T → (t : Int) ∈ l) : T ≤ l.length := by
  induction T generalizing l with
  | zero => exact Nat.zero_le _
  | succ T ih =>
    have hm := h T (by omega)
    have := ih (l := l.erase (T : Int)) fun t ht => (List.mem_erase_of_ne (by omega)).2 (h t (by omega))
    rw [List.length_erase_of_mem hm] at this
    have := List.length_pos_of_mem hm
    omega
theorem most_more {l : List Int} {T : Nat} (h : l.length < T) : mostF l T l.length 1 = l.length + 1 := by
  refine most_of (fun t ht a b hab hb hg => by omega) (.inr ?_)
  refine Classical.byContradiction fun hno => ?_
  have := all_in (T := T) (l := l) fun t ht => Classical.byContradiction fun hm => hno ⟨t, 0, ht, by omega, fun i _ hi e => hm (List.mem_of_getElem? e)⟩
  omega
end Go.Proofs.Ythheehcdicaggaa
