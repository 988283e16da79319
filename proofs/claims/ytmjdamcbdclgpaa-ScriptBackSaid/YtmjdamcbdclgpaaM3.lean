/- Numbers as bytes, as plain data: what is written, what is read, and that the one is the other's way back. No word of the program. -/
import Derived.Test.YtmjdamcbdclgpaaArgs
import Derived.Test.YtmjdamcbdclgpaaM1
import Derived.Test.YtmjdamcbdclgpaaCok
namespace Go.Proofs.Ytmjdamcbdclgpaa
open Go.RowKit
set_option linter.unusedVariables false
set_option linter.unusedSimpArgs false

/-! One number: its parts of 7 bits, the lowest one first. -/
def encN (n : Nat) : List Int := if h : n < 128 then [(n : Int)] else ((n % 128 + 128 : Nat) : Int) :: encN (n / 128)
termination_by n
decreasing_by omega
theorem enc_small {n : Nat} (h : n < 128) : encN n = [(n : Int)] := by rw [encN, dif_pos h]
theorem enc_big {n : Nat} (h : ¬ n < 128) : encN n = ((n % 128 + 128 : Nat) : Int) :: encN (n / 128) := by rw [encN, dif_neg h]
theorem enc_ne (n : Nat) : encN n ≠ [] := by
  by_cases h : n < 128
  · rw [enc_small h]; simp
  · rw [enc_big h]; simp
theorem enc_byte (n : Nat) : ∀ x ∈ encN n, 0 ≤ x ∧ x < 256 := by
  induction n using Nat.strongRecOn with
  | ind n ih =>
    intro x hx
    by_cases h : n < 128
    · rw [enc_small h, List.mem_singleton] at hx
      omega
    · rw [enc_big h] at hx
      rcases List.mem_cons.1 hx with rfl | hx
      · omega
      · exact ih (n / 128) (by omega) x hx
theorem enc_len {n f : Nat} (hf : 0 < f) (h : n < 128 ^ f) : (encN n).length ≤ f := by
  induction f generalizing n with
  | zero => omega
  | succ f ih =>
    by_cases hs : n < 128
    · rw [enc_small hs]; simp
    · rw [enc_big hs, List.length_cons]
      have hf' : 0 < f := by
        rcases Nat.eq_zero_or_pos f with h0 | h0
        · subst h0; simp at h; omega
        · exact h0
      have := ih (n := n / 128) hf' (by rw [Nat.pow_succ] at h; omega)
      omega
/-- The first number of a row of bytes, of at most f parts, and what stands behind it. -/
def dec1 : Nat → List Int → Option (Nat × List Int)
  | 0, _ => none
  | _ + 1, [] => none
  | f + 1, x :: r => if x < 128 then some (x.toNat, r) else match dec1 f r with
    | none => none
    | some (m, r') => if m = 0 then none else some ((x - 128).toNat + 128 * m, r')
theorem dec_enc {n f : Nat} (hf : 0 < f) (h : n < 128 ^ f) (r : List Int) : dec1 f (encN n ++ r) = some (n, r) := by
  induction f generalizing n with
  | zero => omega
  | succ f ih =>
    by_cases hs : n < 128
    · rw [enc_small hs, List.singleton_append, dec1, if_pos (by omega)]
      rfl
    · have hf' : 0 < f := by
        rcases Nat.eq_zero_or_pos f with h0 | h0
        · subst h0; simp at h; omega
        · exact h0
      rw [enc_big hs, List.cons_append, dec1, if_neg (by omega), ih (n := n / 128) hf' (by rw [Nat.pow_succ] at h; omega)]
      simp only
      rw [if_neg (by omega)]
      congr 2
      omega
theorem enc_dec {f : Nat} {b r : List Int} {m : Nat} (hb : ∀ x ∈ b, 0 ≤ x ∧ x < 256) (h : dec1 f b = some (m, r)) : b = encN m ++ r ∧ m < 128 ^ f := by
  induction f generalizing b m with
  | zero => simp [dec1] at h
  | succ f ih =>
    cases b with
    | nil => simp [dec1] at h
    | cons x b =>
      have hx := hb x (List.mem_cons_self ..)
      have hp : 0 < 128 ^ f := Nat.pow_pos (by omega)
      rw [dec1] at h
      by_cases hs : x < 128
      · rw [if_pos hs] at h
        cases h
        refine ⟨?_, by rw [Nat.pow_succ]; omega⟩
        rw [enc_small (by omega), List.singleton_append]
        congr 1
        omega
      · rw [if_neg hs] at h
        rcases hd : dec1 f b with _ | ⟨q, r'⟩
        · rw [hd] at h; cases h
        · rw [hd] at h
          simp only at h
          by_cases hq : q = 0
          · rw [if_pos hq] at h; cases h
          · rw [if_neg hq] at h
            cases h
            obtain ⟨e, hlt⟩ := ih (fun y hy => hb y (List.mem_cons_of_mem _ hy)) hd
            refine ⟨?_, by rw [Nat.pow_succ]; omega⟩
            rw [enc_big (by omega), List.cons_append, ← show q = ((x - 128).toNat + 128 * q) / 128 by omega, ← e]
            congr 1
            omega
theorem dec_less {f : Nat} {b r : List Int} {m : Nat} (h : dec1 f b = some (m, r)) : r.length < b.length := by
  induction f generalizing b m with
  | zero => simp [dec1] at h
  | succ f ih =>
    cases b with
    | nil => simp [dec1] at h
    | cons x b =>
      rw [dec1] at h
      by_cases hs : x < 128
      · rw [if_pos hs] at h
        cases h
        simp
      · rw [if_neg hs] at h
        rcases hd : dec1 f b with _ | ⟨q, r'⟩
        · rw [hd] at h; cases h
        · rw [hd] at h
          simp only at h
          by_cases hq : q = 0
          · rw [if_pos hq] at h; cases h
          · rw [if_neg hq] at h
            cases h
            have := ih hd
            simp
            omega

/-! All numbers. -/
def encL (l : List Int) : List Int := (l.map fun n => encN n.toNat).flatten
def bytesI (l : List Int) : List Int × Int := if 4000 < l.length then ([], 6) else if l.any (· < 0) then ([], 1) else (encL l, 0)
/-- Numbers are read from the front on, n of them at most. -/
def decL : Nat → List Int → List Int × Int
  | 0, b => if b = [] then ([], 0) else match dec1 9 b with
    | none => ([], 11)
    | some _ => ([], 6)
  | n + 1, b => if b = [] then ([], 0) else match dec1 9 b with
    | none => ([], 11)
    | some (m, r) => bif (decL n r).2 == 0 then ((m : Int) :: (decL n r).1, 0) else ([], (decL n r).2)
def picksI (b : List Int) : List Int × Int := decL 4000 b

theorem encL_cons (x : Int) (l : List Int) : encL (x :: l) = encN x.toNat ++ encL l := rfl
theorem encL_append (l m : List Int) : encL (l ++ m) = encL l ++ encL m := by simp [encL]
theorem encL_byte (l : List Int) : ∀ x ∈ encL l, 0 ≤ x ∧ x < 256 := fun x hx => by
  obtain ⟨m, hm, hx⟩ := List.mem_flatten.1 hx
  obtain ⟨n, _, rfl⟩ := List.mem_map.1 hm
  exact enc_byte _ x hx
theorem encL_len {l : List Int} (h : ∀ x ∈ l, x < 9223372036854775808) : (encL l).length ≤ 9 * l.length := by
  induction l with
  | nil => simp [encL]
  | cons x l ih =>
    have h1 := ih fun y hy => h y (List.mem_cons_of_mem _ hy)
    have h2 := h x (List.mem_cons_self ..)
    have h3 := enc_len (n := x.toNat) (f := 9) (by omega) (by omega)
    rw [encL_cons, List.length_append, List.length_cons]
    omega
theorem decL_encL {n : Nat} {l : List Int} (hn : l.length ≤ n) (h : ∀ x ∈ l, 0 ≤ x ∧ x < 9223372036854775808) : decL n (encL l) = (l, 0) := by
  induction n generalizing l with
  | zero =>
    have : l = [] := List.eq_nil_of_length_eq_zero (by omega)
    subst this
    simp [decL, encL]
  | succ n ih =>
    cases l with
    | nil => simp [decL, encL]
    | cons x l =>
      have hx := h x (List.mem_cons_self ..)
      rw [encL_cons, decL, if_neg (by simp [enc_ne]), dec_enc (by omega) (by omega)]
      simp only
      rw [ih (by simpa using hn) fun y hy => h y (List.mem_cons_of_mem _ hy)]
      simp
      omega
theorem encL_decL {n : Nat} {b l : List Int} (hb : ∀ x ∈ b, 0 ≤ x ∧ x < 256) (h : decL n b = (l, 0)) : encL l = b ∧ l.length ≤ n ∧ ∀ x ∈ l, 0 ≤ x ∧ x < 9223372036854775808 := by
  induction n generalizing b l with
  | zero =>
    rw [decL] at h
    by_cases hn : b = []
    · rw [if_pos hn] at h
      cases h
      exact ⟨by rw [hn]; rfl, by simp, fun x hx => by cases hx⟩
    · rw [if_neg hn] at h
      rcases hd : dec1 9 b with _ | ⟨m, r⟩ <;> rw [hd] at h <;> simp at h
  | succ n ih =>
    rw [decL] at h
    by_cases hn : b = []
    · rw [if_pos hn] at h
      cases h
      exact ⟨by rw [hn]; rfl, by simp, fun x hx => by cases hx⟩
    · rw [if_neg hn] at h
      rcases hd : dec1 9 b with _ | ⟨m, r⟩
      · rw [hd] at h; simp at h
      · rw [hd] at h
        simp only at h
        obtain ⟨e, hm⟩ := enc_dec hb hd
        rcases hz : ((decL n r).2 == 0) with _ | _
        · rw [hz, cond_false] at h
          simp only [Prod.mk.injEq] at h
          rw [h.2] at hz
          cases hz
        · rw [hz, cond_true] at h
          cases h
          obtain ⟨h1, h2, h3⟩ := ih (b := r) (l := (decL n r).1) (fun x hx => hb x (by rw [e]; exact List.mem_append_right _ hx)) (Prod.ext rfl (by simpa using hz))
          refine ⟨by rw [encL_cons, h1, e]; rfl, by simpa using h2, fun x hx => ?_⟩
          rcases List.mem_cons.1 hx with rfl | hx
          · omega
          · exact h3 x hx
theorem decL_none {n : Nat} {b l : List Int} {e : Int} (h : decL n b = (l, e)) (he : e ≠ 0) : l = [] := by
  cases n with
  | zero =>
    rw [decL] at h
    split at h
    · cases h; rfl
    · split at h <;> (cases h; rfl)
  | succ n =>
    rw [decL] at h
    split at h
    · cases h; rfl
    · split at h
      · cases h; rfl
      · rename_i m r _
        rcases hz : ((decL n r).2 == 0) with _ | _ <;> rw [hz] at h
        · rw [cond_false] at h; cases h; rfl
        · rw [cond_true] at h; cases h; exact absurd rfl he

/-! What the statements say. -/
theorem picks_bytes {l : List Int} (h : ∀ x ∈ l, x < 9223372036854775808) (ok : (bytesI l).2 = 0) : picksI (bytesI l).1 = (l, 0) := by
  unfold bytesI at ok ⊢
  by_cases h1 : 4000 < l.length
  · rw [if_pos h1] at ok; simp at ok
  · rw [if_neg h1] at ok ⊢
    by_cases h2 : l.any (· < 0) = true
    · rw [if_pos h2] at ok; simp at ok
    · rw [if_neg h2]
      refine decL_encL (by omega) fun x hx => ⟨?_, h x hx⟩
      have := List.any_eq_false.1 (Bool.not_eq_true _ ▸ h2) x hx
      simpa using this
theorem bytes_picks {b : List Int} (hb : ∀ x ∈ b, 0 ≤ x ∧ x < 256) (ok : (picksI b).2 = 0) : bytesI (picksI b).1 = (b, 0) := by
  obtain ⟨h1, h2, h3⟩ := encL_decL (l := (picksI b).1) hb (Prod.ext rfl ok)
  unfold bytesI
  rw [if_neg (by omega), if_neg, h1]
  rw [List.any_eq_true]
  rintro ⟨x, hx, hl⟩
  have := (h3 x hx).1
  simp at hl
  omega
theorem picks_nil {b : List Int} (h : (picksI b).2 ≠ 0) : (picksI b).1 = [] := decL_none (l := (picksI b).1) (e := (picksI b).2) rfl h
theorem bytes_nil {l : List Int} (h : (bytesI l).2 ≠ 0) : (bytesI l).1 = [] := by
  unfold bytesI at h ⊢
  split
  · rfl
  · split
    · rfl
    · rename_i h1 h2
      rw [if_neg h1, if_neg h2] at h
      exact absurd rfl h

/-! One number, part by part, as a loop reads it. -/
def lowN : Nat → List Int → Nat
  | 0, _ => 0
  | _ + 1, [] => 0
  | k + 1, x :: r => (x - 128).toNat + 128 * lowN k r
theorem lowN_succ {k : Nat} {r : List Int} (h : k < r.length) : lowN (k + 1) r = lowN k r + 128 ^ k * (r[k] - 128).toNat := by
  induction k generalizing r with
  | zero =>
    cases r with
    | nil => simp at h
    | cons x r => simp [lowN]
  | succ k ih =>
    cases r with
    | nil => simp at h
    | cons x r =>
      have := ih (r := r) (by simpa using h)
      rw [lowN, this, lowN, Nat.mul_add, Nat.pow_succ]
      simp only [List.getElem_cons_succ]
      rw [← Nat.mul_assoc, Nat.mul_comm 128 (128 ^ k)]
      omega
theorem lowN_lt {k : Nat} {r : List Int} (h : ∀ x ∈ r, x < 256) : lowN k r < 128 ^ k := by
  induction k generalizing r with
  | zero => simp [lowN]
  | succ k ih =>
    cases r with
    | nil => rw [lowN]; exact Nat.pow_pos (by omega)
    | cons x r =>
      have h1 := ih (r := r) fun y hy => h y (List.mem_cons_of_mem _ hy)
      have h2 := h x (List.mem_cons_self ..)
      rw [lowN, Nat.pow_succ]
      omega
/-- Behind k parts that are not the last ones. -/
theorem dec_parts {k f : Nat} {r : List Int} (hk : k ≤ f) (hr : ∀ j (h : j < r.length), j < k → 128 ≤ r[j]) (hl : k ≤ r.length) :
    dec1 f r = match dec1 (f - k) (r.drop k) with
      | none => none
      | some (m, r') => if 0 < k ∧ m = 0 then none else some (lowN k r + 128 ^ k * m, r') := by
  induction k generalizing f r with
  | zero =>
    simp only [Nat.sub_zero, List.drop_zero, lowN, Nat.pow_zero, Nat.one_mul, Nat.zero_add, Nat.lt_irrefl, false_and, if_false]
    rcases dec1 f r with _ | ⟨m, r'⟩ <;> rfl
  | succ k ih =>
    cases r with
    | nil => simp at hl
    | cons x r =>
      obtain ⟨f', rfl⟩ : ∃ f', f = f' + 1 := ⟨f - 1, by omega⟩
      have hx := hr 0 (by simp) (by omega)
      simp only [List.getElem_cons_zero] at hx
      have := ih (f := f') (r := r) (by omega) (fun j h hj => by have := hr (j + 1) (by simpa using h) (by omega); simpa using this) (by simpa using hl)
      rw [dec1, if_neg (by omega), this, List.drop_succ_cons, show f' + 1 - (k + 1) = f' - k by omega]
      rcases dec1 (f' - k) (r.drop k) with _ | ⟨m, r'⟩
      · rfl
      · simp only
        have hp : 0 < 128 ^ k := Nat.pow_pos (by omega)
        by_cases hm : m = 0
        · subst hm
          by_cases h0 : 0 < k
          · rw [if_pos ⟨h0, rfl⟩, if_pos ⟨by omega, rfl⟩]
          · obtain rfl : k = 0 := by omega
            simp [lowN]
        · rw [if_neg (fun h => hm h.2), if_neg (fun h => hm h.2)]
          simp only
          have : 0 < 128 ^ k * m := Nat.mul_pos hp (by omega)
          rw [if_neg (by omega), lowN, Nat.pow_succ, Nat.mul_add]
          congr 2
          rw [← Nat.mul_assoc, Nat.mul_comm 128 (128 ^ k)]
          omega
section
variable {b : List Int} {i k : Nat}
/-- The parts that stand from i on: they end within the number. -/
theorem dec_cut (hk : k ≤ 9) (hr : ∀ j (h : i + j < b.length), j < k → 128 ≤ b[i + j]) (hl : i + k ≤ b.length) (h : i + k = b.length ∨ k = 9) : dec1 9 (b.drop i) = none := by
  rw [dec_parts (k := k) hk (fun j h hj => by rw [List.getElem_drop]; exact hr j (by rw [List.length_drop] at h; omega) hj) (by rw [List.length_drop]; omega)]
  rcases h with h | rfl
  · rw [List.drop_drop, List.drop_of_length_le (by omega)]
    rcases 9 - k with _ | f <;> rfl
  · rfl
theorem dec_last (hk : k < 9) (hr : ∀ j (h : i + j < b.length), j < k → 128 ≤ b[i + j]) (hl : i + k < b.length) (hx : b[i + k] < 128) :
    dec1 9 (b.drop i) = if 0 < k ∧ b[i + k].toNat = 0 then none else some (lowN k (b.drop i) + 128 ^ k * b[i + k].toNat, b.drop (i + k + 1)) := by
  rw [dec_parts (k := k) (by omega) (fun j h hj => by rw [List.getElem_drop]; exact hr j (by rw [List.length_drop] at h; omega) hj) (by rw [List.length_drop]; omega)]
  obtain ⟨f, hf⟩ : ∃ f, 9 - k = f + 1 := ⟨8 - k, by omega⟩
  rw [List.drop_drop, hf, List.drop_eq_getElem_cons hl, dec1, if_pos hx]
end
/-- What is told at last, if these numbers were read, and this is left. -/
def goesOn (ls : List Int) (b : List Int) : List Int × Int := bif (decL (4000 - ls.length) b).2 == 0 then (ls ++ (decL (4000 - ls.length) b).1, 0) else ([], (decL (4000 - ls.length) b).2)
theorem goes_start (b : List Int) : goesOn [] b = picksI b := by
  unfold goesOn picksI
  rcases hz : ((decL 4000 b).2 == 0) with _ | _
  · rw [cond_false]
    exact Prod.ext (decL_none (l := (decL 4000 b).1) (e := (decL 4000 b).2) rfl (by simpa using hz)).symm rfl
  · rw [cond_true]
    exact Prod.ext rfl ((eq_of_beq hz).symm)
theorem decL_nil (n : Nat) : decL n [] = ([], 0) := by cases n <;> simp [decL]
theorem goes_end (ls : List Int) : goesOn ls [] = (ls, 0) := by
  unfold goesOn
  rw [decL_nil]
  simp
theorem goes_bad (ls : List Int) {b : List Int} (hb : b ≠ []) (h : dec1 9 b = none) : goesOn ls b = ([], 11) := by
  unfold goesOn
  have : decL (4000 - ls.length) b = ([], 11) := by
    rcases 4000 - ls.length with _ | n <;> rw [decL, if_neg hb, h]
  rw [this]
  rfl
theorem goes_full {ls : List Int} {b r : List Int} {m : Nat} (hl : ls.length = 4000) (hb : b ≠ []) (h : dec1 9 b = some (m, r)) : goesOn ls b = ([], 6) := by
  unfold goesOn
  have : decL (4000 - ls.length) b = ([], 6) := by rw [hl, Nat.sub_self, decL, if_neg hb, h]
  rw [this]
  rfl
theorem goes_next {ls : List Int} {b r : List Int} {m : Nat} (hl : ls.length < 4000) (hb : b ≠ []) (h : dec1 9 b = some (m, r)) : goesOn ls b = goesOn (ls ++ [(m : Int)]) r := by
  unfold goesOn
  obtain ⟨n, hn⟩ : ∃ n, 4000 - ls.length = n + 1 := ⟨3999 - ls.length, by omega⟩
  have hn' : 4000 - (ls ++ [(m : Int)]).length = n := by rw [List.length_append, List.length_singleton]; omega
  rw [hn, hn', decL, if_neg hb, h]
  simp only
  rcases hz : ((decL n r).2 == 0) with _ | _
  · simp only [cond_false, hz]
  · simp [hz]
end Go.Proofs.Ytmjdamcbdclgpaa

/- Scripts, as plain data, and in memory. -/
namespace Go.Proofs.Ytmjdamcbdclgpaa
open Go.RowKit
set_option linter.unusedVariables false
set_option linter.unusedSimpArgs false

/-- The slice value '.slice A n c' holds elements of m cells each, and lies below block B. -/
def RowsN (m : Nat) (w : World) (B : Nat) (A : Option Addr) (rs : List (List Value)) : Prop :=
  0 < rs.length → ∃ ad, A = some ad ∧ ad.block < B ∧ ∀ i r, rs[i]? = some r → ∀ j v, r[j]? = some v → w.cell? (ad.add (i * m + j)) = some v
section
variable {m : Nat} {w w' : World} {B B' : Nat} {A : Option Addr} {rs : List (List Value)}
theorem RowsN.keep (h : RowsN m w B A rs) (hk : ∀ p : Addr, p.block < B → w'.cell? p = w.cell? p) : RowsN m w' B A rs := fun hn => by
  obtain ⟨ad, e, hb, hc⟩ := h hn
  exact ⟨ad, e, hb, fun i r hr j v hv => (hk _ (by rw [block_of_add]; exact hb)).trans (hc i r hr j v hv)⟩
theorem RowsN.more (h : RowsN m w B A rs) (hB : B ≤ B') : RowsN m w B' A rs := fun hn => by
  obtain ⟨ad, e, hb, hc⟩ := h hn
  exact ⟨ad, e, by omega, hc⟩
theorem RowsN.below (h : RowsN m w B A rs) (hb : Below B w w') : RowsN m w' B A rs := h.keep fun _ hp => hb.cell hp
theorem RowsN.take (h : RowsN m w B A rs) (k : Nat) : RowsN m w B A (rs.take k) := fun hn => by
  obtain ⟨ad, e, hb, hc⟩ := h (by simp at hn; omega)
  refine ⟨ad, e, hb, fun i r hr => hc i r ?_⟩
  have hi : i < k := by
    have := (List.getElem?_eq_some_iff.1 hr).1
    rw [List.length_take] at this
    omega
  rwa [List.getElem?_take_of_lt hi] at hr
theorem RowsN.cells (h : RowsN m w B A rs) {k : Nat} (hk : k < rs.length) : ∃ ad, A = some ad ∧ ad.block < B ∧ ∀ j v, rs[k][j]? = some v → w.cell? (ad.add (k * m + j)) = some v := by
  obtain ⟨ad, e, hb, hc⟩ := h (by omega)
  exact ⟨ad, e, hb, fun j v hv => hc k _ (List.getElem?_eq_getElem hk) j v hv⟩
end

/-- An operation. -/
structure Opn where
  kind : Int
  listen : ByteArray
  host : ByteArray
  path : ByteArray
  d0 : Int
  d1 : Int
  n : Int
  cfg : Cfg
def Opn.cells (o : Opn) : List Value := [.int .i64 o.kind, .string o.listen, .string o.host, .string o.path, .int .i64 o.d0, .int .i64 o.d1, .int .i64 o.n, .slice o.cfg.la o.cfg.ls.length o.cfg.lc, .slice o.cfg.ra o.cfg.rs.length o.cfg.rc, .slice o.cfg.ca o.cfg.cs.length o.cfg.cc]
def Opn.val (o : Opn) : Value := .agg #[.int .i64 o.kind, .string o.listen, .string o.host, .string o.path, .int .i64 o.d0, .int .i64 o.d1, .int .i64 o.n, .slice o.cfg.la o.cfg.ls.length o.cfg.lc, .slice o.cfg.ra o.cfg.rs.length o.cfg.rc, .slice o.cfg.ca o.cfg.cs.length o.cfg.cc]
/-- A thread: its operations, and where they lie. -/
structure Thr where
  oa : Option Addr
  oc : Nat
  os : List Opn
def Thr.cell (t : Thr) : Value := .slice t.oa t.os.length t.oc
structure Scr where
  first : Cfg
  ta : Option Addr
  tc : Nat
  ts : List Thr
  pa : Option Addr
  pc : Nat
  ps : List Int
def Scr.val (s : Scr) : Value := .agg #[.slice s.first.la s.first.ls.length s.first.lc, .slice s.first.ra s.first.rs.length s.first.rc, .slice s.first.ca s.first.cs.length s.first.cc, .slice s.ta s.ts.length s.tc, .slice s.pa s.ps.length s.pc]
structure ThrIn (w : World) (B : Nat) (t : Thr) : Prop where
  po : RowsN 10 w B t.oa (t.os.map Opn.cells)
  ol : t.os.length ≤ t.oc
  om : t.oc ≤ maxLen
  oi : ∀ o ∈ t.os, CfgIn w B o.cfg
structure ScrIn (w : World) (B : Nat) (s : Scr) : Prop where
  fi : CfgIn w B s.first
  pt : Reads w B s.ta (s.ts.map Thr.cell)
  tl : s.ts.length ≤ s.tc
  tm : s.tc ≤ maxLen
  ti : ∀ t ∈ s.ts, ThrIn w B t
  pp : Reads w B s.pa (s.ps.map (Value.int .i64))
  pl : s.ps.length ≤ s.pc
  pm : s.pc ≤ maxLen
  fs : ∀ x ∈ s.first.ls, x.size ≤ maxLen
section
variable {w w' : World} {B B' : Nat} {t : Thr} {s : Scr}
theorem ThrIn.keep (h : ThrIn w B t) (hk : ∀ p : Addr, p.block < B → w'.cell? p = w.cell? p) : ThrIn w' B t := ⟨h.po.keep hk, h.ol, h.om, fun o ho => (h.oi o ho).keep hk⟩
theorem ThrIn.more (h : ThrIn w B t) (hB : B ≤ B') : ThrIn w B' t := ⟨h.po.more hB, h.ol, h.om, fun o ho => (h.oi o ho).more hB⟩
theorem ScrIn.keep (h : ScrIn w B s) (hk : ∀ p : Addr, p.block < B → w'.cell? p = w.cell? p) : ScrIn w' B s :=
  ⟨h.fi.keep hk, h.pt.keep hk, h.tl, h.tm, fun t ht => (h.ti t ht).keep hk, h.pp.keep hk, h.pl, h.pm, h.fs⟩
theorem ScrIn.more (h : ScrIn w B s) (hB : B ≤ B') : ScrIn w B' s := ⟨h.fi.more hB, h.pt.more hB, h.tl, h.tm, fun t ht => (h.ti t ht).more hB, h.pp.more hB, h.pl, h.pm, h.fs⟩
theorem ScrIn.below (h : ScrIn w B s) (hb : Below B w w') : ScrIn w' B s := h.keep fun _ hp => hb.cell hp
theorem ScrIn.next (h : ScrIn w w.heap.size s) (hb : Below w.heap.size w w') : ScrIn w' w'.heap.size s := (h.below hb).more hb.size
theorem ScrIn.thread {k : Nat} (h : ScrIn w B s) (hk : k < s.ts.length) : ∃ ad, s.ta = some ad ∧ ad.block < B ∧ w.cell? (ad.add k) = some (.slice s.ts[k].oa s.ts[k].os.length s.ts[k].oc) := by
  obtain ⟨ad, e, hb, hc⟩ := h.pt (by rw [List.length_map]; omega)
  exact ⟨ad, e, hb, hc k _ (by rw [List.getElem?_map, List.getElem?_eq_getElem hk]; rfl)⟩
end
/-- Ten cells that lie in a row: an operation's. -/
structure Ten (w : World) (p : Addr) (o : Opn) : Prop where
  c0 : w.cell? p = some (.int .i64 o.kind)
  c1 : w.cell? ⟨p.block, p.off + 1, none⟩ = some (.string o.listen)
  c2 : w.cell? ⟨p.block, p.off + 2, none⟩ = some (.string o.host)
  c3 : w.cell? ⟨p.block, p.off + 3, none⟩ = some (.string o.path)
  c4 : w.cell? ⟨p.block, p.off + 4, none⟩ = some (.int .i64 o.d0)
  c5 : w.cell? ⟨p.block, p.off + 5, none⟩ = some (.int .i64 o.d1)
  c6 : w.cell? ⟨p.block, p.off + 6, none⟩ = some (.int .i64 o.n)
  c7 : w.cell? ⟨p.block, p.off + 7, none⟩ = some (.slice o.cfg.la o.cfg.ls.length o.cfg.lc)
  c8 : w.cell? ⟨p.block, p.off + 8, none⟩ = some (.slice o.cfg.ra o.cfg.rs.length o.cfg.rc)
  c9 : w.cell? ⟨p.block, p.off + 9, none⟩ = some (.slice o.cfg.ca o.cfg.cs.length o.cfg.cc)
theorem ThrIn.op {w : World} {B k : Nat} {t : Thr} (h : ThrIn w B t) (hk : k < t.os.length) : ∃ ad, t.oa = some ad ∧ ad.block < B ∧ Ten w (ad.add (k * 10)) t.os[k] := by
  obtain ⟨ad, e, hb, hc⟩ := h.po.cells (k := k) (by rw [List.length_map]; exact hk)
  rw [List.getElem_map] at hc
  exact ⟨ad, e, hb, hc 0 _ rfl, by rw [← add_field]; exact hc 1 _ rfl, by rw [← add_field]; exact hc 2 _ rfl, by rw [← add_field]; exact hc 3 _ rfl, by rw [← add_field]; exact hc 4 _ rfl, by rw [← add_field]; exact hc 5 _ rfl, by rw [← add_field]; exact hc 6 _ rfl, by rw [← add_field]; exact hc 7 _ rfl, by rw [← add_field]; exact hc 8 _ rfl, by rw [← add_field]; exact hc 9 _ rfl⟩
theorem Ten.below {w W : World} {p : Addr} {o : Opn} {B : Nat} (h : Ten w p o) (hp : p.block < B) (hb : Below B w W) : Ten W p o :=
  ⟨(hb.cell hp).trans h.c0, (hb.cell (p := ⟨p.block, p.off + 1, none⟩) hp).trans h.c1, (hb.cell (p := ⟨p.block, p.off + 2, none⟩) hp).trans h.c2, (hb.cell (p := ⟨p.block, p.off + 3, none⟩) hp).trans h.c3, (hb.cell (p := ⟨p.block, p.off + 4, none⟩) hp).trans h.c4, (hb.cell (p := ⟨p.block, p.off + 5, none⟩) hp).trans h.c5, (hb.cell (p := ⟨p.block, p.off + 6, none⟩) hp).trans h.c6, (hb.cell (p := ⟨p.block, p.off + 7, none⟩) hp).trans h.c7, (hb.cell (p := ⟨p.block, p.off + 8, none⟩) hp).trans h.c8, (hb.cell (p := ⟨p.block, p.off + 9, none⟩) hp).trans h.c9⟩

/-! When a script is right. -/
def opOk (o : Opn) : Bool := decide (1 ≤ o.kind) && decide (o.kind ≤ 6)
def thrOk (t : Thr) : Bool := decide (t.os.length ≤ 16) && t.os.all opOk
def scrOk (s : Scr) : Bool := (((checkI s.first.ls s.first.rs s.first.cs).1 == 0) && (decide (1 ≤ s.ts.length) && (decide (s.ts.length ≤ 8) && decide (s.ps.length ≤ 4000)))) && (s.ts.all thrOk && s.ps.all (0 ≤ ·))

/-! Names: each once, in the order in which they first come. -/
def addL (out l : List ByteArray) : List ByteArray := l.foldl (fun o x => bif hasL o x then o else o ++ [x]) out
def opNames (out : List ByteArray) (o : Opn) : List ByteArray := bif (o.kind == 3) && ((checkI o.cfg.ls o.cfg.rs o.cfg.cs).1 == 0) then addL out o.cfg.ls else out
def thrNames (out : List ByteArray) (t : Thr) : List ByteArray := t.os.foldl opNames out
def scrNames (s : Scr) : List ByteArray := s.ts.foldl thrNames (addL [] s.first.ls)
theorem foldl_take {α β : Type} (f : α → β → α) (a : α) {l : List β} {k : Nat} (h : k < l.length) : (l.take (k + 1)).foldl f a = f ((l.take k).foldl f a) l[k] := by
  rw [List.take_succ_eq_append_getElem h, List.foldl_append]
  rfl
theorem all_take {α : Type} {p : α → Bool} {l : List α} {k : Nat} (h : k < l.length) : (l.take (k + 1)).all p = ((l.take k).all p && p l[k]) := by
  rw [List.take_succ_eq_append_getElem h, List.all_append]
  simp
theorem addL_len (out l : List ByteArray) : (addL out l).length ≤ out.length + l.length := by
  induction l generalizing out with
  | nil => simp [addL]
  | cons x l ih =>
    have := ih (bif hasL out x then out else out ++ [x])
    unfold addL at this ⊢
    rw [List.foldl_cons]
    have h2 : (bif hasL out x then out else out ++ [x]).length ≤ out.length + 1 := by cases hasL out x <;> simp
    simp only [List.length_cons]
    omega
end Go.Proofs.Ytmjdamcbdclgpaa
