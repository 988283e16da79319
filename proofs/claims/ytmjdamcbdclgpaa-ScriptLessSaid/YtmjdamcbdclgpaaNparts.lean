/- Parts of a text: by places, as the program's loops find them, and by its bytes, one by one. Plain words that name no function of the program. -/
import Derived.Test.YtmjdamcbdclgpaaNsay
namespace Go.Proofs.Ytmjdamcbdclgpaa
open Go.RowKit
set_option linter.unusedVariables false

/-- What has been cut off ahead of place k, and where the part begins that place k is in. -/
def cuts (s : ByteArray) (b : Int) : Nat → List ByteArray × Nat
  | 0 => ([], 0)
  | k + 1 => if h : k < s.size then (if (s[k].toNat : Int) = b then ((cuts s b k).1 ++ [s.extract (cuts s b k).2 k], k + 1) else cuts s b k) else cuts s b k
def partsB (s : ByteArray) (b : Int) : List ByteArray := (cuts s b s.size).1 ++ [s.extract (cuts s b s.size).2 s.size]
def hostB (s : ByteArray) : Bool := decide (s.size ≤ 32) && (partsB s 46).all nameB

section
variable {s : ByteArray} {b : Int} {k : Nat}
theorem cuts_hit (h : k < s.size) (e : (s[k].toNat : Int) = b) : cuts s b (k + 1) = ((cuts s b k).1 ++ [s.extract (cuts s b k).2 k], k + 1) := by
  rw [cuts, dif_pos h, if_pos e]
theorem cuts_miss (h : k < s.size) (e : ¬ (s[k].toNat : Int) = b) : cuts s b (k + 1) = cuts s b k := by
  rw [cuts, dif_pos h, if_neg e]
theorem cuts_at (s : ByteArray) (b : Int) : ∀ k, (cuts s b k).2 ≤ k
  | 0 => Nat.le_refl _
  | k + 1 => by
    have := cuts_at s b k
    rw [cuts]
    split
    · split
      · exact Nat.le_refl _
      · omega
    · omega
theorem cuts_count (s : ByteArray) (b : Int) : ∀ k, (cuts s b k).1.length ≤ k
  | 0 => Nat.le_refl _
  | k + 1 => by
    have := cuts_count s b k
    rw [cuts]
    split
    · split
      · simp; omega
      · omega
    · omega
theorem cuts_prefix (s : ByteArray) (b : Int) {k m : Nat} (h : k ≤ m) : (cuts s b k).1 <+: (cuts s b m).1 := by
  induction m with
  | zero => obtain rfl : k = 0 := by omega
            exact List.prefix_refl _
  | succ m ih =>
    by_cases e : k = m + 1
    · subst e; exact List.prefix_refl _
    · refine (ih (by omega)).trans ?_
      rw [cuts]
      split
      · split
        · exact List.prefix_append _ _
        · exact List.prefix_refl _
      · exact List.prefix_refl _
theorem cuts_parts (s : ByteArray) (b : Int) (h : k ≤ s.size) : (cuts s b k).1 <+: partsB s b := (cuts_prefix s b h).trans (List.prefix_append _ _)
theorem cuts_lt (s : ByteArray) (b : Int) (h : k ≤ s.size) : (cuts s b k).1.length < (partsB s b).length := by
  have := (cuts_prefix s b h).length_le
  simp [partsB]; omega
theorem partsB_count (s : ByteArray) (b : Int) : (partsB s b).length ≤ s.size + 1 := by
  have := cuts_count s b s.size
  simp [partsB]; omega
theorem partsB_some (s : ByteArray) (b : Int) : 0 < (partsB s b).length := by simp [partsB]
end

/-! By bytes. -/
def partsL (b : Int) : List UInt8 → List (List UInt8)
  | [] => [[]]
  | c :: cs => if (c.toNat : Int) = b then [] :: partsL b cs else match partsL b cs with
    | [] => [[c]]
    | p :: ps => (c :: p) :: ps
def prep (cur : List UInt8) : List (List UInt8) → List (List UInt8)
  | [] => [cur]
  | p :: ps => (cur ++ p) :: ps
theorem partsL_ne (b : Int) (l : List UInt8) : partsL b l ≠ [] := by
  cases l with
  | nil => simp [partsL]
  | cons c cs => rw [partsL]; split
                 · simp
                 · split <;> simp
theorem partsL_hit {b : Int} {c : UInt8} (cs : List UInt8) (h : (c.toNat : Int) = b) : partsL b (c :: cs) = [] :: partsL b cs := by rw [partsL, if_pos h]
theorem partsL_miss {b : Int} {c : UInt8} (cs : List UInt8) (h : ¬ (c.toNat : Int) = b) : partsL b (c :: cs) = prep [c] (partsL b cs) := by
  rw [partsL, if_neg h]
  cases partsL b cs <;> rfl
theorem prep_nil {l : List (List UInt8)} (h : l ≠ []) : prep [] l = l := by cases l with
  | nil => exact absurd rfl h
  | cons p ps => rfl
theorem prep_prep (x y : List UInt8) {l : List (List UInt8)} (h : l ≠ []) : prep x (prep y l) = prep (x ++ y) l := by cases l with
  | nil => exact absurd rfl h
  | cons p ps => simp [prep]

theorem cuts_list (s : ByteArray) (b : Int) : ∀ k, k ≤ s.size → partsL b s.data.toList = (cuts s b k).1.map (fun p => p.data.toList) ++ prep ((s.data.toList.take k).drop (cuts s b k).2) (partsL b (s.data.toList.drop k))
  | 0, _ => by simp [cuts, prep_nil (partsL_ne _ _)]
  | k + 1, h => by
    have hk : k < s.size := by omega
    have hl : k < s.data.toList.length := by simpa using hk
    have e : s.data.toList.drop k = s[k] :: s.data.toList.drop (k + 1) := by rw [List.drop_eq_getElem_cons hl]; rfl
    have ht : s.data.toList.take (k + 1) = s.data.toList.take k ++ [s[k]] := by rw [List.take_succ_eq_append_getElem hl]; rfl
    have hat := cuts_at s b k
    have ih := cuts_list s b k (by omega)
    rw [e] at ih
    by_cases hb : (s[k].toNat : Int) = b
    · rw [cuts_hit hk hb, ih, partsL_hit _ hb]
      have hx : (s.extract (cuts s b k).2 k).data.toList = (s.data.toList.take k).drop (cuts s b k).2 := by
        rw [ByteArray.data_extract, Array.toList_extract, List.extract_eq_take_drop, List.drop_take]
      have hz : (s.data.toList.take (k + 1)).drop (k + 1) = [] := by simp
      rw [List.map_append, List.map_singleton, hx, hz, prep_nil (partsL_ne _ _)]
      simp [prep]
    · rw [cuts_miss hk hb, ih, partsL_miss _ hb, prep_prep _ _ (partsL_ne _ _), ht, List.drop_append_of_le_length (by simp; omega)]

theorem partsB_list (s : ByteArray) (b : Int) : (partsB s b).map (fun p => p.data.toList) = partsL b s.data.toList := by
  have h := cuts_list s b s.size (Nat.le_refl _)
  have hx : (s.extract (cuts s b s.size).2 s.size).data.toList = (s.data.toList.take s.size).drop (cuts s b s.size).2 := by
    rw [ByteArray.data_extract, Array.toList_extract, List.extract_eq_take_drop, List.drop_take]
  have hd : s.data.toList.drop s.size = [] := List.drop_eq_nil_of_le (by simp)
  rw [hd, ← hx] at h
  rw [h, partsB, List.map_append]
  simp [partsL, prep]

theorem hostB_list (s : ByteArray) : hostB s = (decide (s.data.toList.length ≤ 32) && (partsL 46 s.data.toList).all (kindL 16 lowI wordI)) := by
  rw [hostB, ← partsB_list, List.all_map]
  rfl
theorem partsL_split (b : Int) (c : UInt8) (hc : (c.toNat : Int) = b) (ys : List UInt8) : ∀ xs, partsL b (xs ++ c :: ys) = partsL b xs ++ partsL b ys
  | [] => by rw [List.nil_append, partsL_hit _ hc]; rfl
  | x :: xs => by
    have ih := partsL_split b c hc ys xs
    by_cases hx : (x.toNat : Int) = b
    · rw [List.cons_append, partsL_hit _ hx, partsL_hit _ hx, ih]; rfl
    · rw [List.cons_append, partsL_miss _ hx, partsL_miss _ hx, ih]
      have := partsL_ne b xs
      revert this
      cases partsL b xs with
      | nil => intro h; exact absurd rfl h
      | cons p ps => intro _; rfl
theorem partsL_whole (b : Int) : ∀ l : List UInt8, (∀ c ∈ l, (c.toNat : Int) ≠ b) → partsL b l = [l]
  | [], _ => rfl
  | c :: cs, h => by
    rw [partsL_miss _ (h c (by simp)), partsL_whole b cs (fun x hx => h x (by simp [hx]))]
    rfl
theorem partsL_clean (b : Int) : ∀ l : List UInt8, ∀ p ∈ partsL b l, ∀ c ∈ p, (c.toNat : Int) ≠ b
  | [], p, hp, c, hc => by simp [partsL] at hp; subst hp; cases hc
  | x :: xs, p, hp, c, hc => by
    have ih := partsL_clean b xs
    by_cases hx : (x.toNat : Int) = b
    · rw [partsL_hit _ hx] at hp
      rcases List.mem_cons.1 hp with rfl | hp
      · cases hc
      · exact ih p hp c hc
    · rw [partsL_miss _ hx] at hp
      have hn := partsL_ne b xs
      revert hp ih hn
      cases partsL b xs with
      | nil => intro _ _ h; exact absurd rfl h
      | cons q qs =>
        intro hp ih _
        rcases List.mem_cons.1 hp with rfl | hp
        · rcases List.mem_cons.1 hc with rfl | hc
          · exact hx
          · exact ih q (by simp) c hc
        · exact ih p (by simp [hp]) c hc
end Go.Proofs.Ytmjdamcbdclgpaa
