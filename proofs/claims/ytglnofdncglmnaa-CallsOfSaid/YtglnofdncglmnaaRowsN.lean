/- Rows of structs of m cells each, in memory. -/
import Derived.Test.YtglnofdncglmnaaFlat
namespace Go.Proofs.Ytglnofdncglmnaa
open Go.RowKit
set_option linter.unusedVariables false
set_option linter.unusedSimpArgs false

/-- The slice value '.slice A n c' holds elements of m cells each, and lies below block B. -/
def RowsN (m : Nat) (w : World) (B : Nat) (A : Option Addr) (rs : List (List Value)) : Prop :=
  0 < rs.length → ∃ ad, A = some ad ∧ ad.block < B ∧ ∀ i r, rs[i]? = some r → ∀ j v, r[j]? = some v → w.cell? (ad.add (i * m + j)) = some v
section
variable {m : Nat} {w w' : World} {B B' : Nat} {A : Option Addr} {rs : List (List Value)}
theorem RowsN.keep (h : RowsN m w B A rs) (hk : ∀ p : Addr, p.block < B → w'.cell? p = w.cell? p) : RowsN m w' B A rs := fun hn => by
  obtain ⟨ad, e, hb, hc⟩ := h hn
  exact ⟨ad, e, hb, fun i r hr j v hv => (hk _ (by rw [block_of_add]; exact hb)).trans (hc i r hr j v hv)⟩
theorem RowsN.more (h : RowsN m w B A rs) (hB : B ≤ B') : RowsN m w B' A rs := fun hn => by
  obtain ⟨ad, e, hb, hc⟩ := h hn
  exact ⟨ad, e, by omega, hc⟩
theorem RowsN.below (h : RowsN m w B A rs) (hb : Below B w w') : RowsN m w' B A rs := h.keep fun _ hp => hb.cell hp
theorem RowsN.take (h : RowsN m w B A rs) (k : Nat) : RowsN m w B A (rs.take k) := fun hn => by
  obtain ⟨ad, e, hb, hc⟩ := h (by simp at hn; omega)
  refine ⟨ad, e, hb, fun i r hr => hc i r ?_⟩
  have hi : i < k := by
    have := (List.getElem?_eq_some_iff.1 hr).1
    rw [List.length_take] at this
    omega
  rwa [List.getElem?_take_of_lt hi] at hr
theorem RowsN.cells (h : RowsN m w B A rs) {k : Nat} (hk : k < rs.length) : ∃ ad, A = some ad ∧ ad.block < B ∧ ∀ j v, rs[k][j]? = some v → w.cell? (ad.add (k * m + j)) = some v := by
  obtain ⟨ad, e, hb, hc⟩ := h (by omega)
  exact ⟨ad, e, hb, fun j v hv => hc k _ (List.getElem?_eq_getElem hk) j v hv⟩
end
theorem rowsN_block {w : World} {n m : Nat} {l : List (List Value)} {t : TypeId} (h4 : ∀ r ∈ l, r.length = m) (h : w.heap[n]? = some (.cells l.flatten.toArray t (0, 0))) : RowsN m w w.heap.size (some ⟨n, 0, none⟩) l := fun hp => by
  refine ⟨_, rfl, block_lt h, fun i r hr j v hv => ?_⟩
  rw [Addr.add_lit, Nat.zero_add, block_cell h, List.getElem?_toArray]
  have key : ∀ (l : List (List Value)) (i : Nat) (r : List Value), (∀ r ∈ l, r.length = m) → l[i]? = some r → ∀ j v, r[j]? = some v → l.flatten[i * m + j]? = some v := by
    intro l
    induction l with
    | nil => intro i r _ hi; simp at hi
    | cons a l ih =>
      intro i r hm hi j v hv
      have ha : a.length = m := hm a (List.mem_cons_self ..)
      rw [List.flatten_cons]
      cases i with
      | zero =>
        simp at hi
        subst hi
        have := (List.getElem?_eq_some_iff.1 hv).1
        rw [Nat.zero_mul, Nat.zero_add, List.getElem?_append_left this]
        exact hv
      | succ i =>
        rw [List.getElem?_append_right (by rw [ha, Nat.succ_mul]; omega), ha, show (i + 1) * m + j - m = i * m + j by rw [Nat.succ_mul]; omega]
        exact ih i r (fun r hr => hm r (List.mem_cons_of_mem _ hr)) (by simpa using hi) j v hv
  exact key l i r h4 hr j v hv
end Go.Proofs.Ytglnofdncglmnaa
