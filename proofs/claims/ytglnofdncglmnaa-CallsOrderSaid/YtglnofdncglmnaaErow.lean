/- A row of calls of the call's own: what a store of one cell, or of an answer, makes of it. -/
import Derived.Test.YtglnofdncglmnaaEin
import Derived.Test.YtglnofdncglmnaaEload
import Derived.Deep.MidRow
namespace Go.Proofs.Ytglnofdncglmnaa
open Go.RowKit
set_option linter.unusedVariables false
set_option linter.unusedSimpArgs false

/-- Cells of a list, one behind the other, written anew. -/
def splice (r : List Value) (o : Nat) : List Value → List Value
  | [] => r
  | v :: vs => splice (r.set o v) (o + 1) vs
theorem grown_setCell (w : World) (b i : Nat) (v : Value) : w.grownBy (w.setCell ⟨b, i, none⟩ v) (some b) :=
  ⟨rfl, rfl, rfl, by simp [World.setCell], fun k _ hk => Below.heap_setCell _ _ _ _ (fun e => hk (by rw [e]))⟩
section
variable {m : Nat} {w : World} {E base g n cap k : Nat}
theorem OwnN.setRun (hk' : 0 < m) : ∀ (vs : List Value) (o : Nat) (rs : List (List Value)) (w : World) (hk : k < rs.length), OwnN m E base w (.slice (some ⟨g, 0, none⟩) n cap) rs → o + vs.length ≤ m → OwnN m E base (w.setCells g (k * m + o) vs) (.slice (some ⟨g, 0, none⟩) n cap) (rs.set k (splice rs[k] o vs))
  | [], o, rs, w, hk, h, _ => by
    rw [splice, List.set_getElem_self]
    exact h
  | v :: vs, o, rs, w, hk, h, hl => by
    rw [List.length_cons] at hl
    have h1 := h.setAt hk (j := o) (by omega) v
    have h2 := OwnN.setRun hk' vs (o + 1) (rs.set k (rs[k].set o v)) _ (by rw [List.length_set]; exact hk) h1 (by omega)
    rw [List.getElem_set_self, List.set_set] at h2
    exact h2
theorem setCells_grown (g : Nat) : ∀ (vs : List Value) (o : Nat) (w : World), w.grownBy (w.setCells g o vs) (some g)
  | [], o, w => ⟨rfl, rfl, rfl, Nat.le_refl _, fun _ _ _ => rfl⟩
  | v :: vs, o, w => grownBy_trans (grown_setCell w g o v) (setCells_grown g vs (o + 1) _)
/-- The cells of a row of one's own are there, and may be written. -/
theorem OwnN.there {rs : List (List Value)} (h : OwnN m E base w (.slice (some ⟨g, 0, none⟩) n cap) rs) (hk : k < rs.length) {o q : Nat} (hq : o + q ≤ m) : w.there g (k * m + o) q := fun j hj => by
  rcases h.2.2 with ⟨hv, _⟩ | ⟨g', cap', cur, hv, _, hh, h1, h2, h3, h4⟩
  · cases hv
  · cases hv
    have h6 : (k + 1) * m ≤ cap * m := Nat.mul_le_mul_right m (by omega)
    rw [Nat.succ_mul] at h6
    exact ⟨by rw [block_cell hh, Array.getElem?_eq_getElem (by omega)]; rfl, block_free hh _⟩
end
/-- A row of calls of the call's own, made since w. -/
def OutsN (m E : Nat) (w wi : World) (out : Value) (rs : List (List Value)) : Prop := w.grownBy wi none ∧ OwnN m E w.heap.size wi out rs
section
variable {m E g n cap k : Nat} {w wi wj : World} {out out' : Value} {rs ss : List (List Value)}
theorem OutsN.app (h : OutsN m E w wi out rs) (ho : OwnN m E w.heap.size wj out' ss) (g : wi.grownBy wj out.ownBlock) : OutsN m E w wj out' ss := by
  refine ⟨?_, ho⟩
  rcases ho' : out.ownBlock with _ | k
  · rw [ho'] at g; exact grownBy_trans h.1 g
  · rw [ho'] at g; exact grownBy_over h.1 g (h.2.lt k ho').1
theorem OutsN.below (h : OutsN m E w wi out rs) : Below w.heap.size w wi := (Below.refl _ _).grown h.1 (Nat.le_refl _) (fun k e => by cases e)
theorem OutsN.alloc (h : OutsN m E w wi out rs) (o : Obj) : OutsN m E w (wi.alloc o) out rs := ⟨grownBy_trans h.1 (World.grownBy_alloc _ _ _), h.2.alloc o⟩
theorem OutsN.put (hm : 0 < m) (h : OutsN m E w wi (.slice (some ⟨g, 0, none⟩) n cap) rs) (hk : k < rs.length) (o : Nat) (vs : List Value) (hl : o + vs.length ≤ m) : OutsN m E w (wi.setCells g (k * m + o) vs) (.slice (some ⟨g, 0, none⟩) n cap) (rs.set k (splice rs[k] o vs)) :=
  h.app (OwnN.setRun hm vs o rs wi hk h.2 hl) (setCells_grown g vs _ wi)
/-- A row with an element in it lies in a block of its own. -/
theorem OutsN.head (h : OutsN m E w wi out rs) (hn : 0 < rs.length) : ∃ g cap, out = .slice (some ⟨g, 0, none⟩) rs.length cap ∧ rs.length ≤ cap ∧ cap ≤ maxLen ∧ ∃ cur, wi.heap[g]? = some (.cells cur E (0, 0)) := by
  rcases h.2.2.2 with ⟨hv, h0⟩ | ⟨g, cap, cur, hv, _, hh, h1, h2, _⟩
  · omega
  · exact ⟨g, cap, hv, h1, h2, cur, hh⟩
/-- Event x lies in block xb, and nothing else. -/
def BoxAt (T : TypeId) (w : World) (xb : Nat) (vs : List Value) : Prop := w.heap[xb]? = some (.cells vs.toArray T (0, 0))
theorem BoxAt.lies {T xb : Nat} {vs : List Value} (h : BoxAt T wi xb vs) : Lies wi ⟨xb, 0, none⟩ vs := fun j v hv => by
  rw [Addr.add_lit, Nat.zero_add, block_cell h]
  simpa using hv
theorem BoxAt.apart {T xb : Nat} {vs : List Value} (h : BoxAt T wi xb vs) (ho : OutsN m E w wi out rs) (hT : E ≠ T) : out.ownBlock ≠ some xb := by
  rcases ho.2.2.2 with ⟨rfl, _⟩ | ⟨g, cap, cur, rfl, _, hh, _⟩
  · simp [Value.ownBlock]
  · intro e
    simp [Value.ownBlock] at e
    subst e
    unfold BoxAt at h
    rw [hh] at h
    injection h with h
    injection h with _ h
    exact hT h
theorem BoxAt.grown {T xb : Nat} {vs : List Value} {row : Option Nat} (h : BoxAt T wi xb vs) (g : wi.grownBy wj row) (hne : row ≠ some xb) : BoxAt T wj xb vs := by
  unfold BoxAt
  rw [g.block xb (block_lt h) (Ne.symm hne)]
  exact h
/-- What lies in another block stays. -/
theorem lies_put {g o xb xo : Nat} {vs us : List Value} (h : Lies wi ⟨xb, xo, none⟩ us) (hne : xb ≠ g) : Lies (wi.setCells g o vs) ⟨xb, xo, none⟩ us :=
  h.keep fun a ha => World.cell?_setCells_out g vs o wi a fun e => absurd (ha.symm.trans e) hne
end
section
variable {w W : World} {g n cap xb j : Nat} {cl : List Cal} {x : Ev}
/-- What is there, where a call of the row is to be marked by the event in the box. -/
theorem tail_at (S : OutsN 18 40 w W (.slice (some ⟨g, 0, none⟩) n cap) (cl.map Cal.cells)) (HB : BoxAt 43 W xb x.cells) (hj : j < cl.length) :
    W.cell? ⟨g, j * 18 + 3, none⟩ = some (.int .i64 cl[j].point) ∧ W.cell? ⟨g, j * 18 + 4, none⟩ = some (.int .i64 cl[j].to) ∧ W.frozen? ⟨g, j * 18 + 3, none⟩ = false ∧ W.frozen? ⟨g, j * 18 + 4, none⟩ = false ∧ W.there g (j * 18 + 5) 13 ∧
    W.cell? ⟨xb, 8, none⟩ = some (.bool x.point) ∧ W.cell? ⟨xb, 9, none⟩ = some (.bool x.done) ∧ W.rangeAt xb 10 x.ans.cells := by
  have hk : j < (cl.map Cal.cells).length := by rw [List.length_map]; exact hj
  obtain ⟨ad, e, _, hc⟩ := cal_of S.2.rows hj
  cases e
  obtain ⟨_, _, _, f3, f4, _⟩ := cal_at hc
  rw [Addr.add_lit, Nat.zero_add] at f3 f4
  have t3 := S.2.there hk (o := 3) (q := 1) (by omega) 0 (by omega)
  have t4 := S.2.there hk (o := 4) (q := 1) (by omega) 0 (by omega)
  obtain ⟨_, _, _, _, _, _, _, _, f8, f9, _⟩ := ev_at HB.lies
  refine ⟨f3, f4, t3.2, t4.2, S.2.there hk (by omega), by simpa using f8, by simpa using f9, fun i v hv => ?_⟩
  have := HB.lies (10 + i) v (by
    show (x.cells)[10 + i]? = _
    unfold Ev.cells
    rw [Nat.add_comm]
    exact hv)
  rw [Addr.add_lit, Nat.zero_add] at this
  exact this
theorem tail_put (S : OutsN 18 40 w W (.slice (some ⟨g, 0, none⟩) n cap) (cl.map Cal.cells)) (HB : BoxAt 43 W xb x.cells) (hj : j < cl.length) (o : Nat) (vs : List Value) (ho : o + vs.length ≤ 18) (y : Cal) (hy : splice cl[j].cells o vs = y.cells) :
    OutsN 18 40 w (W.setCells g (j * 18 + o) vs) (.slice (some ⟨g, 0, none⟩) n cap) ((cl.set j y).map Cal.cells) ∧ BoxAt 43 (W.setCells g (j * 18 + o) vs) xb x.cells := by
  have hk : j < (cl.map Cal.cells).length := by rw [List.length_map]; exact hj
  have h := S.put (by omega) hk o vs ho
  rw [List.getElem_map, hy, ← List.map_set] at h
  exact ⟨h, HB.grown (setCells_grown g vs _ W) (HB.apart S (by decide))⟩
end
end Go.Proofs.Ytglnofdncglmnaa
