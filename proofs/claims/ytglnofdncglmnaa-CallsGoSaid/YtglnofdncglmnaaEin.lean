/- Events and calls in memory. -/
import Derived.Test.YtglnofdncglmnaaEpure
import Derived.Test.YtglnofdncglmnaaOwnN
import Derived.Test.YtglnofdncglmnaaNsay
import Derived.Test.YtglnofdncglmnaaOuts
namespace Go.Proofs.Ytglnofdncglmnaa
open Go.RowKit
set_option linter.unusedVariables false
set_option linter.unusedSimpArgs false
set_option maxRecDepth 100000

/-- These values lie one behind the other, from p on. -/
def Lies (w : World) (p : Addr) (vs : List Value) : Prop := ∀ j v, vs[j]? = some v → w.cell? (p.add j) = some v
section
variable {w W : World} {p : Addr} {v : Value} {vs : List Value}
theorem Lies.at0 (h : Lies w p (v :: vs)) : w.cell? p = some v := by have := h 0 v rfl; rwa [Addr.add_zero'] at this
theorem Lies.atS (h : Lies w p vs) (j : Nat) (hv : vs[j + 1]? = some v) : w.cell? ⟨p.block, p.off + (j + 1), none⟩ = some v := by have := h (j + 1) v hv; rwa [Addr.add_succ'] at this
theorem Lies.keep (h : Lies w p vs) (hk : ∀ a : Addr, a.block = p.block → W.cell? a = w.cell? a) : Lies W p vs := fun j v hv => (hk _ (block_of_add ..)).trans (h j v hv)
theorem Lies.below {B : Nat} (h : Lies w p vs) (hp : p.block < B) (hb : Below B w W) : Lies W p vs := h.keep fun a ha => hb.cell (by omega)
theorem lies_box (w : World) (vs : List Value) (t : TypeId) : Lies (w.alloc (.cells vs.toArray t)) ⟨w.heap.size, 0, none⟩ vs := fun j v hv => by
  rw [Addr.add_lit, World.cell?_alloc_new w vs.toArray t (0 + j), Nat.zero_add]
  simpa using hv
theorem RowsN.lies {m B k : Nat} {A : Option Addr} {rs : List (List Value)} (h : RowsN m w B A rs) (hk : k < rs.length) : ∃ ad, A = some ad ∧ ad.block < B ∧ Lies w (ad.add (k * m)) rs[k] := by
  obtain ⟨ad, e, hb, hc⟩ := h.cells hk
  exact ⟨ad, e, hb, fun j v hv => by rw [Addr.add_add]; exact hc j v hv⟩
end
theorem ev_at {w : World} {p : Addr} {e : Ev} (h : Lies w p e.cells) : w.cell? p = some (.int .i64 e.thread) ∧ w.cell? ⟨p.block, p.off + 1, none⟩ = some (.int .i64 e.op) ∧ w.cell? ⟨p.block, p.off + 2, none⟩ = some (.int .i64 e.access) ∧ w.cell? ⟨p.block, p.off + 3, none⟩ = some (.int .i64 e.cell) ∧ w.cell? ⟨p.block, p.off + 4, none⟩ = some (.int .i64 e.version) ∧ w.cell? ⟨p.block, p.off + 5, none⟩ = some (.bool e.freed) ∧ w.cell? ⟨p.block, p.off + 6, none⟩ = some (.int .i64 e.value) ∧ w.cell? ⟨p.block, p.off + 7, none⟩ = some (.bool e.begin) ∧ w.cell? ⟨p.block, p.off + 8, none⟩ = some (.bool e.point) ∧ w.cell? ⟨p.block, p.off + 9, none⟩ = some (.bool e.done) ∧ w.cell? ⟨p.block, p.off + 10, none⟩ = some (.int .i64 e.ans.kind) ∧ w.cell? ⟨p.block, p.off + 11, none⟩ = some (.int .i64 e.ans.version) ∧ w.cell? ⟨p.block, p.off + 12, none⟩ = some (.int .i64 e.ans.cluster) ∧ w.cell? ⟨p.block, p.off + 13, none⟩ = some (.int .i64 e.ans.fin) ∧ w.cell? ⟨p.block, p.off + 14, none⟩ = some (.int .i64 e.ans.slot) ∧ w.cell? ⟨p.block, p.off + 15, none⟩ = some (.int .i64 e.ans.listen) ∧ w.cell? ⟨p.block, p.off + 16, none⟩ = some (.int .i64 e.ans.n) ∧ w.cell? ⟨p.block, p.off + 17, none⟩ = some (.int .u64 e.ans.q0) ∧ w.cell? ⟨p.block, p.off + 18, none⟩ = some (.int .u64 e.ans.q1) ∧ w.cell? ⟨p.block, p.off + 19, none⟩ = some (.int .u64 e.ans.q2) ∧ w.cell? ⟨p.block, p.off + 20, none⟩ = some (.int .u64 e.ans.q3) ∧ w.cell? ⟨p.block, p.off + 21, none⟩ = some (.int .u64 e.ans.q4) ∧ w.cell? ⟨p.block, p.off + 22, none⟩ = some (.int .u64 e.ans.q5) :=
  ⟨h.at0, h.atS 0 rfl, h.atS 1 rfl, h.atS 2 rfl, h.atS 3 rfl, h.atS 4 rfl, h.atS 5 rfl, h.atS 6 rfl, h.atS 7 rfl, h.atS 8 rfl, h.atS 9 rfl, h.atS 10 rfl, h.atS 11 rfl, h.atS 12 rfl, h.atS 13 rfl, h.atS 14 rfl, h.atS 15 rfl, h.atS 16 rfl, h.atS 17 rfl, h.atS 18 rfl, h.atS 19 rfl, h.atS 20 rfl, h.atS 21 rfl⟩
theorem cal_at {w : World} {p : Addr} {c : Cal} (h : Lies w p c.cells) : w.cell? p = some (.int .i64 c.thread) ∧ w.cell? ⟨p.block, p.off + 1, none⟩ = some (.int .i64 c.op) ∧ w.cell? ⟨p.block, p.off + 2, none⟩ = some (.int .i64 c.frm) ∧ w.cell? ⟨p.block, p.off + 3, none⟩ = some (.int .i64 c.point) ∧ w.cell? ⟨p.block, p.off + 4, none⟩ = some (.int .i64 c.to) ∧ w.cell? ⟨p.block, p.off + 5, none⟩ = some (.int .i64 c.ans.kind) ∧ w.cell? ⟨p.block, p.off + 6, none⟩ = some (.int .i64 c.ans.version) ∧ w.cell? ⟨p.block, p.off + 7, none⟩ = some (.int .i64 c.ans.cluster) ∧ w.cell? ⟨p.block, p.off + 8, none⟩ = some (.int .i64 c.ans.fin) ∧ w.cell? ⟨p.block, p.off + 9, none⟩ = some (.int .i64 c.ans.slot) ∧ w.cell? ⟨p.block, p.off + 10, none⟩ = some (.int .i64 c.ans.listen) ∧ w.cell? ⟨p.block, p.off + 11, none⟩ = some (.int .i64 c.ans.n) ∧ w.cell? ⟨p.block, p.off + 12, none⟩ = some (.int .u64 c.ans.q0) ∧ w.cell? ⟨p.block, p.off + 13, none⟩ = some (.int .u64 c.ans.q1) ∧ w.cell? ⟨p.block, p.off + 14, none⟩ = some (.int .u64 c.ans.q2) ∧ w.cell? ⟨p.block, p.off + 15, none⟩ = some (.int .u64 c.ans.q3) ∧ w.cell? ⟨p.block, p.off + 16, none⟩ = some (.int .u64 c.ans.q4) ∧ w.cell? ⟨p.block, p.off + 17, none⟩ = some (.int .u64 c.ans.q5) :=
  ⟨h.at0, h.atS 0 rfl, h.atS 1 rfl, h.atS 2 rfl, h.atS 3 rfl, h.atS 4 rfl, h.atS 5 rfl, h.atS 6 rfl, h.atS 7 rfl, h.atS 8 rfl, h.atS 9 rfl, h.atS 10 rfl, h.atS 11 rfl, h.atS 12 rfl, h.atS 13 rfl, h.atS 14 rfl, h.atS 15 rfl, h.atS 16 rfl⟩
def Ev.wf (e : Ev) : Prop := I64 e.thread ∧ I64 e.op
structure EvsIn (w : World) (A : Option Addr) (c : Nat) (l : List Ev) : Prop where
  r : RowsN 23 w w.heap.size A (l.map Ev.cells)
  lc : l.length ≤ c
  cm : c ≤ maxLen
  v : ∀ e ∈ l, e.wf
structure CalsIn (w : World) (A : Option Addr) (c : Nat) (l : List Cal) : Prop where
  r : RowsN 18 w w.heap.size A (l.map Cal.cells)
  lc : l.length ≤ c
  cm : c ≤ maxLen
section
variable {w w' : World} {A : Option Addr} {c : Nat}
theorem EvsIn.below {l : List Ev} (h : EvsIn w A c l) (hb : Below w.heap.size w w') : EvsIn w' A c l := ⟨(h.r.below hb).more hb.size, h.lc, h.cm, h.v⟩
theorem CalsIn.below {l : List Cal} (h : CalsIn w A c l) (hb : Below w.heap.size w w') : CalsIn w' A c l := ⟨(h.r.below hb).more hb.size, h.lc, h.cm⟩
theorem EvsIn.ev {l : List Ev} {k : Nat} (h : EvsIn w A c l) (hk : k < l.length) : ∃ ad, A = some ad ∧ ad.block < w.heap.size ∧ Lies w (ad.add (k * 23)) l[k].cells := by
  obtain ⟨ad, e, hb, hc⟩ := h.r.lies (k := k) (by rw [List.length_map]; exact hk)
  rw [List.getElem_map] at hc
  exact ⟨ad, e, hb, hc⟩
end
theorem cal_of {w : World} {A : Option Addr} {B : Nat} {l : List Cal} {k : Nat} (h : RowsN 18 w B A (l.map Cal.cells)) (hk : k < l.length) : ∃ ad, A = some ad ∧ ad.block < B ∧ Lies w (ad.add (k * 18)) l[k].cells := by
  obtain ⟨ad, e, hb, hc⟩ := h.lies (k := k) (by rw [List.length_map]; exact hk)
  rw [List.getElem_map] at hc
  exact ⟨ad, e, hb, hc⟩
def Cal.val (c : Cal) : Value := .agg #[.int .i64 c.thread, .int .i64 c.op, .int .i64 c.frm, .int .i64 c.point, .int .i64 c.to, .int .i64 c.ans.kind, .int .i64 c.ans.version, .int .i64 c.ans.cluster, .int .i64 c.ans.fin, .int .i64 c.ans.slot, .int .i64 c.ans.listen, .int .i64 c.ans.n, .int .u64 c.ans.q0, .int .u64 c.ans.q1, .int .u64 c.ans.q2, .int .u64 c.ans.q3, .int .u64 c.ans.q4, .int .u64 c.ans.q5]
end Go.Proofs.Ytglnofdncglmnaa
