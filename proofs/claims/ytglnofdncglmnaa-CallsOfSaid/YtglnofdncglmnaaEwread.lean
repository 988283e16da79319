/- What the landed calls.go has read of a trace so far, in memory; whether a call is on its way. -/
import Derived.Test.YtglnofdncglmnaaEwmap
import Derived.Test.YtglnofdncglmnaaEtail
namespace Go.Proofs.Ytglnofdncglmnaa
open Go.RowKit
set_option linter.unusedVariables false
set_option linter.unusedSimpArgs false
set_option maxRecDepth 100000

/-- Block r is a reading: its calls, and its two maps in blocks m and l. -/
structure RdIn (m l r : Nat) (W : World) (v : Value) (out : List Cal) : Prop where
  bx : W.heap[r]? = some (.cells #[v, .map (some m), .map (some l)] 47 (0, 0))
  row : OwnN 18 40 (r + 1) W v (out.map Cal.cells)
  km : KeyIn W m out
  lm : LastIn W l out
  hm : m < r
  hl : l < r
  ne : m ≠ l
section
variable {m l r g cap j : Nat} {W W' : World} {v : Value} {out : List Cal} {y : Cal}
theorem RdIn.cells (h : RdIn m l r W v out) : W.cell? ⟨r, 0, none⟩ = some v ∧ W.cell? ⟨r, 1, none⟩ = some (.map (some m)) ∧ W.cell? ⟨r, 2, none⟩ = some (.map (some l)) :=
  ⟨by rw [block_cell h.bx]; rfl, by rw [block_cell h.bx]; rfl, by rw [block_cell h.bx]; rfl⟩
theorem RdIn.kept (h : RdIn m l r W v out) (hg : W.grownBy W' none) : RdIn m l r W' v out :=
  ⟨by rw [hg.block r (block_lt h.bx) (by simp)]; exact h.bx, h.row.kept0 hg, h.km.kept hg (by simp), h.lm.kept hg (by simp), h.hm, h.hl, h.ne⟩
theorem RdIn.alloc (h : RdIn m l r W v out) (o : Obj) : RdIn m l r (W.alloc o) v out := h.kept (World.grownBy_alloc _ _ _)
theorem RdIn.size (h : RdIn m l r W v out) : r < W.heap.size := block_lt h.bx
theorem RdIn.head (h : RdIn m l r W v out) (hj : j < out.length) : ∃ g cap, v = .slice (some ⟨g, 0, none⟩) out.length cap ∧ r < g ∧ out.length ≤ cap ∧ g < W.heap.size := by
  rcases h.row.2.2 with ⟨hv, h0⟩ | ⟨g, cap, cur, hv, hb, hh, h1, h2, _⟩
  · rw [List.length_map] at h0; omega
  · rw [List.length_map] at hv h1
    exact ⟨g, cap, hv, by omega, h1, block_lt hh⟩
theorem RdIn.at (h : RdIn m l r W (.slice (some ⟨g, 0, none⟩) out.length cap) out) (hj : j < out.length) :
    W.cell? ⟨g, j * 18 + 3, none⟩ = some (.int .i64 out[j].point) ∧ W.cell? ⟨g, j * 18 + 4, none⟩ = some (.int .i64 out[j].to) ∧ W.frozen? ⟨g, j * 18 + 3, none⟩ = false ∧ W.frozen? ⟨g, j * 18 + 4, none⟩ = false ∧ W.there g (j * 18 + 5) 13 := by
  have hk : j < (out.map Cal.cells).length := by rw [List.length_map]; exact hj
  have hr := h.row
  rw [show out.length = (out.map Cal.cells).length by simp] at hr
  obtain ⟨ad, e, _, hc⟩ := cal_of hr.rows hj
  cases e
  obtain ⟨_, _, _, f3, f4, _⟩ := cal_at hc
  rw [Addr.add_lit, Nat.zero_add] at f3 f4
  exact ⟨f3, f4, (hr.there hk (o := 3) (q := 1) (by omega) 0 (by omega)).2, (hr.there hk (o := 4) (q := 1) (by omega) 0 (by omega)).2, hr.there hk (by omega)⟩
/-- Cells of a call are written anew. -/
theorem RdIn.put (h : RdIn m l r W (.slice (some ⟨g, 0, none⟩) out.length cap) out) (hj : j < out.length) (hg : r < g) (o : Nat) (vs : List Value) (ho : o + vs.length ≤ 18) (hy : splice out[j].cells o vs = y.cells) (ht : y.thread = out[j].thread) (hop : y.op = out[j].op) :
    RdIn m l r (W.setCells g (j * 18 + o) vs) (.slice (some ⟨g, 0, none⟩) (out.set j y).length cap) (out.set j y) := by
  have hk : j < (out.map Cal.cells).length := by rw [List.length_map]; exact hj
  have hgr := setCells_grown g vs (j * 18 + o) W
  have hr := OwnN.setRun (by omega) vs o _ W hk h.row ho
  rw [List.getElem_map, hy, ← List.map_set] at hr
  have hgo := List.getElem?_eq_getElem hj
  have hm := h.hm
  have hl := h.hl
  rw [List.length_set]
  exact ⟨by rw [hgr.block r (block_lt h.bx) (by intro e; injection e with e; omega)]; exact h.bx, hr, (h.km.set hgo ht hop).kept hgr (by intro e; injection e with e; omega), (h.lm.set hgo ht).kept hgr (by intro e; injection e with e; omega), hm, hl, h.ne⟩
end

theorem its_is (m l r n : Nat) (W : World) (v : Value) (out : List Cal) (h : RdIn m l r W v out) (hn : n < out.length) : Calls Try.prog 25 #[.pointer (some ⟨r, 0, none⟩), .int .i64 (n : Int)] W fun e w' => e = .returned (.bool (decide (out[n].to = -1))) ∧ w' = W := by
  obtain ⟨g, cap, rfl, hg, _⟩ := h.head hn
  obtain ⟨_, c4, _⟩ := h.at hn
  obtain ⟨c0, _⟩ := h.cells
  obtain ⟨y, hy⟩ : ∃ y, out[n] = y := ⟨_, rfl⟩
  rw [hy] at c4 ⊢
  clear h hy
  go_enter Try.func25, Try.ntmps25
  go_wp2_with fail
  go_ret
  exact ⟨rfl, rfl⟩
end Go.Proofs.Ytglnofdncglmnaa
