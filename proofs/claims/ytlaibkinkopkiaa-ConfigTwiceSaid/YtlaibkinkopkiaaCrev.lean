/- A configuration that the call builds: a box of three rows of its own. -/
import Derived.Test.YtlaibkinkopkiaaOwn4
import Derived.Test.YtlaibkinkopkiaaCchecks
import Derived.Test.YtlaibkinkopkiaaCok
import Derived.Test.YtlaibkinkopkiaaNrow
namespace Go.Proofs.Ytlaibkinkopkiaa
open Go.RowKit
set_option linter.unusedVariables false
set_option linter.unusedSimpArgs false
set_option maxRecDepth 100000

theorem route_info : (Try.prog.info? 36).map (fun i => (i.zero, i.size, i.bytes)) = some (some (.agg #[.string ⟨#[]⟩, .string ⟨#[]⟩, .string ⟨#[]⟩, .string ⟨#[]⟩]), 4, 64) := by kernel_rfl
theorem cluster_info : (Try.prog.info? 34).map (fun i => (i.zero, i.size, i.bytes)) = some (some (.agg #[.string ⟨#[]⟩, .int .i64 0, .int .i64 0, .slice none 0 0]), 4, 56) := by kernel_rfl

theorem rows_ne {w : World} {b b' E E' s s' n n' : Nat} {v v' : Value} {xs xs' : List Value} (h : w.ownsRow b E s v n xs) (h' : w.ownsRow b' E' s' v' n' xs') (hne : E ≠ E') : v'.ownBlock = none ∨ v'.ownBlock ≠ v.ownBlock := by
  rcases h'.2 with ⟨rfl, _⟩ | ⟨g', cap', cur', rfl, _, hh', _⟩
  · exact .inl rfl
  · refine .inr ?_
    rcases h.2 with ⟨rfl, _⟩ | ⟨g, cap, cur, rfl, _, hh, _⟩
    · simp [Value.ownBlock]
    · intro he
      have e : g' = g := by simpa [Value.ownBlock] using he
      subst e
      have := hh.symm.trans hh'
      simp at this
      exact hne this.2
theorem row_box {w : World} {b E s n XB T : Nat} {v : Value} {xs : List Value} {cs : Array Value} (h : w.ownsRow b E s v n xs) (hb : w.heap[XB]? = some (.cells cs T (0, 0))) (hne : E ≠ T) : v.ownBlock ≠ some XB := by
  rcases h.2 with ⟨rfl, _⟩ | ⟨g, cap, cur, rfl, _, hh, _⟩
  · simp [Value.ownBlock]
  · intro he
    have e : g = XB := by simpa [Value.ownBlock] using he
    subst e
    have := hh.symm.trans hb
    simp at this
    exact hne this.2

theorem own_form {w : World} {b E s n : Nat} {v : Value} {xs : List Value} (h : w.ownsRow b E s v n xs) : ∃ A m c, v = .slice A m c := by
  rcases h.2 with ⟨rfl, _⟩ | ⟨g, cap, cur, rfl, _⟩
  · exact ⟨_, _, _, rfl⟩
  · exact ⟨_, _, _, rfl⟩

/-- A configuration that is being built: its box, and the three rows. -/
structure Rev (wb wr : World) (XB : Nat) (vl vr vc : Value) (ls : List ByteArray) (rs : List Rt) (cs : List Cl) : Prop where
  B : Below wb.heap.size wb wr
  hb : wb.heap.size ≤ XB
  box : wr.heap[XB]? = some (.cells #[vl, vr, vc] 26 (0, 0))
  l : Own 9 wb.heap.size wr vl (ls.map Value.string)
  r : Own4 36 wb.heap.size wr vr (rs.map Rt.cells)
  c : Own4 34 wb.heap.size wr vc (cs.map Cl.cells)

section
variable {wb wr w' : World} {XB : Nat} {vl vr vc : Value} {ls : List ByteArray} {rs : List Rt} {cs : List Cl}
theorem Rev.drew (h : Rev wb wr XB vl vr vc ls rs cs) : Rev wb wr.drew XB vl vr vc ls rs cs := ⟨below_drew h.B, h.hb, h.box, h.l.kept0 (grownBy_below (below_drew (Below.refl _ _))), h.r.kept0 (grownBy_below (below_drew (Below.refl _ _))), h.c.kept0 (grownBy_below (below_drew (Below.refl _ _)))⟩
theorem Rev.below (h : Rev wb wr XB vl vr vc ls rs cs) (k : Below wr.heap.size wr w') : Rev wb w' XB vl vr vc ls rs cs :=
  ⟨below_next h.B k, h.hb, (k.block XB (block_lt h.box)).trans h.box, h.l.kept0 (grownBy_below k), h.r.kept0 (grownBy_below k), h.c.kept0 (grownBy_below k)⟩
theorem Rev.cell (h : Rev wb wr XB vl vr vc ls rs cs) (i : Nat) : wr.cell? ⟨XB, i, none⟩ = #[vl, vr, vc][i]? := block_cell h.box i
theorem Rev.free (h : Rev wb wr XB vl vr vc ls rs cs) (i : Nat) : wr.frozen? ⟨XB, i, none⟩ = false := block_free h.box i

/-- The box's cell i is v now, and the rows are where they were, as far as they are still named. -/
theorem Rev.setL (h : Rev wb wr XB vl vr vc ls rs cs) {v : Value} {ls' : List ByteArray} (g : wr.grownBy w' vl.ownBlock) (o : Own 9 wb.heap.size w' v (ls'.map Value.string)) : Rev wb (w'.setCell ⟨XB, 0, none⟩ v) XB v vr vc ls' rs cs := by
  have hbx := (g.block XB (block_lt h.box) (fun e => row_box h.l h.box (by decide) e.symm)).trans h.box
  have r' := h.r.kept g (rows_ne h.l h.r.2 (by decide))
  have c' := h.c.kept g (rows_ne h.l h.c.2 (by decide))
  refine ⟨(h.B.trans (below_grownBy g h.B.size fun k hk => (h.l.lt k hk).1)).setCell (by exact h.hb) v, h.hb, block_setCell hbx v, ?_, ?_, ?_⟩
  · exact o.kept (grownBy_store _ _ _ _) (.inr (row_box o hbx (by decide)))
  · exact r'.kept (grownBy_store _ _ _ _) (.inr (row_box r'.2 hbx (by decide)))
  · exact c'.kept (grownBy_store _ _ _ _) (.inr (row_box c'.2 hbx (by decide)))
theorem Rev.setR (h : Rev wb wr XB vl vr vc ls rs cs) {v : Value} {rs' : List Rt} (g : wr.grownBy w' vr.ownBlock) (o : Own4 36 wb.heap.size w' v (rs'.map Rt.cells)) : Rev wb (w'.setCell ⟨XB, 1, none⟩ v) XB vl v vc ls rs' cs := by
  have hbx := (g.block XB (block_lt h.box) (fun e => row_box h.r.2 h.box (by decide) e.symm)).trans h.box
  have l' := h.l.kept g (rows_ne h.r.2 h.l (by decide))
  have c' := h.c.kept g (rows_ne h.r.2 h.c.2 (by decide))
  refine ⟨(h.B.trans (below_grownBy g h.B.size fun k hk => (h.r.lt k hk).1)).setCell (by exact h.hb) v, h.hb, block_setCell hbx v, ?_, ?_, ?_⟩
  · exact l'.kept (grownBy_store _ _ _ _) (.inr (row_box l' hbx (by decide)))
  · exact o.kept (grownBy_store _ _ _ _) (.inr (row_box o.2 hbx (by decide)))
  · exact c'.kept (grownBy_store _ _ _ _) (.inr (row_box c'.2 hbx (by decide)))
theorem Rev.setC (h : Rev wb wr XB vl vr vc ls rs cs) {v : Value} {cs' : List Cl} (g : wr.grownBy w' vc.ownBlock) (o : Own4 34 wb.heap.size w' v (cs'.map Cl.cells)) : Rev wb (w'.setCell ⟨XB, 2, none⟩ v) XB vl vr v ls rs cs' := by
  have hbx := (g.block XB (block_lt h.box) (fun e => row_box h.c.2 h.box (by decide) e.symm)).trans h.box
  have l' := h.l.kept g (rows_ne h.c.2 h.l (by decide))
  have r' := h.r.kept g (rows_ne h.c.2 h.r.2 (by decide))
  refine ⟨(h.B.trans (below_grownBy g h.B.size fun k hk => (h.c.lt k hk).1)).setCell (by exact h.hb) v, h.hb, block_setCell hbx v, ?_, ?_, ?_⟩
  · exact l'.kept (grownBy_store _ _ _ _) (.inr (row_box l' hbx (by decide)))
  · exact r'.kept (grownBy_store _ _ _ _) (.inr (row_box r'.2 hbx (by decide)))
  · exact o.kept (grownBy_store _ _ _ _) (.inr (row_box o.2 hbx (by decide)))
/-- What the walk reads of the box behind an append, ahead of the store. -/
theorem Rev.grown0 (h : Rev wb wr XB vl vr vc ls rs cs) (g : wr.grownBy w' vl.ownBlock) : w'.heap[XB]? = some (.cells #[vl, vr, vc] 26 (0, 0)) := (g.block XB (block_lt h.box) (fun e => row_box h.l h.box (by decide) e.symm)).trans h.box
theorem Rev.grown1 (h : Rev wb wr XB vl vr vc ls rs cs) (g : wr.grownBy w' vr.ownBlock) : w'.heap[XB]? = some (.cells #[vl, vr, vc] 26 (0, 0)) := (g.block XB (block_lt h.box) (fun e => row_box h.r.2 h.box (by decide) e.symm)).trans h.box
theorem Rev.grown2 (h : Rev wb wr XB vl vr vc ls rs cs) (g : wr.grownBy w' vc.ownBlock) : w'.heap[XB]? = some (.cells #[vl, vr, vc] 26 (0, 0)) := (g.block XB (block_lt h.box) (fun e => row_box h.c.2 h.box (by decide) e.symm)).trans h.box

theorem Rev.start (hw : Below wb.heap.size wb wr) : Rev wb (wr.alloc (.cells #[.slice none 0 0, .slice none 0 0, .slice none 0 0] 26)) wr.heap.size (.slice none 0 0) (.slice none 0 0) (.slice none 0 0) [] [] [] :=
  ⟨hw.alloc hw.size _, hw.size, one_alloc _ _, Own.nil, Own4.nil, Own4.nil⟩

/-- What was built, as Check sees it. -/
theorem Rev.cfg (h : Rev wb wr XB vl vr vc ls rs cs) (hwf : ∀ x ∈ cs, x.wf) : ∃ la lc ra rc ca cc, vl = .slice la ls.length lc ∧ vr = .slice ra rs.length rc ∧ vc = .slice ca cs.length cc ∧ CfgIn wr wr.heap.size ⟨la, lc, ls, ra, rc, rs, ca, cc, cs⟩ := by
  have hl : ∃ la lc, vl = .slice la ls.length lc ∧ ls.length ≤ lc ∧ lc ≤ maxLen := by
    rcases h.l.2 with ⟨hv, hn⟩ | ⟨g, cap, cur, hv, _, _, h1, h2, _⟩
    · refine ⟨none, 0, ?_, ?_, by simp [maxLen]⟩
      · simp at hn; rw [hv, hn]; rfl
      · simp at hn; rw [hn]; simp
    · exact ⟨_, _, by simpa using hv, by simpa using h1, h2⟩
  obtain ⟨la, lc, rfl, l1, l2⟩ := hl
  obtain ⟨ra, rc, rfl, r1, r2⟩ := h.r.slice
  obtain ⟨ca, cc, rfl, c1, c2⟩ := h.c.slice
  rw [List.length_map] at r1 c1
  refine ⟨la, lc, ra, rc, ca, cc, rfl, by rw [List.length_map], by rw [List.length_map], ⟨h.l.reads, h.r.rows, h.c.rows, l1, r1, c1, l2, r2, c2, hwf⟩⟩
end
end Go.Proofs.Ytlaibkinkopkiaa
