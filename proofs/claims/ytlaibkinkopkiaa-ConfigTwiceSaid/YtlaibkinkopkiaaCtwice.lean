/- The walk of ConfigTwice. -/
import Derived.Test.YtlaibkinkopkiaaCrev
import Derived.Test.YtlaibkinkopkiaaCrl
import Derived.Test.YtlaibkinkopkiaaStep
import Derived.BigRegion
import Derived.Deep.CutRange
namespace Go.Proofs.Ytlaibkinkopkiaa
open Go.RowKit
set_option linter.unusedVariables false
set_option linter.unusedSimpArgs false
set_option maxRecDepth 100000

/-- A copy of a configuration, with one row that the call built: its box, and that row. -/
structure Made (E s : Nat) (wb wr : World) (XB : Nat) (bx : Array Value) (v : Value) (n : Nat) (xs : List Value) : Prop where
  B : Below wb.heap.size wb wr
  hb : wb.heap.size ≤ XB
  box : wr.heap[XB]? = some (.cells bx 26 (0, 0))
  own : wr.ownsRow wb.heap.size E s v n xs

section
variable {E s : Nat} {wb wr w' : World} {XB n : Nat} {bx : Array Value} {v : Value} {xs : List Value}
theorem Made.drew (h : Made E s wb wr XB bx v n xs) : Made E s wb wr.drew XB bx v n xs := ⟨below_drew h.B, h.hb, h.box, h.own.drew⟩
theorem Made.below (h : Made E s wb wr XB bx v n xs) (k : Below wr.heap.size wr w') : Made E s wb w' XB bx v n xs :=
  ⟨below_next h.B k, h.hb, (k.block XB (block_lt h.box)).trans h.box, World.ownsRow.kept h.own (grownBy_below k) (by cases v.ownBlock <;> simp)⟩
theorem Made.grown (h : Made E s wb wr XB bx v n xs) (hE : E ≠ 26) (g : wr.grownBy w' v.ownBlock) : w'.heap[XB]? = some (.cells bx 26 (0, 0)) :=
  (g.block XB (block_lt h.box) (fun e => row_box h.own h.box hE e.symm)).trans h.box
theorem Made.put (h : Made E s wb wr XB bx v n xs) (hE : E ≠ 26) (g : wr.grownBy w' v.ownBlock) {v' : Value} {n' : Nat} {xs' : List Value} (o : w'.ownsRow wb.heap.size E s v' n' xs') (i : Nat) :
    Made E s wb (w'.setCell ⟨XB, i, none⟩ v') XB (bx.setIfInBounds i v') v' n' xs' :=
  ⟨(h.B.trans (below_grownBy g h.B.size fun k hk => (World.ownsRow.lt h.own k hk).1)).setCell (by exact h.hb) v', h.hb, block_setCell (h.grown hE g) v', World.ownsRow.kept o (grownBy_store _ _ _ _) (.inr (row_box o (h.grown hE g) hE))⟩
theorem Made.cell (h : Made E s wb wr XB bx v n xs) (i : Nat) : wr.cell? ⟨XB, i, none⟩ = bx[i]? := block_cell h.box i
theorem Made.free (h : Made E s wb wr XB bx v n xs) (i : Nat) : wr.frozen? ⟨XB, i, none⟩ = false := block_free h.box i
end

theorem made_l {w wb wr : World} {XB n : Nat} {bx : Array Value} {v : Value} {ls : List ByteArray} {c : Cfg} (h : Made 9 1 wb wr XB bx v n (ls.map Value.string)) (hc : CfgIn wr wr.heap.size c) :
    ∃ la lc, v = .slice la ls.length lc ∧ CfgIn wr wr.heap.size ⟨la, lc, ls, c.ra, c.rc, c.rs, c.ca, c.cc, c.cs⟩ := by
  have hn : n = ls.length := by have := h.own.1; simp at this; omega
  subst hn
  rcases h.own.2 with ⟨hv, h0⟩ | ⟨g, cap, cur, hv, _, _, h1, h2, _⟩
  · have : ls = [] := List.eq_nil_of_length_eq_zero h0
    subst this
    exact ⟨none, 0, hv, ⟨fun hn => by simp at hn, hc.pr, hc.pc, by simp, hc.rl, hc.cl, by simp [maxLen], hc.rm, hc.cm, hc.wf⟩⟩
  · subst hv
    have o : Own 9 wb.heap.size wr (.slice (some ⟨g, 0, none⟩) ls.length cap) (ls.map Value.string) := by unfold Own; rw [List.length_map]; exact h.own
    exact ⟨_, _, rfl, ⟨o.reads, hc.pr, hc.pc, h1, hc.rl, hc.cl, h2, hc.rm, hc.cm, hc.wf⟩⟩
theorem made_r {w wb wr : World} {XB n : Nat} {bx : Array Value} {v : Value} {rs : List Rt} {c : Cfg} (h : Made 36 4 wb wr XB bx v n (rs.map Rt.cells).flatten) (hc : CfgIn wr wr.heap.size c) :
    ∃ ra rc, v = .slice ra rs.length rc ∧ CfgIn wr wr.heap.size ⟨c.la, c.lc, c.ls, ra, rc, rs, c.ca, c.cc, c.cs⟩ := by
  have hn : n = rs.length := by
    have := h.own.1
    rw [len_flat (len4r rs), List.length_map] at this
    omega
  subst hn
  have o : Own4 36 wb.heap.size wr v (rs.map Rt.cells) := ⟨len4r rs, by rw [List.length_map]; exact h.own⟩
  obtain ⟨A, k, hv, h1, h2⟩ := o.slice
  subst hv
  rw [List.length_map] at h1
  exact ⟨A, k, by rw [List.length_map], ⟨hc.pl, o.rows, hc.pc, hc.ll, h1, hc.cl, hc.lm, h2, hc.cm, hc.wf⟩⟩

/-- The copy's listeners are these; its routes. -/
def TwoL (wb : World) (XB : Nat) (c : Cfg) (ls : List ByteArray) (wx : World) : Prop :=
  ∃ A n k, Made 9 1 wb wx XB #[.slice A n k, .slice c.ra c.rs.length c.rc, .slice c.ca c.cs.length c.cc] (.slice A n k) ls.length (ls.map Value.string)
def TwoR (wb : World) (XB : Nat) (c : Cfg) (rs : List Rt) (wx : World) : Prop :=
  ∃ A n k, Made 36 4 wb wx XB #[.slice c.la c.ls.length c.lc, .slice A n k, .slice c.ca c.cs.length c.cc] (.slice A n k) rs.length (rs.map Rt.cells).flatten

/-- An empty row in a new block, and a copy's box that names it. -/
theorem made_start {wb wr : World} (E : Nat) {s : Nat} (hw : Below wb.heap.size wb wr) (bx : Array Value) : Made E s wb ((wr.alloc (.cells bx 26)).alloc (.cells #[] E)) wr.heap.size bx (.slice (some ⟨wr.heap.size + 1, 0, none⟩) 0 0) 0 [] := by
  refine ⟨below_alloc (below_alloc hw (Nat.le_refl _)) (Nat.le_refl _), hw.size, kept_alloc (one_alloc _ _), ?_⟩
  have := World.ownsRow_made (base := wb.heap.size) (e := E) (size := s) (wr.alloc (.cells bx 26)) #[] 0 (by rw [World.size_alloc]; have := hw.size; omega) (by simp [maxLen]) (by simp)
  rw [World.size_alloc] at this
  simpa using this

set_option maxHeartbeats 8000000 in
theorem configTwice_walk (c : Cfg) (z : Int) (w : World) (h : CfgIn w w.heap.size c) (hz : (Lit.int .i64 z).wf = true) :
    Calls Try.prog 6 #[c.val, .int .i64 z] w fun e w' => e = .returned (.bool true) ∧ Below w.heap.size w w' := by
  have hB := fun W (h : CfgIn W W.heap.size c) => big_is c W h
  have hC := fun W (h : CfgIn W W.heap.size c) => check_is c W h
  have hG : (checkI c.ls c.rs c.cs).1 = 0 → Good c.ls c.rs c.cs := good_iff.1
  obtain ⟨b, hb⟩ : ∃ b, bigB c.ls c.rs c.cs = b := ⟨_, rfl⟩
  rw [hb] at hB
  have HIN := Lib.hid h
  clear h hb hz
  generalize checkI c.ls c.rs c.cs = p at hC hG
  obtain ⟨il, hil, hl0, hl1, hl2⟩ := info_parts str_info
  obtain ⟨ir, hir, hr0, hr1, hr2⟩ := info_parts route_info
  have IL := Lib.hid (⟨hil, hl0, hl1, hl2⟩ : _ ∧ _ ∧ _ ∧ _)
  have IR := Lib.hid (⟨hir, hr0, hr1, hr2⟩ : _ ∧ _ ∧ _ ∧ _)
  clear hil hl0 hl1 hl2 hir hr0 hr1 hr2
  have B := boxed w (.cells #[.slice c.la c.ls.length c.lc, .slice c.ra c.rs.length c.rc, .slice c.ca c.cs.length c.cc] 26)
  have hc := hC _ ((HIN.out.below B).more B.size)
  unfold Cfg.val at *
  have HB := Lib.hid hB
  have HG := Lib.hid hG
  clear hB hC hG
  go_enter Try.func6, Try.ntmps6
  go_wp2_with fail
  refine hc.mono ?_
  rintro e W ⟨rfl, kk⟩
  obtain ⟨v0, v1, v2⟩ := box3 kk
  have KK := Lib.hid kk
  have B1 := below_next B kk
  have BX := Lib.hid B
  clear hc kk B
  have hb := HB.out W ((HIN.out.below B1).more B1.size)
  go_wp2_with fail
  refine hb.mono ?_
  rintro e W2 ⟨rfl, kk⟩
  have k2 := KK.out.trans (kk.mono KK.out.size)
  have B2 := below_next B1 kk
  clear v0 v1 v2 hb kk KK B1 HB
  cases b with
  | true =>
    go_wp2_with fail
    refine (checked_is W2).mono ?_
    rintro e W3 ⟨rfl, kk⟩
    have B3 := below_next B2 kk
    clear kk
    go_wp2_with fail
    go_ret
    exact ⟨rfl, B3⟩
  | false =>
  by_cases hz : p.1 = 0
  case neg =>
    have hne : (p.1 != 0) = true := by simpa using hz
    clear hz
    go_wp2_with fail
    refine (checked_is W2).mono ?_
    rintro e W3 ⟨rfl, kk⟩
    have B3 := below_next B2 kk
    clear kk
    go_wp2_with fail
    go_ret
    exact ⟨rfl, B3⟩
  case pos =>
  have hne : (p.1 != 0) = false := by simpa using hz
  have GD := Lib.hid (HG.out hz)
  clear hz B2 HG
  obtain ⟨v0, v1, v2⟩ := box3 k2
  generalize hbx : w.alloc (.cells #[.slice c.la c.ls.length c.lc, .slice c.ra c.rs.length c.rc, .slice c.ca c.cs.length c.cc] 26) = wb at *
  have V3 : ∀ W : World, Below wb.heap.size wb W → W.cell? ⟨w.heap.size, 0, none⟩ = some (.slice c.la c.ls.length c.lc) ∧ W.cell? ⟨w.heap.size, 1, none⟩ = some (.slice c.ra c.rs.length c.rc) ∧ W.cell? ⟨w.heap.size, 2, none⟩ = some (.slice c.ca c.cs.length c.cc) := by
    subst hbx
    intro W hW
    exact box3 hW
  have VV := Lib.hid V3
  clear V3 hbx
  have ff := fits_iff.1 GD.out.fits
  have hm1 : c.ls.length ≤ 4 := ff.1.2
  have hp1 : 0 < c.ls.length := ff.1.1
  have hm2 : c.rs.length ≤ 8 := ff.2.1.2
  have hp2 : 0 < c.rs.length := ff.2.1.1
  clear ff
  -- the copy with a listener more
  have M0 := made_start (s := 1) 9 k2 #[.slice (some ⟨W2.heap.size + 1, 0, none⟩) 0 0, .slice c.ra c.rs.length c.rc, .slice c.ca c.cs.length c.cc]
  obtain ⟨y0, _, _⟩ := VV.out _ M0.B
  have MM := Lib.hid M0
  have BT := BX.out.trans (M0.B.mono BX.out.size)
  have hrd := Lib.hid (HIN.out.pl.below BT)
  clear M0 BT
  go_wp2_with (at_builtin; refine wpList_append_all rfl (.tmp 29) (.tmp 31) 22 rfl il (.string ⟨#[]⟩) 16 Try.underlying22 IL.out.1 IL.out.2.1 IL.out.2.2.1 IL.out.2.2.2 rfl rfl _ (xs := []) (ys := c.ls.map Value.string) MM.out.own (by rw [List.length_map]; rfl) hrd.out (by simp [Value.oneCell']) (by simp [maxLen]; omega) (by simp; omega) MM.out.B.size ?_; intro v' w4 ho hg hb4; obtain ⟨A4, n4, c4, rfl⟩ := own_form ho; have c0 : w4.cell? ⟨W2.heap.size, 0, none⟩ = some (.slice (some ⟨W2.heap.size + 1, 0, none⟩) 0 0) := block_cell (MM.out.grown (by decide) hg) 0; have z0 := block_free (MM.out.grown (by decide) hg) 0)
  have M1 : Made 9 1 wb (w4.setCell ⟨W2.heap.size, 0, none⟩ (.slice A4 n4 c4)) W2.heap.size #[.slice A4 n4 c4, .slice c.ra c.rs.length c.rc, .slice c.ca c.cs.length c.cc] (.slice A4 n4 c4) c.ls.length (c.ls.map Value.string) := MM.out.put (by decide) hg (by rw [List.nil_append] at ho; unfold Own at ho; rw [List.length_map] at ho; exact ho) 0
  clear ho hg hb4 c0 z0 MM hrd y0 v0 v1 v2 k2
  generalize w4.setCell ⟨W2.heap.size, 0, none⟩ (.slice A4 n4 c4) = wr at *
  generalize W2.heap.size = XB at *
  have BT := BX.out.trans (M1.B.mono BX.out.size)
  obtain ⟨v0, v1, v2⟩ := VV.out _ M1.B
  obtain ⟨ad, e⟩ := HIN.out.lad hp1
  have f0 := HIN.out.lcell e hp1 BT
  rw [Addr.add_zero'] at f0
  rw [e] at v0
  clear e v1 v2 BT
  have x0 : wr.cell? ⟨XB, 0, none⟩ = some (.slice A4 n4 c4) := M1.cell 0
  have x0a : (wr.alloc (.cells #[.string (lAt c.ls 0)] 9)).cell? ⟨XB, 0, none⟩ = some (.slice A4 n4 c4) := ((boxed wr _).cell (p := ⟨XB, 0, none⟩) (block_lt M1.box)).trans x0
  have own1 : Own 9 wb.heap.size wr.drew (.slice A4 n4 c4) (c.ls.map Value.string) := by
    have := M1.drew.own
    unfold Own
    rw [List.length_map]
    exact this
  have MR := Lib.hid M1
  have OW := Lib.hid own1
  clear M1 own1
  go_cut [] from 34 to 42 (fun wx => TwoL wb XB c (c.ls ++ [lAt c.ls 0]) wx)
  case first =>
    go_region_law (refine step_append_one rfl (.tmp 35) (.tmp 40) 22 rfl il (.string ⟨#[]⟩) 16 Try.underlying22 IL.out rfl (by simp [Act.eval, Act.put]) _ _ (by rfl) OW.out (by simp [Act.eval, Act.put]) (by simp [maxLen]; omega) (by simp; omega) (by exact MR.out.drew.B.size) ?_; intro v' w5 ho hg; obtain ⟨A5, n5, c5, rfl⟩ := own_form ho; have c0 : w5.cell? ⟨XB, 0, none⟩ = some (.slice A4 n4 c4) := block_cell (MR.out.drew.grown (by decide) hg) 0; have z0 := block_free (MR.out.drew.grown (by decide) hg) 0)
    all_goals
      have M2 : Made 9 1 wb (w5.setCell ⟨XB, 0, none⟩ (.slice A5 n5 c5)) XB #[.slice A5 n5 c5, .slice c.ra c.rs.length c.rc, .slice c.ca c.cs.length c.cc] (.slice A5 n5 c5) (c.ls ++ [lAt c.ls 0]).length ((c.ls ++ [lAt c.ls 0]).map Value.string) := MR.out.drew.put (by decide) hg (by
        unfold Own at ho
        rw [List.map_append, List.length_append, List.length_singleton, List.map_singleton]
        simpa using ho) 0
      clear c0 z0 ho hg
      go_wp2_with fail
      go_meet
      case rel => exact ⟨_, _, _, M2⟩
  case rest =>
    clear f0 x0 x0a MR OW v0
    obtain ⟨A, n, k, M⟩ := hcut
    have BT := BX.out.trans (M.B.mono BX.out.size)
    obtain ⟨la, lc, hv, hI⟩ := made_l (w := w) M ((HIN.out.below BT).more BT.size)
    cases hv
    have hc := check_is _ wc hI
    unfold Cfg.val at hc
    simp only at hc
    rw [twice_l GD.out (by rw [lAt_get hp1]; exact List.getElem_mem hp1)] at hc
    obtain ⟨q, hq⟩ : ∃ q, (if c.ls.length = 4 then ((6 : Int), (0 : Int)) else (4, (c.ls.length : Int))) = q := ⟨_, rfl⟩
    rw [hq] at hc
    have HQ := Lib.hid hq
    have y0 := M.cell 0
    have y1 := M.cell 1
    have y2 := M.cell 2
    simp only [List.getElem?_toArray, List.getElem?_cons_succ, List.getElem?_cons_zero] at y0 y1 y2
    have MB := Lib.hid M.B
    clear hI hq M
    generalize (c.ls ++ [lAt c.ls 0]).length = a1 at hc y0
    go_wp2_with fail
    refine hc.mono ?_
    rintro e W5 ⟨rfl, kk⟩
    have k5 := MB.out.trans (kk.mono MB.out.size)
    clear y0 y1 y2 hc kk MB BT
    -- the copy with a route more
    obtain ⟨v0, v1, v2⟩ := VV.out _ k5
    have M0 := made_start (s := 4) 36 k5 #[.slice c.la c.ls.length c.lc, .slice (some ⟨W5.heap.size + 1, 0, none⟩) 0 0, .slice c.ca c.cs.length c.cc]
    obtain ⟨_, y1, _⟩ := VV.out _ M0.B
    have MM := Lib.hid M0
    have BT := BX.out.trans (M0.B.mono BX.out.size)
    have hrd := Lib.hid (HIN.out.pr.below BT)
    have O4 : Own4 36 wb.heap.size _ (.slice (some ⟨W5.heap.size + 1, 0, none⟩) 0 0) [] := ⟨by simp, M0.own⟩
    have OO := Lib.hid O4
    clear M0 BT O4
    by_cases hin : 0 ≤ z ∧ z < (c.rs.length : Int)
    · obtain ⟨h1, h2⟩ := hin
      obtain ⟨j, rfl⟩ : ∃ j : Nat, z = (j : Int) := ⟨z.toNat, by omega⟩
      have hj : j < c.rs.length := by omega
      have t1 : decide ((j : Int) < 0) = false := decide_eq_false (by omega)
      have t2 : decide ((c.rs.length : Int) ≤ (j : Int)) = false := decide_eq_false (by omega)
      have t3 : decide (c.rs.length ≤ j) = false := decide_eq_false (by omega)
      clear h1 h2
      go_wp2_with (at_builtin; refine wpList_append_all4 rfl (.tmp 52) (.tmp 54) 23 rfl ir (.agg #[.string ⟨#[]⟩, .string ⟨#[]⟩, .string ⟨#[]⟩, .string ⟨#[]⟩]) 64 Try.underlying23 IR.out.1 IR.out.2.1 IR.out.2.2.1 IR.out.2.2.2 rfl rfl _ (rs := []) (ys := c.rs.map Rt.cells) OO.out (len4r _) (by rw [List.length_map]; exact hp2) (by rw [List.length_map]; rfl) hrd.out (fun r hr u hu => by obtain ⟨x, _, rfl⟩ := List.mem_map.1 hr; simp [Rt.cells] at hu; rcases hu with rfl | rfl | rfl | rfl <;> rfl) (by simp [maxLen]; omega) (by simp; omega) MM.out.B.size ?_; intro v' w4 ho hg hb4; obtain ⟨A4, n4, c4, rfl⟩ := own_form ho.2; have c0 : w4.cell? ⟨W5.heap.size, 1, none⟩ = some (.slice (some ⟨W5.heap.size + 1, 0, none⟩) 0 0) := block_cell (MM.out.grown (by decide) hg) 1; have z0 := block_free (MM.out.grown (by decide) hg) 1; have M2 := MM.out.put (by decide) hg ho.2 1; obtain ⟨v0, v1, v2⟩ := VV.out _ M2.B; clear ho hb4)
      have M1 : Made 36 4 wb (w4.setCell ⟨W5.heap.size, 1, none⟩ (.slice A4 n4 c4)) W5.heap.size #[.slice c.la c.ls.length c.lc, .slice A4 n4 c4, .slice c.ca c.cs.length c.cc] (.slice A4 n4 c4) c.rs.length (c.rs.map Rt.cells).flatten := by
        have := M2
        rw [List.nil_append, List.length_map] at this
        exact this
      clear hg c0 z0 MM hrd y1 v0 v1 v2 k5 OO M2 t1 t2 t3 HQ
      generalize w4.setCell ⟨W5.heap.size, 1, none⟩ (.slice A4 n4 c4) = wr at *
      generalize W5.heap.size = YB at *
      have BT := BX.out.trans (M1.B.mono BX.out.size)
      obtain ⟨v0, v1, v2⟩ := VV.out _ M1.B
      obtain ⟨ad, e⟩ := HIN.out.rad hj
      obtain ⟨f0, f1, f2, f3⟩ := HIN.out.rcell e hj BT
      rw [e] at v1
      clear e v0 v2 BT
      obtain ⟨x, hx⟩ : ∃ x, rAt c.rs j = x := ⟨_, rfl⟩
      rw [hx] at f0 f1 f2 f3
      have HX : Hid (x ∈ c.rs) := Lib.hid (by rw [← hx]; exact rAt_mem hj)
      clear hx
      have x0 : wr.cell? ⟨YB, 1, none⟩ = some (.slice A4 n4 c4) := M1.cell 1
      have x0a : (wr.alloc (.cells #[.string x.listen, .string x.host, .string x.path, .string x.cluster] 36)).cell? ⟨YB, 1, none⟩ = some (.slice A4 n4 c4) := ((boxed wr _).cell (p := ⟨YB, 1, none⟩) (block_lt M1.box)).trans x0
      have OW := Lib.hid (show Own4 36 wb.heap.size wr.drew (.slice A4 n4 c4) (c.rs.map Rt.cells) from ⟨len4r _, by rw [List.length_map]; exact M1.drew.own⟩)
      have MR := Lib.hid M1
      clear M1
      go_cut [] from 88 to 97 (fun wx => TwoR wb YB c (c.rs ++ [x]) wx)
      case first =>
        go_region_law (refine step_append_one4 rfl (.tmp 89) (.tmp 95) 23 rfl ir (.agg #[.string ⟨#[]⟩, .string ⟨#[]⟩, .string ⟨#[]⟩, .string ⟨#[]⟩]) 64 Try.underlying23 IR.out rfl (by simp [Act.eval, Act.put]) _ _ _ _ _ (by simp [Value.oneCell']) OW.out (by simp [Act.eval, Act.put]) (by simp [maxLen]; omega) (by simp; omega) (by exact MR.out.drew.B.size) ?_; intro v' w6 ho hg; obtain ⟨A5, n5, c5, rfl⟩ := own_form ho.2; have c0 : w6.cell? ⟨YB, 1, none⟩ = some (.slice A4 n4 c4) := block_cell (MR.out.drew.grown (by decide) hg) 1; have z0 := block_free (MR.out.drew.grown (by decide) hg) 1)
        all_goals
          have M3 : Made 36 4 wb (w6.setCell ⟨YB, 1, none⟩ (.slice A5 n5 c5)) YB #[.slice c.la c.ls.length c.lc, .slice A5 n5 c5, .slice c.ca c.cs.length c.cc] (.slice A5 n5 c5) (c.rs ++ [x]).length ((c.rs ++ [x]).map Rt.cells).flatten := MR.out.drew.put (by decide) hg (by
            have := ho.2
            rw [List.map_append, List.length_append, List.length_singleton, List.map_singleton]
            rw [List.length_append, List.length_map, List.length_singleton] at this
            exact this) 1
          clear c0 z0 ho hg
          go_wp2_with fail
          go_meet
          case rel => exact ⟨_, _, _, M3⟩
      case rest =>
        clear f0 f1 f2 f3 x0 x0a MR OW v1
        obtain ⟨A, n, k, M⟩ := hcut
        have BT := BX.out.trans (M.B.mono BX.out.size)
        obtain ⟨ra, rc, hv, hI⟩ := made_r (w := w) M ((HIN.out.below BT).more BT.size)
        cases hv
        have hc := check_is _ wc hI
        unfold Cfg.val at hc
        simp only at hc
        rw [twice_r GD.out HX.out] at hc
        obtain ⟨d, hd⟩ : ∃ d, (if c.rs.length = 8 then ((6 : Int), (0 : Int)) else (4, (c.rs.length : Int))) = d := ⟨_, rfl⟩
        rw [hd] at hc
        have HD := Lib.hid hd
        have y0 := M.cell 0
        have y1 := M.cell 1
        have y2 := M.cell 2
        simp only [List.getElem?_toArray, List.getElem?_cons_succ, List.getElem?_cons_zero] at y0 y1 y2
        have MB := Lib.hid M.B
        clear hI hd M
        generalize (c.rs ++ [x]).length = a2 at hc y1
        go_wp2_with fail
        refine hc.mono ?_
        rintro e W6 ⟨rfl, kk⟩
        have k6 := MB.out.trans (kk.mono MB.out.size)
        clear y0 y1 y2 hc kk MB BT
        go_wp2_with fail
        refine (checked_is _).mono ?_
        rintro e W7 ⟨rfl, kk⟩
        have B7 := k6.trans (kk.mono k6.size)
        clear kk k6
        obtain ⟨v0, v1, v2⟩ := VV.out _ B7
        have hd := HD.out
        by_cases h8 : c.rs.length = 8
        · have t4 : ((c.rs.length : Int) == 8) = true := beq_iff_eq.2 (by omega)
          rw [if_pos h8] at hd
          clear HD h8
          subst hd
          go_wp2_with fail
          go_ret
          exact ⟨rfl, BX.out.trans (B7.mono BX.out.size)⟩
        · have t4 : ((c.rs.length : Int) == 8) = false := beq_eq_false_iff_ne.2 (by omega)
          rw [if_neg h8] at hd
          clear HD h8
          subst hd
          go_wp2_with fail
          go_ret
          exact ⟨rfl, BX.out.trans (B7.mono BX.out.size)⟩
    · have hout : (decide (z < 0) = true) ∨ (decide (z < 0) = false ∧ decide ((c.rs.length : Int) ≤ z) = true) := by
        by_cases h1 : z < 0
        · exact .inl (decide_eq_true h1)
        · exact .inr ⟨decide_eq_false h1, decide_eq_true (by omega)⟩
      clear hin
      rcases hout with t1 | ⟨t1, t2⟩
      all_goals
        go_wp2_with (at_builtin; refine wpList_append_all4 rfl (.tmp 52) (.tmp 54) 23 rfl ir (.agg #[.string ⟨#[]⟩, .string ⟨#[]⟩, .string ⟨#[]⟩, .string ⟨#[]⟩]) 64 Try.underlying23 IR.out.1 IR.out.2.1 IR.out.2.2.1 IR.out.2.2.2 rfl rfl _ (rs := []) (ys := c.rs.map Rt.cells) OO.out (len4r _) (by rw [List.length_map]; exact hp2) (by rw [List.length_map]; rfl) hrd.out (fun r hr u hu => by obtain ⟨x, _, rfl⟩ := List.mem_map.1 hr; simp [Rt.cells] at hu; rcases hu with rfl | rfl | rfl | rfl <;> rfl) (by simp [maxLen]; omega) (by simp; omega) MM.out.B.size ?_; intro v' w4 ho hg hb4; obtain ⟨A4, n4, c4, rfl⟩ := own_form ho.2; have c0 : w4.cell? ⟨W5.heap.size, 1, none⟩ = some (.slice (some ⟨W5.heap.size + 1, 0, none⟩) 0 0) := block_cell (MM.out.grown (by decide) hg) 1; have z0 := block_free (MM.out.grown (by decide) hg) 1; have M2 := MM.out.put (by decide) hg ho.2 1; have BM := Lib.hid M2.B; obtain ⟨v0, v1, v2⟩ := VV.out _ M2.B; clear ho hb4 M2)
        clear c0 z0 hg y1
        refine (checked_is _).mono ?_
        rintro e W7 ⟨rfl, kk⟩
        have B7 := BM.out.trans (kk.mono BM.out.size)
        clear v0 v1 v2 kk
        obtain ⟨v0, v1, v2⟩ := VV.out _ B7
        have hq := HQ.out
        by_cases h4 : c.ls.length = 4
        · have t4 : ((c.ls.length : Int) == 4) = true := beq_iff_eq.2 (by omega)
          rw [if_pos h4] at hq
          clear HQ h4
          subst hq
          go_wp2_with fail
          go_ret
          exact ⟨rfl, BX.out.trans (B7.mono BX.out.size)⟩
        · have t4 : ((c.ls.length : Int) == 4) = false := beq_eq_false_iff_ne.2 (by omega)
          rw [if_neg h4] at hq
          clear HQ h4
          subst hq
          go_wp2_with fail
          go_ret
          exact ⟨rfl, BX.out.trans (B7.mono BX.out.size)⟩
end Go.Proofs.Ytlaibkinkopkiaa
