/- The landed calls.go: an event is read. (The walk is written by wip/tools/gentake.py.) -/
import Derived.Test.YtglnofdncglmnaaEwbeg
import Derived.Deep.CutRange
namespace Go.Proofs.Ytglnofdncglmnaa
open Go.RowKit
set_option linter.unusedVariables false
set_option linter.unusedSimpArgs false
set_option maxRecDepth 100000

theorem step_store {P : Program} {ops : Array Oper} {o : Oper} {a : Act} {K : Act → World → Prop} {Q : Exit → Act → World → Prop} {F : Prop} (hg : o.guard = none) (x y : Operand) (t : TypeId) (ho : o.op = Op.store t x y) {p u : Value} (hx : a.eval x = p) (hy : a.eval y = u) {w w' : World} (hrun : (Instr.storeAt t p u).run P w = .ok () w') (h : K (a.put o.dst undef) w') :
    if Region.wanted o (yielded ops a.tmps) = true then Oper.wp P o a w K Q else F := by
  have hw : Region.wanted o (yielded ops a.tmps) = true := by simp [Region.wanted, hg]
  rw [if_pos hw]
  unfold Oper.wp
  simp [execOp, ho, hx, hy, hrun, Result.andThen]
  exact h
theorem exec_load {P : Program} {a : Act} {w : World} {o : Oper} (x : Operand) (t : TypeId) (ho : o.op = Op.load t x) {p v : Value} (hx : a.eval x = p) (hrun : (Instr.loadAt t p).run P w = .ok v w) : (execOp a.eval o).run P w = .ok (.value v) w := by
  simp [execOp, ho, hx, hrun, Result.andThen]
/-- What 'take' answers: whether the event may stand there; if so the calls are what the document makes of them. -/
def TookE (m l r : Nat) (W : World) (k : Nat) (x : Ev) (out : List Cal) (e : Ending) (w' : World) : Prop :=
  (match ofStep out k x with
    | some out' => e = .returned (.bool true) ∧ ∃ v', RdIn m l r w' v' out'
    | none => e = .returned (.bool false)) ∧ Below (min m l) W w'
theorem TookE.yes {m l r k : Nat} {W w' : World} {x : Ev} {out out' : List Cal} {v' : Value} (hs : ofStep out k x = some out') (h : RdIn m l r w' v' out') (hb : Below (min m l) W w') : TookE m l r W k x out (.returned (.bool true)) w' := by
  unfold TookE
  rw [hs]
  exact ⟨⟨rfl, v', h⟩, hb⟩
theorem TookE.no {m l r k : Nat} {W w' : World} {x : Ev} {out : List Cal} (hs : ofStep out k x = none) (hb : Below (min m l) W w') : TookE m l r W k x out (.returned (.bool false)) w' := by
  unfold TookE
  rw [hs]
  exact ⟨rfl, hb⟩
theorem Mod.box {m l r xb T E base : Nat} {v : Value} {W W' : World} {cs : Array Value} {rs : List (List Value)} {n : Nat} (h : Mod m l r v W W') (hx : W.heap[xb]? = some (.cells cs T (0, 0))) (ho : OwnN n E base W v rs) (hT : E ≠ T) (hm : m < r) (hl : l < r) (hr : r < xb) : W'.heap[xb]? = some (.cells cs T (0, 0)) :=
  (h.k xb (block_lt hx) (by omega) (by omega) (by omega) (ho.apart hx hT)).trans hx

section
variable {m l r g cap xb j k : Nat} {W : World} {out : List Cal} {x : Ev} {y : Cal}
theorem rd_pt (S : RdIn m l r W (.slice (some ⟨g, 0, none⟩) out.length cap) out) (hg : r < g) (hj : j < out.length) (hy : out[j] = y) :
    RdIn m l r (W.setCell ⟨g, j * 18 + 3, none⟩ (.int .i64 (k : Int))) (.slice (some ⟨g, 0, none⟩) (out.set j (y.pt k)).length cap) (out.set j (y.pt k)) :=
  S.put hj hg 3 [.int .i64 (k : Int)] (by simp) (by rw [hy]; rfl) (by rw [hy]; rfl) (by rw [hy]; rfl)
theorem rd_en (S : RdIn m l r W (.slice (some ⟨g, 0, none⟩) out.length cap) out) (hg : r < g) (hj : j < out.length) (hy : out[j] = y) :
    RdIn m l r (W.setCell ⟨g, j * 18 + 4, none⟩ (.int .i64 (k : Int))) (.slice (some ⟨g, 0, none⟩) (out.set j (y.en k)).length cap) (out.set j (y.en k)) :=
  S.put hj hg 4 [.int .i64 (k : Int)] (by simp) (by rw [hy]; rfl) (by rw [hy]; rfl) (by rw [hy]; rfl)
theorem rd_an (S : RdIn m l r W (.slice (some ⟨g, 0, none⟩) out.length cap) out) (hg : r < g) (hj : j < out.length) (hy : out[j] = y) :
    RdIn m l r (W.setCells g (j * 18 + 5) x.ans.cells) (.slice (some ⟨g, 0, none⟩) (out.set j (y.an x.ans)).length cap) (out.set j (y.an x.ans)) :=
  S.put hj hg 5 x.ans.cells (by simp [An.cells]) (by rw [hy]; rfl) (by rw [hy]; rfl) (by rw [hy]; rfl)
/-- The event's own box, where another block is written. -/
theorem box_put {cs : Array Value} {T : TypeId} {p : Nat} {u : Value} (h : W.heap[xb]? = some (.cells cs T (0, 0))) (hne : xb ≠ g) : (W.setCell ⟨g, p, none⟩ u).heap[xb]? = some (.cells cs T (0, 0)) := by
  rw [RowKit.Below.heap_setCell _ _ _ _ hne]; exact h
theorem ev_box (h : W.heap[xb]? = some (.cells x.cells.toArray 43 (0, 0))) : W.cell? ⟨xb, 8, none⟩ = some (.bool x.point) ∧ W.cell? ⟨xb, 9, none⟩ = some (.bool x.done) ∧ W.rangeAt xb 10 x.ans.cells := by
  have hl : Lies W ⟨xb, 0, none⟩ x.cells := BoxAt.lies (T := 43) h
  obtain ⟨_, _, _, _, _, _, _, _, f8, f9, _⟩ := ev_at hl
  refine ⟨by simpa using f8, by simpa using f9, fun i v hv => ?_⟩
  have := hl (10 + i) v (by
    show (x.cells)[10 + i]? = _
    unfold Ev.cells
    rw [Nat.add_comm]
    exact hv)
  rw [Addr.add_lit, Nat.zero_add] at this
  exact this
end

set_option maxHeartbeats 16000000 in
theorem take_is (m l r k : Nat) (W : World) (v : Value) (x : Ev) (out : List Cal) (h : RdIn m l r W v out) (hv : Inv k out) (hx : x.wf) (hk : k < 9223372036854775808) (hl : (out.length + 1) * 144 ≤ 140737488355328) :
    Calls Try.prog 17 #[.pointer (some ⟨r, 0, none⟩), .int .i64 (k : Int), .agg x.cells.toArray] W (TookE m l r W k x out) := by
  have HSA : Hid ((Try.prog.info? 38).map (·.size) = some 13) := Lib.hid (by kernel_rfl)
  have HON : Hid (∀ a : An, a.cells.toArray.all (·.oneCell') = true) := Lib.hid fun a => by simp [An.cells, Value.oneCell']
  obtain ⟨xb, hxb⟩ : ∃ xb, W.heap.size = xb := ⟨_, rfl⟩
  obtain ⟨W1, hW1⟩ : ∃ W1, W.alloc (.cells x.cells.toArray 43) = W1 := ⟨_, rfl⟩
  have hz1 : W1.heap.size = xb + 1 := by rw [← hW1, ← hxb]; simp
  obtain ⟨W2, hW2⟩ : ∃ W2, W1.alloc (.cells #[.int .i64 x.thread, .int .i64 x.op] 60) = W2 := ⟨_, rfl⟩
  have hz2 : W2.heap.size = xb + 2 := by rw [← hW2, World.size_alloc, hz1]
  have hb1 : W1.heap[xb]? = some (.cells x.cells.toArray 43 (0, 0)) := by rw [← hW1, ← hxb]; exact heap_alloc_last W _
  have hb2 : W2.heap[xb]? = some (.cells x.cells.toArray 43 (0, 0)) := by rw [← hW2, (MapKept.heap_alloc W1 _).2 xb (by omega)]; exact hb1
  have hk2 : W2.heap[xb + 1]? = some (.cells #[.int .i64 x.thread, .int .i64 x.op] 60 (0, 0)) := by rw [← hW2, ← hz1]; exact heap_alloc_last W1 _
  have h2 : RdIn m l r W2 v out := hW2 ▸ hW1 ▸ (h.alloc _).alloc _
  have hrx : r < xb := by rw [← hxb]; exact h.size
  have hmr := h.hm
  have hlr := h.hl
  have hB2 : Below (min m l) W W2 := by
    rw [← hW2, ← hW1]
    exact ((Below.refl _ _).grown (World.grownBy_alloc W _ none) (by omega) (fun q e => by cases e)).grown (World.grownBy_alloc _ _ none) (by simp; omega) (fun q e => by cases e)
  have f := ev_at (BoxAt.lies (T := 43) hb1)
  have f' := ev_at (BoxAt.lies (T := 43) hb2)
  have f0 : W1.cell? ⟨xb, 0, none⟩ = some (.int .i64 x.thread) := f.1
  have f1 : W1.cell? ⟨xb, 1, none⟩ = some (.int .i64 x.op) := by simpa using f.2.1
  have f7 : W2.cell? ⟨xb, 7, none⟩ = some (.bool x.begin) := by obtain ⟨_, _, _, _, _, _, _, f7, _⟩ := f'; simpa using f7
  have k0 : W2.cell? ⟨xb + 1, 0, none⟩ = some (.int .i64 x.thread) := by rw [block_cell hk2]; rfl
  have k1 : W2.cell? ⟨xb + 1, 1, none⟩ = some (.int .i64 x.op) := by rw [block_cell hk2]; rfl
  have HW1 := Lib.hid hW1
  have HW2 := Lib.hid hW2
  have HXB := Lib.hid hxb
  have HR2 := Lib.hid h2
  have HB2 := Lib.hid hB2
  have HE2 := Lib.hid hb2
  have HK2 := Lib.hid hk2
  have HV := Lib.hid hv
  have HX := Lib.hid hx
  have HZ1 := Lib.hid hz1
  clear f f' hb1 hb2 hk2 h2 hB2 h hv hx hW1 hW2 hxb hz1
  go_enter Try.func17, Try.ntmps17
  go_upto_region 1 with fail
  rw [HW1.out, HXB.out]
  go_upto_region 2 with fail
  rw [HW2.out, HZ1.out]
  clear f0 f1 HW1 HW2 HZ1 HXB hz2
  rcases hb : x.begin with _ | _
  · skip
    rw [hb] at f7
    obtain ⟨W3, hW3⟩ : ∃ W3, W2 = W3 := ⟨_, rfl⟩
    obtain ⟨o1, ho1⟩ : ∃ o1, out = o1 := ⟨_, rfl⟩
    have HR3 : Hid (RdIn m l r W3 v o1) := Lib.hid (by rw [← hW3, ← ho1]; exact HR2.out)
    have HE3 : Hid (W3.heap[xb]? = some (.cells x.cells.toArray 43 (0, 0))) := Lib.hid (by rw [← hW3]; exact HE2.out)
    have HK3 : Hid (W3.heap[xb + 1]? = some (.cells #[.int .i64 x.thread, .int .i64 x.op] 60 (0, 0))) := Lib.hid (by rw [← hW3]; exact HK2.out)
    have HB3 : Hid (Below (min m l) W W3) := Lib.hid (by rw [← hW3]; exact HB2.out)
    rw [hW3] at f7 k0 k1 ⊢
    have HO1 := Lib.hid ho1
    clear hW3 HR2 HE2 HK2 HB2 ho1
    have f0 : ∀ i : Far W3.heap.size W3, i.v.cell? ⟨r, 1, none⟩ = some (.map (some m)) := fun i => (i.p.cell (show r < W3.heap.size from HR3.out.size)).trans HR3.out.cells.2.1
    have f1 : ∀ i : Far W3.heap.size W3, i.v.cell? ⟨xb + 1, 0, none⟩ = some (.int .i64 x.thread) := fun i => (i.p.cell (show xb + 1 < W3.heap.size from block_lt HK3.out)).trans (by rw [block_cell HK3.out]; rfl)
    have f2 : ∀ i : Far W3.heap.size W3, i.v.cell? ⟨xb + 1, 1, none⟩ = some (.int .i64 x.op) := fun i => (i.p.cell (show xb + 1 < W3.heap.size from block_lt HK3.out)).trans (by rw [block_cell HK3.out]; rfl)
    have LK : Hid (∀ i : Far W3.heap.size W3, (Instr.lookup 44 (.map (some m)) (.agg #[.int .i64 x.thread, .int .i64 x.op]) true).run Try.prog i.v = .ok (.tuple #[.int .i64 ((placeO o1 x.thread x.op).getD 0), .bool (placeO o1 x.thread x.op).isSome]) i.v) := Lib.hid fun i => (HR3.out.kept (grownBy_below i.p)).km.look HX.out.1 HX.out.2
    go_wp2_with fail
    refine wp_region_far (B := W3.heap.size) (by kernel_rfl) (by kernel_rfl) ?_
    iterate 5 go_big_quiet_step (fail)
    refine wpQuiet_look rfl (.tmp 29) (.tmp 30) 44 true rfl _ _ _ rfl rfl LK.out ?_
    simp only [Act.put, List.setIfInBounds_toArray, List.set_cons_zero, List.set_cons_succ]
    iterate 5 go_big_quiet_step (fail)
    refine wpQuiet_nil ?_
    rintro _ ⟨i, rfl⟩
    have hr4 := HR3.out.kept (grownBy_below i.p)
    have he4 := (i.p.block xb (block_lt HE3.out)).trans HE3.out
    have hB4 : Below (min m l) W i.v := HB3.out.trans (i.p.mono (by have := HR3.out.size; omega))
    obtain ⟨W4, hW4⟩ : ∃ W4, i.v = W4 := ⟨_, rfl⟩
    rw [hW4] at hr4 he4 hB4 ⊢
    clear hW4 f0 f1 f2 LK HR3 HE3 HK3 HB3 i
    rcases hp : placeO o1 x.thread x.op with _ | j
    · skip
      have HF : Hid (TookE m l r W k x out (.returned (.bool false)) W4) := Lib.hid (TookE.no (by rw [HO1.out]; exact step_no2 hp hb) hB4)
      clear hr4 he4 hB4
      go_wp2_with fail
      go_ret
      exact HF.out
    · skip
      obtain ⟨y, hy, _, _⟩ := place_some hp
      have hj := (List.getElem?_eq_some_iff.1 hy).1
      have HY : Hid (o1[j] = y) := Lib.hid (by rw [List.getElem?_eq_getElem hj] at hy; injection hy)
      have hits := its_is m l r j W4 v o1 hr4 hj
      rw [HY.out] at hits
      have hyc := HV.out.each y (by rw [HO1.out]; exact mem_of_get hy)
      by_cases hto : y.to = -1
      · skip
        have HSTEP : Hid (ofStep out k x = some (o1.set j (y.mark k x))) := Lib.hid (by rw [HO1.out]; exact step_old hp hy hb (by omega))
        rw [decide_eq_true hto] at hits
        clear hy hyc hp
        have HR5 := Lib.hid hr4
        have HE5 := Lib.hid he4
        have HB5 := Lib.hid hB4
        clear hr4 he4 hB4
        go_wp2_with fail
        refine hits.mono ?_
        rintro e W4 ⟨rfl, rfl⟩
        have hr4 := HR5.out
        have he4 := HE5.out
        have hB4 := HB5.out
        clear hits HR5 HE5 HB5
        obtain ⟨g, cap, hve, hrg, _, hgz⟩ := hr4.head hj
        subst hve
        have hgx : g ≠ xb := by intro e; subst e; exact hr4.row.apart he4 (by decide) rfl
        obtain ⟨c3, c4, z3, z4, th⟩ := hr4.at hj
        rw [HY.out] at c3 c4
        obtain ⟨f8, f9, p10⟩ := ev_box he4
        have c0 := hr4.cells.1
        have HR4 := Lib.hid hr4
        have HE4 := Lib.hid he4
        have HB4 := Lib.hid hB4
        clear hr4 he4 hB4 p10 th
        rcases h8 : x.point with _ | _ <;> rcases h9 : x.done with _ | _
        · skip
          rw [h8] at f8
          rw [h9] at f9
          have HFIN : Hid (TookE m l r W k x out (.returned (.bool true)) W4) := Lib.hid (TookE.yes HSTEP.out (by rw [mark_ff h8 h9, ← HY.out, List.set_getElem_self]; exact HR4.out) HB4.out)
          go_wp2_with fail
          go_ret
          exact HFIN.out
        · skip
          rw [h8] at f8
          rw [h9] at f9
          have c4d : W4.drew.cell? ⟨g, j * 18 + 4, none⟩ = some (.int .i64 y.to) := c4
          have z4d : W4.drew.frozen? ⟨g, j * 18 + 4, none⟩ = false := z4
          have hed : W4.drew.heap[xb]? = some (.cells x.cells.toArray 43 (0, 0)) := HE4.out
          have HRD := Lib.hid (HR4.out.kept (drew_grown W4))
          have HBD : Hid (Below (min m l) W W4.drew) := Lib.hid HB4.out.drew
          clear c4 z4 c3 z3
          go_wp2_with fail
          refine wp_region_held_drew (S := fun wk => wk.heap[xb]? = some (.cells x.cells.toArray 43 (0, 0))) (by kernel_rfl) hed (fun _ => ?_)
          try simp only [Act.put, List.setIfInBounds_toArray, List.set_cons_zero, List.set_cons_succ]
          obtain ⟨Wd, hWd⟩ : ∃ Wd, W4.drew = Wd := ⟨_, rfl⟩
          rw [hWd] at c4d z4d hed HRD HBD ⊢
          clear hWd
          refine wpAnyH_take (i := 0) (oi := { dst := some 56, op := _, type := _, pos := _, after := _, guard := _ }) (v := .pointer (some ⟨g, j * 18, none⟩)) rfl (by kernel_rfl) (by kernel_rfl) (by kernel_rfl) (fun _ _ _ h => h) (Or.inl ⟨by rfl, fun wk hk => by go_simp⟩) hed ?_
          simp only [Act.put, List.setIfInBounds_toArray, List.set_cons_zero, List.set_cons_succ]
          refine wpAnyH_take (i := 1) (oi := { dst := some 57, op := _, type := _, pos := _, after := _, guard := _ }) (v := .pointer (some ⟨g, j * 18, none⟩)) rfl (by kernel_rfl) (by kernel_rfl) (by kernel_rfl) (fun _ _ _ h => h) (Or.inl ⟨by rfl, fun wk hk => by go_simp⟩) hed ?_
          simp only [Act.put, List.setIfInBounds_toArray, List.set_cons_zero, List.set_cons_succ]
          refine wpAnyH_take (i := 2) (oi := { dst := some 58, op := _, type := _, pos := _, after := _, guard := _ }) (v := .int .i64 (k : Int)) rfl (by kernel_rfl) (by kernel_rfl) (by kernel_rfl) (fun _ _ _ h => h) (Or.inl ⟨by rfl, fun wk hk => by go_simp⟩) hed ?_
          simp only [Act.put, List.setIfInBounds_toArray, List.set_cons_zero, List.set_cons_succ]
          refine wpAnyH_take (i := 3) (oi := { dst := some 59, op := _, type := _, pos := _, after := _, guard := _ }) (v := .pointer (some ⟨xb, 10, none⟩)) rfl (by kernel_rfl) (by kernel_rfl) (by kernel_rfl) (fun _ _ _ h => h) (Or.inl ⟨by rfl, fun wk hk => by go_simp⟩) hed ?_
          simp only [Act.put, List.setIfInBounds_toArray, List.set_cons_zero, List.set_cons_succ]
          refine wpAnyH_take (i := 4) (oi := { dst := some 60, op := _, type := _, pos := _, after := _, guard := _ }) (v := .agg x.ans.cells.toArray) rfl (by kernel_rfl) (by kernel_rfl) (by kernel_rfl) (fun _ _ _ h => h) (Or.inl ⟨by rfl, fun wk hk => by exact exec_load (.tmp 59) 38 rfl rfl (run_loadAt_mid (P := Try.prog) _ _ _ 38 _ _ (ev_box hk).2.2 Try.underlying38 rfl HSA.out)⟩) hed ?_
          simp only [Act.put, List.setIfInBounds_toArray, List.set_cons_zero, List.set_cons_succ]
          refine wpAnyH_take (i := 5) (oi := { dst := some 61, op := _, type := _, pos := _, after := _, guard := _ }) (v := .pointer (some ⟨g, j * 18, none⟩)) rfl (by kernel_rfl) (by kernel_rfl) (by kernel_rfl) (fun _ _ _ h => h) (Or.inl ⟨by rfl, fun wk hk => by go_simp⟩) hed ?_
          simp only [Act.put, List.setIfInBounds_toArray, List.set_cons_zero, List.set_cons_succ]
          refine wpAnyH_take (i := 6) (oi := { dst := some 62, op := _, type := _, pos := _, after := _, guard := _ }) (v := .pointer (some ⟨g, j * 18 + 4, none⟩)) rfl (by kernel_rfl) (by kernel_rfl) (by kernel_rfl) (fun _ _ _ h => h) (Or.inl ⟨by rfl, fun wk hk => by go_simp⟩) hed ?_
          simp only [Act.put, List.setIfInBounds_toArray, List.set_cons_zero, List.set_cons_succ]
          have hrd := HRD.out
          have hen := rd_en (k := k) hrd hrg hj HY.out
          have hg4 := grown_setCell Wd g (j * 18 + 4) (.int .i64 (k : Int))
          have hee := box_put (p := j * 18 + 4) (u := .int .i64 (k : Int)) hed hgx.symm
          obtain ⟨We, hWe⟩ : ∃ We, Wd.setCell ⟨g, j * 18 + 4, none⟩ (.int .i64 (k : Int)) = We := ⟨_, rfl⟩
          have hBe : Below (min m l) W We := by rw [← hWe]; exact HBD.out.grown hg4 (by have := hrd.size; omega) (fun q e => by injection e with e; omega)
          rw [hWe] at hen hee
          have hje : j < (o1.set j (y.en k)).length := by rw [List.length_set]; exact hj
          have the := (hen.at hje).2.2.2.2
          have han := rd_an (x := x) hen hrg hje (List.getElem_set_self ..)
          rw [List.set_set] at han
          have hgn := setCells_grown g x.ans.cells (j * 18 + 5) We
          have hBn : Below (min m l) W (We.setCells g (j * 18 + 5) x.ans.cells) := hBe.grown hgn (by have := hen.size; omega) (fun q e => by injection e with e; omega)
          have hen2 : (We.setCells g (j * 18 + 5) x.ans.cells).heap[xb]? = some (.cells x.cells.toArray 43 (0, 0)) := (hgn.block xb (block_lt hee) (by intro e; injection e with e; exact hgx e.symm)).trans hee
          have hst := run_storeAt_mid (P := Try.prog) _ _ _ 38 x.ans.cells.toArray the HSA.out (HON.out _)
          obtain ⟨Wf, hWf⟩ : ∃ Wf, We.setCells g (j * 18 + 5) x.ans.cells = Wf := ⟨_, rfl⟩
          rw [hWf] at han hBn hen2
          have HST : Hid ((Instr.storeAt 38 (.pointer (some ⟨g, j * 18 + 5, none⟩)) (.agg x.ans.cells.toArray)).run Try.prog We = .ok () Wf) := Lib.hid (by rw [← hWf]; exact hst)
          have HFIN : Hid (TookE m l r W k x out (.returned (.bool true)) Wf) := Lib.hid (TookE.yes HSTEP.out (by rw [mark_ft h8 h9]; exact han) hBn)
          clear hst hWf han hBn hgn the hje hen hg4 HRD HBD hrd hBe
          refine wpAnyH_ready (rs := [7]) (by kernel_rfl) (by simp) ?_
          refine (AllReadyH.cons (o := { dst := none, op := _, type := _, pos := _, after := _, guard := _ }) rfl (fun K hK => ?_) AllReadyH.nil)
          go_simp
          try rw [hWe]
          refine hK.out _ _ hee (fun _ => ?_)
          clear hK K
          try simp only [Act.put, List.setIfInBounds_toArray, List.set_cons_zero, List.set_cons_succ]
          clear hWe c4d z4d
          refine wpAnyH_take (i := 8) (oi := { dst := some 63, op := _, type := _, pos := _, after := _, guard := _ }) (v := .pointer (some ⟨g, j * 18, none⟩)) rfl (by kernel_rfl) (by kernel_rfl) (by kernel_rfl) (fun _ _ _ h => h) (Or.inl ⟨by rfl, fun wk hk => by go_simp⟩) hee ?_
          simp only [Act.put, List.setIfInBounds_toArray, List.set_cons_zero, List.set_cons_succ]
          refine wpAnyH_take (i := 9) (oi := { dst := some 64, op := _, type := _, pos := _, after := _, guard := _ }) (v := .pointer (some ⟨g, j * 18 + 5, none⟩)) rfl (by kernel_rfl) (by kernel_rfl) (by kernel_rfl) (fun _ _ _ h => h) (Or.inl ⟨by rfl, fun wk hk => by go_simp⟩) hee ?_
          simp only [Act.put, List.setIfInBounds_toArray, List.set_cons_zero, List.set_cons_succ]
          refine wpAnyH_ready (rs := [10]) (by kernel_rfl) (by simp) ?_
          refine (AllReadyH.cons (o := { dst := none, op := _, type := _, pos := _, after := _, guard := _ }) rfl (fun K hK => ?_) AllReadyH.nil)
          refine step_store rfl (.tmp 64) (.tmp 60) 38 rfl rfl rfl HST.out ?_
          refine hK.out _ _ hen2 (fun _ => ?_)
          clear hK K
          try simp only [Act.put, List.setIfInBounds_toArray, List.set_cons_zero, List.set_cons_succ]
          refine wpAnyH_done (by kernel_rfl) ?_ _
          clear hee hed hen2 HST
          go_wp2_with fail
          go_ret
          exact HFIN.out
        · skip
          rw [h8] at f8
          obtain ⟨W5, hW5⟩ : ∃ W5, W4.setCell ⟨g, j * 18 + 3, none⟩ (.int .i64 (k : Int)) = W5 := ⟨_, rfl⟩
          have hr5 := rd_pt (k := k) HR4.out hrg hj HY.out
          have he5 := box_put (p := j * 18 + 3) (u := .int .i64 (k : Int)) HE4.out hgx.symm
          have hB5 : Below (min m l) W (W4.setCell ⟨g, j * 18 + 3, none⟩ (.int .i64 (k : Int))) := HB4.out.grown (grown_setCell W4 g (j * 18 + 3) _) (by have := HR4.out.size; omega) (fun q e => by injection e with e; omega)
          rw [hW5] at hr5 he5 hB5
          obtain ⟨_, f9, _⟩ := ev_box he5
          rw [h9] at f9
          have HW5 := Lib.hid hW5
          clear hW5
          have HFIN : Hid (TookE m l r W k x out (.returned (.bool true)) W5) := Lib.hid (TookE.yes HSTEP.out (by rw [mark_tf h8 h9]; exact hr5) hB5)
          clear hr5 he5 hB5
          go_upto_region 10 with fail
          rw [HW5.out]
          go_wp2_with fail
          go_ret
          exact HFIN.out
        · skip
          rw [h8] at f8
          obtain ⟨W5, hW5⟩ : ∃ W5, W4.setCell ⟨g, j * 18 + 3, none⟩ (.int .i64 (k : Int)) = W5 := ⟨_, rfl⟩
          have hr5 := rd_pt (k := k) HR4.out hrg hj HY.out
          have he5 := box_put (p := j * 18 + 3) (u := .int .i64 (k : Int)) HE4.out hgx.symm
          have hB5 : Below (min m l) W (W4.setCell ⟨g, j * 18 + 3, none⟩ (.int .i64 (k : Int))) := HB4.out.grown (grown_setCell W4 g (j * 18 + 3) _) (by have := HR4.out.size; omega) (fun q e => by injection e with e; omega)
          rw [hW5] at hr5 he5 hB5
          obtain ⟨_, f9, _⟩ := ev_box he5
          rw [h9] at f9
          have HW5 := Lib.hid hW5
          clear hW5
          go_upto_region 10 with fail
          rw [HW5.out]
          have hj3 : j < (o1.set j (y.pt k)).length := by rw [List.length_set]; exact hj
          have d4 := (hr5.at hj3).2.1
          have y4 := (hr5.at hj3).2.2.2.1
          rw [List.getElem_set_self] at d4
          have c4d : W5.drew.cell? ⟨g, j * 18 + 4, none⟩ = some (.int .i64 y.to) := d4
          have z4d : W5.drew.frozen? ⟨g, j * 18 + 4, none⟩ = false := y4
          have hed : W5.drew.heap[xb]? = some (.cells x.cells.toArray 43 (0, 0)) := he5
          have HRD := Lib.hid (hr5.kept (drew_grown W5))
          have HBD : Hid (Below (min m l) W W5.drew) := Lib.hid hB5.drew
          clear c4 z4 c3 z3
          go_wp2_with fail
          refine wp_region_held_drew (S := fun wk => wk.heap[xb]? = some (.cells x.cells.toArray 43 (0, 0))) (by kernel_rfl) hed (fun _ => ?_)
          try simp only [Act.put, List.setIfInBounds_toArray, List.set_cons_zero, List.set_cons_succ]
          obtain ⟨Wd, hWd⟩ : ∃ Wd, W5.drew = Wd := ⟨_, rfl⟩
          rw [hWd] at c4d z4d hed HRD HBD ⊢
          clear hWd
          refine wpAnyH_take (i := 0) (oi := { dst := some 56, op := _, type := _, pos := _, after := _, guard := _ }) (v := .pointer (some ⟨g, j * 18, none⟩)) rfl (by kernel_rfl) (by kernel_rfl) (by kernel_rfl) (fun _ _ _ h => h) (Or.inl ⟨by rfl, fun wk hk => by go_simp⟩) hed ?_
          simp only [Act.put, List.setIfInBounds_toArray, List.set_cons_zero, List.set_cons_succ]
          refine wpAnyH_take (i := 1) (oi := { dst := some 57, op := _, type := _, pos := _, after := _, guard := _ }) (v := .pointer (some ⟨g, j * 18, none⟩)) rfl (by kernel_rfl) (by kernel_rfl) (by kernel_rfl) (fun _ _ _ h => h) (Or.inl ⟨by rfl, fun wk hk => by go_simp⟩) hed ?_
          simp only [Act.put, List.setIfInBounds_toArray, List.set_cons_zero, List.set_cons_succ]
          refine wpAnyH_take (i := 2) (oi := { dst := some 58, op := _, type := _, pos := _, after := _, guard := _ }) (v := .int .i64 (k : Int)) rfl (by kernel_rfl) (by kernel_rfl) (by kernel_rfl) (fun _ _ _ h => h) (Or.inl ⟨by rfl, fun wk hk => by go_simp⟩) hed ?_
          simp only [Act.put, List.setIfInBounds_toArray, List.set_cons_zero, List.set_cons_succ]
          refine wpAnyH_take (i := 3) (oi := { dst := some 59, op := _, type := _, pos := _, after := _, guard := _ }) (v := .pointer (some ⟨xb, 10, none⟩)) rfl (by kernel_rfl) (by kernel_rfl) (by kernel_rfl) (fun _ _ _ h => h) (Or.inl ⟨by rfl, fun wk hk => by go_simp⟩) hed ?_
          simp only [Act.put, List.setIfInBounds_toArray, List.set_cons_zero, List.set_cons_succ]
          refine wpAnyH_take (i := 4) (oi := { dst := some 60, op := _, type := _, pos := _, after := _, guard := _ }) (v := .agg x.ans.cells.toArray) rfl (by kernel_rfl) (by kernel_rfl) (by kernel_rfl) (fun _ _ _ h => h) (Or.inl ⟨by rfl, fun wk hk => by exact exec_load (.tmp 59) 38 rfl rfl (run_loadAt_mid (P := Try.prog) _ _ _ 38 _ _ (ev_box hk).2.2 Try.underlying38 rfl HSA.out)⟩) hed ?_
          simp only [Act.put, List.setIfInBounds_toArray, List.set_cons_zero, List.set_cons_succ]
          refine wpAnyH_take (i := 5) (oi := { dst := some 61, op := _, type := _, pos := _, after := _, guard := _ }) (v := .pointer (some ⟨g, j * 18, none⟩)) rfl (by kernel_rfl) (by kernel_rfl) (by kernel_rfl) (fun _ _ _ h => h) (Or.inl ⟨by rfl, fun wk hk => by go_simp⟩) hed ?_
          simp only [Act.put, List.setIfInBounds_toArray, List.set_cons_zero, List.set_cons_succ]
          refine wpAnyH_take (i := 6) (oi := { dst := some 62, op := _, type := _, pos := _, after := _, guard := _ }) (v := .pointer (some ⟨g, j * 18 + 4, none⟩)) rfl (by kernel_rfl) (by kernel_rfl) (by kernel_rfl) (fun _ _ _ h => h) (Or.inl ⟨by rfl, fun wk hk => by go_simp⟩) hed ?_
          simp only [Act.put, List.setIfInBounds_toArray, List.set_cons_zero, List.set_cons_succ]
          have hrd := HRD.out
          have hen := rd_en (k := k) hrd hrg hj3 (List.getElem_set_self ..)
          have hg4 := grown_setCell Wd g (j * 18 + 4) (.int .i64 (k : Int))
          have hee := box_put (p := j * 18 + 4) (u := .int .i64 (k : Int)) hed hgx.symm
          obtain ⟨We, hWe⟩ : ∃ We, Wd.setCell ⟨g, j * 18 + 4, none⟩ (.int .i64 (k : Int)) = We := ⟨_, rfl⟩
          have hBe : Below (min m l) W We := by rw [← hWe]; exact HBD.out.grown hg4 (by have := hrd.size; omega) (fun q e => by injection e with e; omega)
          rw [hWe] at hen hee
          rw [List.set_set] at hen
          have hje : j < (o1.set j ((y.pt k).en k)).length := by rw [List.length_set]; exact hj
          have the := (hen.at hje).2.2.2.2
          have han := rd_an (x := x) hen hrg hje (List.getElem_set_self ..)
          rw [List.set_set] at han
          have hgn := setCells_grown g x.ans.cells (j * 18 + 5) We
          have hBn : Below (min m l) W (We.setCells g (j * 18 + 5) x.ans.cells) := hBe.grown hgn (by have := hen.size; omega) (fun q e => by injection e with e; omega)
          have hen2 : (We.setCells g (j * 18 + 5) x.ans.cells).heap[xb]? = some (.cells x.cells.toArray 43 (0, 0)) := (hgn.block xb (block_lt hee) (by intro e; injection e with e; exact hgx e.symm)).trans hee
          have hst := run_storeAt_mid (P := Try.prog) _ _ _ 38 x.ans.cells.toArray the HSA.out (HON.out _)
          obtain ⟨Wf, hWf⟩ : ∃ Wf, We.setCells g (j * 18 + 5) x.ans.cells = Wf := ⟨_, rfl⟩
          rw [hWf] at han hBn hen2
          have HST : Hid ((Instr.storeAt 38 (.pointer (some ⟨g, j * 18 + 5, none⟩)) (.agg x.ans.cells.toArray)).run Try.prog We = .ok () Wf) := Lib.hid (by rw [← hWf]; exact hst)
          have HFIN : Hid (TookE m l r W k x out (.returned (.bool true)) Wf) := Lib.hid (TookE.yes HSTEP.out (by rw [mark_tt h8 h9]; exact han) hBn)
          clear hst hWf han hBn hgn the hje hen hg4 HRD HBD hrd hBe
          refine wpAnyH_ready (rs := [7]) (by kernel_rfl) (by simp) ?_
          refine (AllReadyH.cons (o := { dst := none, op := _, type := _, pos := _, after := _, guard := _ }) rfl (fun K hK => ?_) AllReadyH.nil)
          go_simp
          try rw [hWe]
          refine hK.out _ _ hee (fun _ => ?_)
          clear hK K
          try simp only [Act.put, List.setIfInBounds_toArray, List.set_cons_zero, List.set_cons_succ]
          clear hWe c4d z4d
          refine wpAnyH_take (i := 8) (oi := { dst := some 63, op := _, type := _, pos := _, after := _, guard := _ }) (v := .pointer (some ⟨g, j * 18, none⟩)) rfl (by kernel_rfl) (by kernel_rfl) (by kernel_rfl) (fun _ _ _ h => h) (Or.inl ⟨by rfl, fun wk hk => by go_simp⟩) hee ?_
          simp only [Act.put, List.setIfInBounds_toArray, List.set_cons_zero, List.set_cons_succ]
          refine wpAnyH_take (i := 9) (oi := { dst := some 64, op := _, type := _, pos := _, after := _, guard := _ }) (v := .pointer (some ⟨g, j * 18 + 5, none⟩)) rfl (by kernel_rfl) (by kernel_rfl) (by kernel_rfl) (fun _ _ _ h => h) (Or.inl ⟨by rfl, fun wk hk => by go_simp⟩) hee ?_
          simp only [Act.put, List.setIfInBounds_toArray, List.set_cons_zero, List.set_cons_succ]
          refine wpAnyH_ready (rs := [10]) (by kernel_rfl) (by simp) ?_
          refine (AllReadyH.cons (o := { dst := none, op := _, type := _, pos := _, after := _, guard := _ }) rfl (fun K hK => ?_) AllReadyH.nil)
          refine step_store rfl (.tmp 64) (.tmp 60) 38 rfl rfl rfl HST.out ?_
          refine hK.out _ _ hen2 (fun _ => ?_)
          clear hK K
          try simp only [Act.put, List.setIfInBounds_toArray, List.set_cons_zero, List.set_cons_succ]
          refine wpAnyH_done (by kernel_rfl) ?_ _
          clear hee hed hen2 HST
          go_wp2_with fail
          go_ret
          exact HFIN.out
      · skip
        rw [decide_eq_false hto] at hits
        have HF : Hid (TookE m l r W k x out (.returned (.bool false)) W4) := Lib.hid (TookE.no (by rw [HO1.out]; exact step_no4 hp hy (by omega)) hB4)
        clear hr4 he4 hB4 hy hyc hp
        go_wp2_with fail
        refine hits.mono ?_
        rintro e w' ⟨rfl, rfl⟩
        clear hits
        go_wp2_with fail
        go_ret
        exact HF.out
  · skip
    rw [hb] at f7
    have hbeg := begin_is m l r k W2 v x out HR2.out HV.out HX.out hk hl
    go_wp2_with fail
    refine hbeg.mono ?_
    rintro e W3 hB
    unfold BegunE at hB
    obtain ⟨hB, hmod⟩ := hB
    by_cases hok : placeO out x.thread x.op = none ∧ out.any (openB x.thread) = false
    · skip
      rw [if_pos hok] at hB
      obtain ⟨rfl, v1, h3⟩ := hB
      obtain ⟨o1, ho1⟩ : ∃ o1, out ++ [Cal.new x k] = o1 := ⟨_, rfl⟩
      obtain ⟨j, hjo⟩ : ∃ j, out.length = j := ⟨_, rfl⟩
      obtain ⟨y, hyo⟩ : ∃ y, Cal.new x k = y := ⟨_, rfl⟩
      have hj : j < o1.length := by rw [← ho1, ← hjo]; simp
      have HY : Hid (o1[j] = y) := Lib.hid (by subst ho1 hjo; rw [← hyo]; simp)
      have HSTEP : Hid (ofStep out k x = some (o1.set j (y.mark k x))) := Lib.hid (by subst ho1 hjo hyo; exact step_new hok.1 hb hok.2)
      have hp : placeO o1 x.thread x.op = some j := by rw [← ho1, ← hjo]; have h := place_snoc (out := out) (c := Cal.new x k) hok.1 x.thread x.op; rw [if_pos ⟨rfl, rfl⟩] at h; exact h
      have hto : y.to = -1 := by rw [← hyo]; rfl
      rw [ho1] at h3
      have HR3 := Lib.hid h3
      have HE3 := Lib.hid (hmod.box HE2.out HR2.out.row (by decide) hmr hlr hrx)
      have HK3 := Lib.hid (hmod.box HK2.out HR2.out.row (by decide) hmr hlr (show r < xb + 1 by omega))
      have HB3 := Lib.hid (HB2.out.trans hmod.b)
      clear ho1 hjo hyo h3 hmod hbeg hok
      have f0 : ∀ i : Far W3.heap.size W3, i.v.cell? ⟨r, 1, none⟩ = some (.map (some m)) := fun i => (i.p.cell (show r < W3.heap.size from HR3.out.size)).trans HR3.out.cells.2.1
      have f1 : ∀ i : Far W3.heap.size W3, i.v.cell? ⟨xb + 1, 0, none⟩ = some (.int .i64 x.thread) := fun i => (i.p.cell (show xb + 1 < W3.heap.size from block_lt HK3.out)).trans (by rw [block_cell HK3.out]; rfl)
      have f2 : ∀ i : Far W3.heap.size W3, i.v.cell? ⟨xb + 1, 1, none⟩ = some (.int .i64 x.op) := fun i => (i.p.cell (show xb + 1 < W3.heap.size from block_lt HK3.out)).trans (by rw [block_cell HK3.out]; rfl)
      have LK : Hid (∀ i : Far W3.heap.size W3, (Instr.lookup 44 (.map (some m)) (.agg #[.int .i64 x.thread, .int .i64 x.op]) true).run Try.prog i.v = .ok (.tuple #[.int .i64 ((placeO o1 x.thread x.op).getD 0), .bool (placeO o1 x.thread x.op).isSome]) i.v) := Lib.hid fun i => (HR3.out.kept (grownBy_below i.p)).km.look HX.out.1 HX.out.2
      go_wp2_with fail
      refine wp_region_far (B := W3.heap.size) (by kernel_rfl) (by kernel_rfl) ?_
      iterate 5 go_big_quiet_step (fail)
      refine wpQuiet_look rfl (.tmp 29) (.tmp 30) 44 true rfl _ _ _ rfl rfl LK.out ?_
      simp only [Act.put, List.setIfInBounds_toArray, List.set_cons_zero, List.set_cons_succ]
      iterate 5 go_big_quiet_step (fail)
      refine wpQuiet_nil ?_
      rintro _ ⟨i, rfl⟩
      have hr4 := HR3.out.kept (grownBy_below i.p)
      have he4 := (i.p.block xb (block_lt HE3.out)).trans HE3.out
      have hB4 : Below (min m l) W i.v := HB3.out.trans (i.p.mono (by have := HR3.out.size; omega))
      obtain ⟨W4, hW4⟩ : ∃ W4, i.v = W4 := ⟨_, rfl⟩
      rw [hW4] at hr4 he4 hB4 ⊢
      clear hW4 f0 f1 f2 LK HR3 HE3 HK3 HB3 i
      have hits := its_is m l r j W4 v1 o1 hr4 hj
      rw [HY.out, decide_eq_true hto] at hits
      rw [hp]
      clear hp
      have HR5 := Lib.hid hr4
      have HE5 := Lib.hid he4
      have HB5 := Lib.hid hB4
      clear hr4 he4 hB4
      go_wp2_with fail
      refine hits.mono ?_
      rintro e W4 ⟨rfl, rfl⟩
      have hr4 := HR5.out
      have he4 := HE5.out
      have hB4 := HB5.out
      clear hits HR5 HE5 HB5
      obtain ⟨g, cap, hve, hrg, _, hgz⟩ := hr4.head hj
      subst hve
      have hgx : g ≠ xb := by intro e; subst e; exact hr4.row.apart he4 (by decide) rfl
      obtain ⟨c3, c4, z3, z4, th⟩ := hr4.at hj
      rw [HY.out] at c3 c4
      obtain ⟨f8, f9, p10⟩ := ev_box he4
      have c0 := hr4.cells.1
      have HR4 := Lib.hid hr4
      have HE4 := Lib.hid he4
      have HB4 := Lib.hid hB4
      clear hr4 he4 hB4 p10 th
      rcases h8 : x.point with _ | _ <;> rcases h9 : x.done with _ | _
      · skip
        rw [h8] at f8
        rw [h9] at f9
        have HFIN : Hid (TookE m l r W k x out (.returned (.bool true)) W4) := Lib.hid (TookE.yes HSTEP.out (by rw [mark_ff h8 h9, ← HY.out, List.set_getElem_self]; exact HR4.out) HB4.out)
        go_wp2_with fail
        go_ret
        exact HFIN.out
      · skip
        rw [h8] at f8
        rw [h9] at f9
        have c4d : W4.drew.cell? ⟨g, j * 18 + 4, none⟩ = some (.int .i64 y.to) := c4
        have z4d : W4.drew.frozen? ⟨g, j * 18 + 4, none⟩ = false := z4
        have hed : W4.drew.heap[xb]? = some (.cells x.cells.toArray 43 (0, 0)) := HE4.out
        have HRD := Lib.hid (HR4.out.kept (drew_grown W4))
        have HBD : Hid (Below (min m l) W W4.drew) := Lib.hid HB4.out.drew
        clear c4 z4 c3 z3
        go_wp2_with fail
        refine wp_region_held_drew (S := fun wk => wk.heap[xb]? = some (.cells x.cells.toArray 43 (0, 0))) (by kernel_rfl) hed (fun _ => ?_)
        try simp only [Act.put, List.setIfInBounds_toArray, List.set_cons_zero, List.set_cons_succ]
        obtain ⟨Wd, hWd⟩ : ∃ Wd, W4.drew = Wd := ⟨_, rfl⟩
        rw [hWd] at c4d z4d hed HRD HBD ⊢
        clear hWd
        refine wpAnyH_take (i := 0) (oi := { dst := some 56, op := _, type := _, pos := _, after := _, guard := _ }) (v := .pointer (some ⟨g, j * 18, none⟩)) rfl (by kernel_rfl) (by kernel_rfl) (by kernel_rfl) (fun _ _ _ h => h) (Or.inl ⟨by rfl, fun wk hk => by go_simp⟩) hed ?_
        simp only [Act.put, List.setIfInBounds_toArray, List.set_cons_zero, List.set_cons_succ]
        refine wpAnyH_take (i := 1) (oi := { dst := some 57, op := _, type := _, pos := _, after := _, guard := _ }) (v := .pointer (some ⟨g, j * 18, none⟩)) rfl (by kernel_rfl) (by kernel_rfl) (by kernel_rfl) (fun _ _ _ h => h) (Or.inl ⟨by rfl, fun wk hk => by go_simp⟩) hed ?_
        simp only [Act.put, List.setIfInBounds_toArray, List.set_cons_zero, List.set_cons_succ]
        refine wpAnyH_take (i := 2) (oi := { dst := some 58, op := _, type := _, pos := _, after := _, guard := _ }) (v := .int .i64 (k : Int)) rfl (by kernel_rfl) (by kernel_rfl) (by kernel_rfl) (fun _ _ _ h => h) (Or.inl ⟨by rfl, fun wk hk => by go_simp⟩) hed ?_
        simp only [Act.put, List.setIfInBounds_toArray, List.set_cons_zero, List.set_cons_succ]
        refine wpAnyH_take (i := 3) (oi := { dst := some 59, op := _, type := _, pos := _, after := _, guard := _ }) (v := .pointer (some ⟨xb, 10, none⟩)) rfl (by kernel_rfl) (by kernel_rfl) (by kernel_rfl) (fun _ _ _ h => h) (Or.inl ⟨by rfl, fun wk hk => by go_simp⟩) hed ?_
        simp only [Act.put, List.setIfInBounds_toArray, List.set_cons_zero, List.set_cons_succ]
        refine wpAnyH_take (i := 4) (oi := { dst := some 60, op := _, type := _, pos := _, after := _, guard := _ }) (v := .agg x.ans.cells.toArray) rfl (by kernel_rfl) (by kernel_rfl) (by kernel_rfl) (fun _ _ _ h => h) (Or.inl ⟨by rfl, fun wk hk => by exact exec_load (.tmp 59) 38 rfl rfl (run_loadAt_mid (P := Try.prog) _ _ _ 38 _ _ (ev_box hk).2.2 Try.underlying38 rfl HSA.out)⟩) hed ?_
        simp only [Act.put, List.setIfInBounds_toArray, List.set_cons_zero, List.set_cons_succ]
        refine wpAnyH_take (i := 5) (oi := { dst := some 61, op := _, type := _, pos := _, after := _, guard := _ }) (v := .pointer (some ⟨g, j * 18, none⟩)) rfl (by kernel_rfl) (by kernel_rfl) (by kernel_rfl) (fun _ _ _ h => h) (Or.inl ⟨by rfl, fun wk hk => by go_simp⟩) hed ?_
        simp only [Act.put, List.setIfInBounds_toArray, List.set_cons_zero, List.set_cons_succ]
        refine wpAnyH_take (i := 6) (oi := { dst := some 62, op := _, type := _, pos := _, after := _, guard := _ }) (v := .pointer (some ⟨g, j * 18 + 4, none⟩)) rfl (by kernel_rfl) (by kernel_rfl) (by kernel_rfl) (fun _ _ _ h => h) (Or.inl ⟨by rfl, fun wk hk => by go_simp⟩) hed ?_
        simp only [Act.put, List.setIfInBounds_toArray, List.set_cons_zero, List.set_cons_succ]
        have hrd := HRD.out
        have hen := rd_en (k := k) hrd hrg hj HY.out
        have hg4 := grown_setCell Wd g (j * 18 + 4) (.int .i64 (k : Int))
        have hee := box_put (p := j * 18 + 4) (u := .int .i64 (k : Int)) hed hgx.symm
        obtain ⟨We, hWe⟩ : ∃ We, Wd.setCell ⟨g, j * 18 + 4, none⟩ (.int .i64 (k : Int)) = We := ⟨_, rfl⟩
        have hBe : Below (min m l) W We := by rw [← hWe]; exact HBD.out.grown hg4 (by have := hrd.size; omega) (fun q e => by injection e with e; omega)
        rw [hWe] at hen hee
        have hje : j < (o1.set j (y.en k)).length := by rw [List.length_set]; exact hj
        have the := (hen.at hje).2.2.2.2
        have han := rd_an (x := x) hen hrg hje (List.getElem_set_self ..)
        rw [List.set_set] at han
        have hgn := setCells_grown g x.ans.cells (j * 18 + 5) We
        have hBn : Below (min m l) W (We.setCells g (j * 18 + 5) x.ans.cells) := hBe.grown hgn (by have := hen.size; omega) (fun q e => by injection e with e; omega)
        have hen2 : (We.setCells g (j * 18 + 5) x.ans.cells).heap[xb]? = some (.cells x.cells.toArray 43 (0, 0)) := (hgn.block xb (block_lt hee) (by intro e; injection e with e; exact hgx e.symm)).trans hee
        have hst := run_storeAt_mid (P := Try.prog) _ _ _ 38 x.ans.cells.toArray the HSA.out (HON.out _)
        obtain ⟨Wf, hWf⟩ : ∃ Wf, We.setCells g (j * 18 + 5) x.ans.cells = Wf := ⟨_, rfl⟩
        rw [hWf] at han hBn hen2
        have HST : Hid ((Instr.storeAt 38 (.pointer (some ⟨g, j * 18 + 5, none⟩)) (.agg x.ans.cells.toArray)).run Try.prog We = .ok () Wf) := Lib.hid (by rw [← hWf]; exact hst)
        have HFIN : Hid (TookE m l r W k x out (.returned (.bool true)) Wf) := Lib.hid (TookE.yes HSTEP.out (by rw [mark_ft h8 h9]; exact han) hBn)
        clear hst hWf han hBn hgn the hje hen hg4 HRD HBD hrd hBe
        refine wpAnyH_ready (rs := [7]) (by kernel_rfl) (by simp) ?_
        refine (AllReadyH.cons (o := { dst := none, op := _, type := _, pos := _, after := _, guard := _ }) rfl (fun K hK => ?_) AllReadyH.nil)
        go_simp
        try rw [hWe]
        refine hK.out _ _ hee (fun _ => ?_)
        clear hK K
        try simp only [Act.put, List.setIfInBounds_toArray, List.set_cons_zero, List.set_cons_succ]
        clear hWe c4d z4d
        refine wpAnyH_take (i := 8) (oi := { dst := some 63, op := _, type := _, pos := _, after := _, guard := _ }) (v := .pointer (some ⟨g, j * 18, none⟩)) rfl (by kernel_rfl) (by kernel_rfl) (by kernel_rfl) (fun _ _ _ h => h) (Or.inl ⟨by rfl, fun wk hk => by go_simp⟩) hee ?_
        simp only [Act.put, List.setIfInBounds_toArray, List.set_cons_zero, List.set_cons_succ]
        refine wpAnyH_take (i := 9) (oi := { dst := some 64, op := _, type := _, pos := _, after := _, guard := _ }) (v := .pointer (some ⟨g, j * 18 + 5, none⟩)) rfl (by kernel_rfl) (by kernel_rfl) (by kernel_rfl) (fun _ _ _ h => h) (Or.inl ⟨by rfl, fun wk hk => by go_simp⟩) hee ?_
        simp only [Act.put, List.setIfInBounds_toArray, List.set_cons_zero, List.set_cons_succ]
        refine wpAnyH_ready (rs := [10]) (by kernel_rfl) (by simp) ?_
        refine (AllReadyH.cons (o := { dst := none, op := _, type := _, pos := _, after := _, guard := _ }) rfl (fun K hK => ?_) AllReadyH.nil)
        refine step_store rfl (.tmp 64) (.tmp 60) 38 rfl rfl rfl HST.out ?_
        refine hK.out _ _ hen2 (fun _ => ?_)
        clear hK K
        try simp only [Act.put, List.setIfInBounds_toArray, List.set_cons_zero, List.set_cons_succ]
        refine wpAnyH_done (by kernel_rfl) ?_ _
        clear hee hed hen2 HST
        go_wp2_with fail
        go_ret
        exact HFIN.out
      · skip
        rw [h8] at f8
        obtain ⟨W5, hW5⟩ : ∃ W5, W4.setCell ⟨g, j * 18 + 3, none⟩ (.int .i64 (k : Int)) = W5 := ⟨_, rfl⟩
        have hr5 := rd_pt (k := k) HR4.out hrg hj HY.out
        have he5 := box_put (p := j * 18 + 3) (u := .int .i64 (k : Int)) HE4.out hgx.symm
        have hB5 : Below (min m l) W (W4.setCell ⟨g, j * 18 + 3, none⟩ (.int .i64 (k : Int))) := HB4.out.grown (grown_setCell W4 g (j * 18 + 3) _) (by have := HR4.out.size; omega) (fun q e => by injection e with e; omega)
        rw [hW5] at hr5 he5 hB5
        obtain ⟨_, f9, _⟩ := ev_box he5
        rw [h9] at f9
        have HW5 := Lib.hid hW5
        clear hW5
        have HFIN : Hid (TookE m l r W k x out (.returned (.bool true)) W5) := Lib.hid (TookE.yes HSTEP.out (by rw [mark_tf h8 h9]; exact hr5) hB5)
        clear hr5 he5 hB5
        go_upto_region 10 with fail
        rw [HW5.out]
        go_wp2_with fail
        go_ret
        exact HFIN.out
      · skip
        rw [h8] at f8
        obtain ⟨W5, hW5⟩ : ∃ W5, W4.setCell ⟨g, j * 18 + 3, none⟩ (.int .i64 (k : Int)) = W5 := ⟨_, rfl⟩
        have hr5 := rd_pt (k := k) HR4.out hrg hj HY.out
        have he5 := box_put (p := j * 18 + 3) (u := .int .i64 (k : Int)) HE4.out hgx.symm
        have hB5 : Below (min m l) W (W4.setCell ⟨g, j * 18 + 3, none⟩ (.int .i64 (k : Int))) := HB4.out.grown (grown_setCell W4 g (j * 18 + 3) _) (by have := HR4.out.size; omega) (fun q e => by injection e with e; omega)
        rw [hW5] at hr5 he5 hB5
        obtain ⟨_, f9, _⟩ := ev_box he5
        rw [h9] at f9
        have HW5 := Lib.hid hW5
        clear hW5
        go_upto_region 10 with fail
        rw [HW5.out]
        have hj3 : j < (o1.set j (y.pt k)).length := by rw [List.length_set]; exact hj
        have d4 := (hr5.at hj3).2.1
        have y4 := (hr5.at hj3).2.2.2.1
        rw [List.getElem_set_self] at d4
        have c4d : W5.drew.cell? ⟨g, j * 18 + 4, none⟩ = some (.int .i64 y.to) := d4
        have z4d : W5.drew.frozen? ⟨g, j * 18 + 4, none⟩ = false := y4
        have hed : W5.drew.heap[xb]? = some (.cells x.cells.toArray 43 (0, 0)) := he5
        have HRD := Lib.hid (hr5.kept (drew_grown W5))
        have HBD : Hid (Below (min m l) W W5.drew) := Lib.hid hB5.drew
        clear c4 z4 c3 z3
        go_wp2_with fail
        refine wp_region_held_drew (S := fun wk => wk.heap[xb]? = some (.cells x.cells.toArray 43 (0, 0))) (by kernel_rfl) hed (fun _ => ?_)
        try simp only [Act.put, List.setIfInBounds_toArray, List.set_cons_zero, List.set_cons_succ]
        obtain ⟨Wd, hWd⟩ : ∃ Wd, W5.drew = Wd := ⟨_, rfl⟩
        rw [hWd] at c4d z4d hed HRD HBD ⊢
        clear hWd
        refine wpAnyH_take (i := 0) (oi := { dst := some 56, op := _, type := _, pos := _, after := _, guard := _ }) (v := .pointer (some ⟨g, j * 18, none⟩)) rfl (by kernel_rfl) (by kernel_rfl) (by kernel_rfl) (fun _ _ _ h => h) (Or.inl ⟨by rfl, fun wk hk => by go_simp⟩) hed ?_
        simp only [Act.put, List.setIfInBounds_toArray, List.set_cons_zero, List.set_cons_succ]
        refine wpAnyH_take (i := 1) (oi := { dst := some 57, op := _, type := _, pos := _, after := _, guard := _ }) (v := .pointer (some ⟨g, j * 18, none⟩)) rfl (by kernel_rfl) (by kernel_rfl) (by kernel_rfl) (fun _ _ _ h => h) (Or.inl ⟨by rfl, fun wk hk => by go_simp⟩) hed ?_
        simp only [Act.put, List.setIfInBounds_toArray, List.set_cons_zero, List.set_cons_succ]
        refine wpAnyH_take (i := 2) (oi := { dst := some 58, op := _, type := _, pos := _, after := _, guard := _ }) (v := .int .i64 (k : Int)) rfl (by kernel_rfl) (by kernel_rfl) (by kernel_rfl) (fun _ _ _ h => h) (Or.inl ⟨by rfl, fun wk hk => by go_simp⟩) hed ?_
        simp only [Act.put, List.setIfInBounds_toArray, List.set_cons_zero, List.set_cons_succ]
        refine wpAnyH_take (i := 3) (oi := { dst := some 59, op := _, type := _, pos := _, after := _, guard := _ }) (v := .pointer (some ⟨xb, 10, none⟩)) rfl (by kernel_rfl) (by kernel_rfl) (by kernel_rfl) (fun _ _ _ h => h) (Or.inl ⟨by rfl, fun wk hk => by go_simp⟩) hed ?_
        simp only [Act.put, List.setIfInBounds_toArray, List.set_cons_zero, List.set_cons_succ]
        refine wpAnyH_take (i := 4) (oi := { dst := some 60, op := _, type := _, pos := _, after := _, guard := _ }) (v := .agg x.ans.cells.toArray) rfl (by kernel_rfl) (by kernel_rfl) (by kernel_rfl) (fun _ _ _ h => h) (Or.inl ⟨by rfl, fun wk hk => by exact exec_load (.tmp 59) 38 rfl rfl (run_loadAt_mid (P := Try.prog) _ _ _ 38 _ _ (ev_box hk).2.2 Try.underlying38 rfl HSA.out)⟩) hed ?_
        simp only [Act.put, List.setIfInBounds_toArray, List.set_cons_zero, List.set_cons_succ]
        refine wpAnyH_take (i := 5) (oi := { dst := some 61, op := _, type := _, pos := _, after := _, guard := _ }) (v := .pointer (some ⟨g, j * 18, none⟩)) rfl (by kernel_rfl) (by kernel_rfl) (by kernel_rfl) (fun _ _ _ h => h) (Or.inl ⟨by rfl, fun wk hk => by go_simp⟩) hed ?_
        simp only [Act.put, List.setIfInBounds_toArray, List.set_cons_zero, List.set_cons_succ]
        refine wpAnyH_take (i := 6) (oi := { dst := some 62, op := _, type := _, pos := _, after := _, guard := _ }) (v := .pointer (some ⟨g, j * 18 + 4, none⟩)) rfl (by kernel_rfl) (by kernel_rfl) (by kernel_rfl) (fun _ _ _ h => h) (Or.inl ⟨by rfl, fun wk hk => by go_simp⟩) hed ?_
        simp only [Act.put, List.setIfInBounds_toArray, List.set_cons_zero, List.set_cons_succ]
        have hrd := HRD.out
        have hen := rd_en (k := k) hrd hrg hj3 (List.getElem_set_self ..)
        have hg4 := grown_setCell Wd g (j * 18 + 4) (.int .i64 (k : Int))
        have hee := box_put (p := j * 18 + 4) (u := .int .i64 (k : Int)) hed hgx.symm
        obtain ⟨We, hWe⟩ : ∃ We, Wd.setCell ⟨g, j * 18 + 4, none⟩ (.int .i64 (k : Int)) = We := ⟨_, rfl⟩
        have hBe : Below (min m l) W We := by rw [← hWe]; exact HBD.out.grown hg4 (by have := hrd.size; omega) (fun q e => by injection e with e; omega)
        rw [hWe] at hen hee
        rw [List.set_set] at hen
        have hje : j < (o1.set j ((y.pt k).en k)).length := by rw [List.length_set]; exact hj
        have the := (hen.at hje).2.2.2.2
        have han := rd_an (x := x) hen hrg hje (List.getElem_set_self ..)
        rw [List.set_set] at han
        have hgn := setCells_grown g x.ans.cells (j * 18 + 5) We
        have hBn : Below (min m l) W (We.setCells g (j * 18 + 5) x.ans.cells) := hBe.grown hgn (by have := hen.size; omega) (fun q e => by injection e with e; omega)
        have hen2 : (We.setCells g (j * 18 + 5) x.ans.cells).heap[xb]? = some (.cells x.cells.toArray 43 (0, 0)) := (hgn.block xb (block_lt hee) (by intro e; injection e with e; exact hgx e.symm)).trans hee
        have hst := run_storeAt_mid (P := Try.prog) _ _ _ 38 x.ans.cells.toArray the HSA.out (HON.out _)
        obtain ⟨Wf, hWf⟩ : ∃ Wf, We.setCells g (j * 18 + 5) x.ans.cells = Wf := ⟨_, rfl⟩
        rw [hWf] at han hBn hen2
        have HST : Hid ((Instr.storeAt 38 (.pointer (some ⟨g, j * 18 + 5, none⟩)) (.agg x.ans.cells.toArray)).run Try.prog We = .ok () Wf) := Lib.hid (by rw [← hWf]; exact hst)
        have HFIN : Hid (TookE m l r W k x out (.returned (.bool true)) Wf) := Lib.hid (TookE.yes HSTEP.out (by rw [mark_tt h8 h9]; exact han) hBn)
        clear hst hWf han hBn hgn the hje hen hg4 HRD HBD hrd hBe
        refine wpAnyH_ready (rs := [7]) (by kernel_rfl) (by simp) ?_
        refine (AllReadyH.cons (o := { dst := none, op := _, type := _, pos := _, after := _, guard := _ }) rfl (fun K hK => ?_) AllReadyH.nil)
        go_simp
        try rw [hWe]
        refine hK.out _ _ hee (fun _ => ?_)
        clear hK K
        try simp only [Act.put, List.setIfInBounds_toArray, List.set_cons_zero, List.set_cons_succ]
        clear hWe c4d z4d
        refine wpAnyH_take (i := 8) (oi := { dst := some 63, op := _, type := _, pos := _, after := _, guard := _ }) (v := .pointer (some ⟨g, j * 18, none⟩)) rfl (by kernel_rfl) (by kernel_rfl) (by kernel_rfl) (fun _ _ _ h => h) (Or.inl ⟨by rfl, fun wk hk => by go_simp⟩) hee ?_
        simp only [Act.put, List.setIfInBounds_toArray, List.set_cons_zero, List.set_cons_succ]
        refine wpAnyH_take (i := 9) (oi := { dst := some 64, op := _, type := _, pos := _, after := _, guard := _ }) (v := .pointer (some ⟨g, j * 18 + 5, none⟩)) rfl (by kernel_rfl) (by kernel_rfl) (by kernel_rfl) (fun _ _ _ h => h) (Or.inl ⟨by rfl, fun wk hk => by go_simp⟩) hee ?_
        simp only [Act.put, List.setIfInBounds_toArray, List.set_cons_zero, List.set_cons_succ]
        refine wpAnyH_ready (rs := [10]) (by kernel_rfl) (by simp) ?_
        refine (AllReadyH.cons (o := { dst := none, op := _, type := _, pos := _, after := _, guard := _ }) rfl (fun K hK => ?_) AllReadyH.nil)
        refine step_store rfl (.tmp 64) (.tmp 60) 38 rfl rfl rfl HST.out ?_
        refine hK.out _ _ hen2 (fun _ => ?_)
        clear hK K
        try simp only [Act.put, List.setIfInBounds_toArray, List.set_cons_zero, List.set_cons_succ]
        refine wpAnyH_done (by kernel_rfl) ?_ _
        clear hee hed hen2 HST
        go_wp2_with fail
        go_ret
        exact HFIN.out
    · skip
      rw [if_neg hok] at hB
      subst hB
      have HF : Hid (TookE m l r W k x out (.returned (.bool false)) W3) := Lib.hid (TookE.no (by rcases hp : placeO out x.thread x.op with _ | q; exact step_no3 hp (by rcases ho : out.any (openB x.thread) with _ | _; exact absurd ⟨hp, ho⟩ hok; rfl); exact step_no1 hp hb) (HB2.out.trans hmod.b))
      clear hbeg hmod hok
      go_wp2_with fail
      go_ret
      exact HF.out
end Go.Proofs.Ytglnofdncglmnaa
