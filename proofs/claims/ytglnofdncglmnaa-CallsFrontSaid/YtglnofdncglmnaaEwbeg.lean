/- The landed calls.go: a call begins. (The walk is written by wip/tools/genbegin.py.) -/
import Derived.Test.YtglnofdncglmnaaEwread
import Derived.Test.YtglnofdncglmnaaStill
import Derived.Test.YtglnofdncglmnaaEof
import Derived.ArgAppend
import Derived.Deep.RegionHeld3
namespace Go.Proofs.Ytglnofdncglmnaa
open Go.RowKit
set_option linter.unusedVariables false
set_option linter.unusedSimpArgs false
set_option maxRecDepth 100000

section
variable {P : Program} {ops : Array Oper} {o : Oper} {a : Act} {K : Act → World → Prop} {Q : Exit → Act → World → Prop} {F : Prop}
theorem step_entry (hg : o.guard = none) (m x : Operand) (t : TypeId) (ho : o.op = Op.mapEntry t m x) {vm vx v : Value} (hm : a.eval m = vm) (hx : a.eval x = vx) {w w' : World} (hrun : (Instr.mapEntry t vm vx).run P w = .ok v w') (h : K (a.put o.dst v) w') :
    if Region.wanted o (yielded ops a.tmps) = true then Oper.wp P o a w K Q else F := by
  have hw : Region.wanted o (yielded ops a.tmps) = true := by simp [Region.wanted, hg]
  rw [if_pos hw]
  unfold Oper.wp
  simp [execOp, ho, hm, hx, hrun, Result.andThen]
  exact h
theorem step_estore (hg : o.guard = none) (m s x : Operand) (t : TypeId) (ho : o.op = Op.entryStore t m s x) {vm vs vx : Value} (hm : a.eval m = vm) (hs : a.eval s = vs) (hx : a.eval x = vx) {w w' : World} (hrun : (Instr.entryStore t vm vs vx).run P w = .ok () w') (h : K (a.put o.dst undef) w') :
    if Region.wanted o (yielded ops a.tmps) = true then Oper.wp P o a w K Q else F := by
  have hw : Region.wanted o (yielded ops a.tmps) = true := by simp [Region.wanted, hg]
  rw [if_pos hw]
  unfold Oper.wp
  simp [execOp, ho, hm, hs, hx, hrun, Result.andThen]
  exact h
theorem step_append_oneN {m E base : Nat} {v : Value} {rs : List (List Value)} (hg : o.guard = none) (s x : Operand) (t : TypeId)
    (ho : o.op = Op.call { callee := Callee.builtin Builtin.append, args := #[s, x], argTypes := #[t, t] })
    (i : TypeInfo) (z : Value) (bytes : Nat) (ht : P.underlying t = some (.slice E)) (hi : P.info? E = some i ∧ i.zero = some z ∧ i.size = m ∧ i.bytes = bytes) (hzs : z.cells.size = m) (hm : 0 < m) (hs : a.eval s = v) (w : World) (us : List Value) (hul : us.length = m) (h1 : ∀ u ∈ us, u.oneCell' = true) (hown : OwnN m E base w v rs)
    (hx : a.eval x = .slice (some ⟨w.heap.size, 0, none⟩) 1 1)
    (h63 : rs.length + 1 ≤ maxLen) (hbytes : (rs.length + 1) * bytes ≤ 140737488355328) (hbase : base ≤ w.heap.size)
    (h : ∀ v' w', OwnN m E base w' v' (rs ++ [us]) → w.grownBy w' v.ownBlock → K (a.put o.dst v') w') :
    if Region.wanted o (yielded ops a.tmps) = true then Oper.wp P o a (w.alloc (.cells us.toArray E)) K Q else F := by
  have hw : Region.wanted o (yielded ops a.tmps) = true := by simp [Region.wanted, hg]
  rw [if_pos hw]
  obtain ⟨hi, hz, hsize, hby⟩ := hi
  obtain ⟨v', w', hrun, h2, h3, _, h5⟩ := run_append_own_at (P := P) (w.alloc (.cells us.toArray E)) base t o.type E i z m bytes ht hi hz hsize hby hzs hm v rs.length rs.flatten (hown.2.kept (World.grownBy_alloc _ _ none) (by cases v.ownBlock <;> simp)) ⟨w.heap.size, 0, none⟩ 1 1 us (by omega)
    (fun j y hy => by
      rw [Addr.add_lit, World.cell?_alloc_new w us.toArray E (0 + j), Nat.zero_add]
      simpa using hy) h1 h63 hbytes (by rw [World.size_alloc]; omega)
  unfold Oper.wp
  simp [execOp, ho, resolve, invoke, builtin, hs, hx, hrun, Result.andThen]
  refine h v' w' ⟨fun r hr => ?_, by simpa using h2⟩ (grownBy_trans (World.grownBy_alloc _ _ _) h3)
  rcases List.mem_append.1 hr with hr | hr
  · exact hown.1 r hr
  · simp at hr; subst hr; exact hul
/-- A look-up whose answer is known in each such world. -/
theorem wpQuiet_look {B : Nat} {w : World} {rest : List Oper} {Q : Act → Prop} (hw : Region.wanted o (yielded ops a.tmps) = true) (m x : Operand) (t : TypeId) (ok : Bool) (ho : o.op = Op.lookup t m x ok) (vm vx v : Value) (hm : a.eval m = vm) (hx : a.eval x = vx) (hrun : ∀ i : Far B w, (Instr.lookup t vm vx ok).run P i.v = .ok v i.v)
    (h : wpQuiet P ops (fun w' => ∃ i : Far B w, w' = i.v) Q rest (a.put o.dst v)) : wpQuiet P ops (fun w' => ∃ i : Far B w, w' = i.v) Q (o :: rest) a :=
  wpQuiet_run hw v (fun w' ⟨i, hi⟩ => by subst hi; simp [execOp, ho, hm, hx, hrun, Result.andThen]) h
end
theorem cell_grown {w w' : World} {b : Nat} (hg : w.grownBy w' (some b)) {p : Addr} (hp : p.block < w.heap.size) (hne : p.block ≠ b) : w'.cell? p = w.cell? p :=
  World.cell?_of_block (hg.block p.block hp (by intro e; injection e with e; exact hne e))
theorem drew_grown (w : World) : w.grownBy w.drew none := ⟨rfl, rfl, rfl, Nat.le_refl _, fun _ _ _ => rfl⟩

/-! Whether a thread has a call that has not ended. -/
theorem open_none {out : List Cal} {t : Int} (h : LastP out t none) : out.any (openB t) = false := by
  rw [List.any_eq_false]
  intro c hc
  unfold openB
  have := h c hc
  simp [this]
theorem open_some {k : Nat} {out : List Cal} {t : Int} {n : Nat} {c : Cal} (hv : Inv k out) (h : LastP out t (some n)) (hc : out[n]? = some c) : out.any (openB t) = decide (c.to = -1) := by
  obtain ⟨x, hx, hxt, hl⟩ := h
  rw [hc] at hx
  injection hx with hx
  subst hx
  have he := hv.each c (mem_of_get hc)
  by_cases hto : c.to = -1
  · rw [decide_eq_true hto, List.any_eq_true]
    refine ⟨c, mem_of_get hc, ?_⟩
    unfold openB
    simp [hxt, hto]
  · rw [decide_eq_false hto, List.any_eq_false]
    intro y hy
    obtain ⟨j, hj⟩ := List.mem_iff_getElem?.1 hy
    unfold openB
    simp only [Bool.and_eq_true, beq_iff_eq, decide_eq_true_eq, not_and]
    intro hyt
    rcases Nat.lt_trichotomy j n with h1 | h1 | h1
    · have := (hv.apart j n y c h1 hj hc (hyt.trans hxt.symm)).1
      omega
    · subst h1
      rw [hc] at hj
      injection hj with hj
      subst hj
      omega
    · exact absurd hyt (hl j y h1 hj)

theorem last_unique {out : List Cal} {t : Int} {r r' : Option Nat} (h : LastP out t r) (h' : LastP out t r') : r = r' := by
  rcases r with _ | n <;> rcases r' with _ | n'
  · rfl
  · obtain ⟨c, hc, ht, _⟩ := h'
    exact absurd ht (h c (mem_of_get hc))
  · obtain ⟨c, hc, ht, _⟩ := h
    exact absurd ht (h' c (mem_of_get hc))
  · obtain ⟨c, hc, ht, hl⟩ := h
    obtain ⟨c', hc', ht', hl'⟩ := h'
    rcases Nat.lt_trichotomy n n' with h1 | h1 | h1
    · exact absurd ht' (hl n' c' h1 hc')
    · rw [h1]
    · exact absurd ht (hl' n c h1 hc)
theorem LastIn.always {w : World} {b : Nat} {out : List Cal} (h : LastIn w b out) {t : Int} (ht : I64 t) : ∃ r, LastP out t r ∧ ∀ w' row, w.grownBy w' row → some b ≠ row → (Instr.lookup 45 (.map (some b)) (.int .i64 t) true).run Try.prog w' = .ok (.tuple #[.int .i64 (r.getD 0), .bool r.isSome]) w' := by
  obtain ⟨r, hr, _⟩ := h.look ht
  refine ⟨r, hr, fun w' row hg hne => ?_⟩
  obtain ⟨r', hr', h'⟩ := (h.kept hg hne).look ht
  rw [last_unique hr hr']
  exact h'

/-- What a call of the reading's may turn: its own blocks, and new ones. -/
structure Mod (m l r : Nat) (v : Value) (W W' : World) : Prop where
  b : Below (min m l) W W'
  k : ∀ b, b < W.heap.size → b ≠ m → b ≠ l → b ≠ r → v.ownBlock ≠ some b → W'.heap[b]? = W.heap[b]?
section
variable {m l r : Nat} {v : Value} {W W1 W2 : World}
theorem Mod.refl : Mod m l r v W W := ⟨Below.refl _ _, fun _ _ _ _ _ _ => rfl⟩
theorem Mod.grown {row : Option Nat} (h : Mod m l r v W W1) (g : W1.grownBy W2 row) (hB : min m l ≤ W1.heap.size) (hr : ∀ q, row = some q → min m l ≤ q ∧ (q = m ∨ q = l ∨ q = r ∨ v.ownBlock = some q)) : Mod m l r v W W2 :=
  ⟨h.b.grown g hB (fun q e => (hr q e).1), fun b hb h1 h2 h3 h4 => (g.block b (Nat.lt_of_lt_of_le hb h.b.size) (fun e => by
    rcases (hr b e.symm).2 with e | e | e | e
    · exact h1 e
    · exact h2 e
    · exact h3 e
    · exact h4 e)).trans (h.k b hb h1 h2 h3 h4)⟩
theorem Mod.below (h : Mod m l r v W W1) (hB : min m l ≤ W1.heap.size) (p : Below W1.heap.size W1 W2) : Mod m l r v W W2 := h.grown (grownBy_below p) hB (fun q e => by cases e)
theorem Mod.drew (h : Mod m l r v W W1) (hB : min m l ≤ W1.heap.size) : Mod m l r v W W1.drew := h.grown (drew_grown W1) hB (fun q e => by cases e)
end
/-- What 'begin' answers: whether the call may begin; if so it is there. -/
def BegunE (m l r : Nat) (v : Value) (W : World) (x : Ev) (k : Nat) (out : List Cal) (e : Ending) (w' : World) : Prop :=
  (if placeO out x.thread x.op = none ∧ out.any (openB x.thread) = false then e = .returned (.bool true) ∧ ∃ v', RdIn m l r w' v' (out ++ [Cal.new x k]) else e = .returned (.bool false)) ∧ Mod m l r v W w'

set_option maxHeartbeats 8000000 in
theorem begin_is (m l r k : Nat) (W : World) (v : Value) (x : Ev) (out : List Cal) (h : RdIn m l r W v out) (hv : Inv k out) (hx : x.wf) (hk : k < 9223372036854775808) (hl : (out.length + 1) * 144 ≤ 140737488355328) :
    Calls Try.prog 24 #[.pointer (some ⟨r, 0, none⟩), .int .i64 (k : Int), .agg #[.int .i64 x.thread, .int .i64 x.op]] W (BegunE m l r v W x k out) := by
  obtain ⟨ic, hic, hc0, hc1, hc2⟩ := info_parts (show (Try.prog.info? 40).map (fun i => (i.zero, i.size, i.bytes)) = some (some (.agg #[.int .i64 0, .int .i64 0, .int .i64 0, .int .i64 0, .int .i64 0, .int .i64 0, .int .i64 0, .int .i64 0, .int .i64 0, .int .i64 0, .int .i64 0, .int .i64 0, .int .u64 0, .int .u64 0, .int .u64 0, .int .u64 0, .int .u64 0, .int .u64 0]), 18, 144) by kernel_rfl)
  have IC := Lib.hid (⟨hic, hc0, hc1, hc2⟩ : _ ∧ _ ∧ _ ∧ _)
  clear hic hc0 hc1 hc2
  have HNEW : Hid (∀ u ∈ (Cal.new x k).cells, u.oneCell' = true) := Lib.hid fun u hu => by
    simp [Cal.new, Cal.cells, An.zero, An.cells] at hu
    rcases hu with rfl | rfl | rfl | rfl | rfl | rfl | rfl | rfl | rfl | rfl | rfl | rfl | rfl | rfl | rfl | rfl | rfl | rfl <;> rfl
  have hlm : out.length < maxLen := by unfold maxLen; omega
  obtain ⟨W1, hW1⟩ : ∃ W1, W.alloc (.cells #[.int .i64 x.thread, .int .i64 x.op] 60) = W1 := ⟨_, rfl⟩
  obtain ⟨xb, hxb⟩ : ∃ xb, W.heap.size = xb := ⟨_, rfl⟩
  have hbk : W1.heap[xb]? = some (.cells #[.int .i64 x.thread, .int .i64 x.op] 60 (0, 0)) := by rw [← hW1, ← hxb]; exact heap_alloc_last W _
  have h1 : RdIn m l r W1 v out := hW1 ▸ h.alloc _
  have hBW : Mod m l r v W W1 := by rw [← hW1]; exact Mod.refl.grown (World.grownBy_alloc W _ none) (by have := h.size; have := h.hm; omega) (fun k e => by cases e)
  have hz1 : W1.heap.size = xb + 1 := by rw [← hW1, ← hxb]; simp
  have hrx : r < xb := by rw [← hxb]; exact h.size
  have HV := Lib.hid hv
  have HX := Lib.hid hx
  have HB1 := Lib.hid hBW
  have HBK := Lib.hid hbk
  have HR := Lib.hid h1
  have f0 : ∀ i : Far W1.heap.size W1, i.v.cell? ⟨r, 1, none⟩ = some (.map (some m)) := fun i => (i.p.cell (show r < W1.heap.size by omega)).trans h1.cells.2.1
  have f1 : ∀ i : Far W1.heap.size W1, i.v.cell? ⟨xb, 0, none⟩ = some (.int .i64 x.thread) := fun i => (i.p.cell (show xb < W1.heap.size by omega)).trans (by rw [block_cell hbk]; rfl)
  have f2 : ∀ i : Far W1.heap.size W1, i.v.cell? ⟨xb, 1, none⟩ = some (.int .i64 x.op) := fun i => (i.p.cell (show xb < W1.heap.size by omega)).trans (by rw [block_cell hbk]; rfl)
  have LK : Hid (∀ i : Far W1.heap.size W1, (Instr.lookup 44 (.map (some m)) (.agg #[.int .i64 x.thread, .int .i64 x.op]) true).run Try.prog i.v = .ok (.tuple #[.int .i64 ((placeO out x.thread x.op).getD 0), .bool (placeO out x.thread x.op).isSome]) i.v) := Lib.hid fun i => (h1.kept (grownBy_below i.p)).km.look hx.1 hx.2
  have HW1 := Lib.hid hW1
  have HXB := Lib.hid hxb
  clear h hv hx hW1 hbk h1 hBW hxb
  go_enter Try.func24, Try.ntmps24
  go_wp2_with fail
  rw [HW1.out, HXB.out]
  refine wp_region_far (B := W1.heap.size) (by kernel_rfl) (by kernel_rfl) ?_
  iterate 5 go_big_quiet_step (fail)
  refine wpQuiet_look rfl (.tmp 15) (.tmp 16) 44 true rfl _ _ _ rfl rfl LK.out ?_
  simp only [Act.put, List.setIfInBounds_toArray, List.set_cons_zero, List.set_cons_succ]
  iterate 5 go_big_quiet_step (fail)
  refine wpQuiet_nil ?_
  rintro _ ⟨i, rfl⟩
  have hr2 := HR.out.kept (grownBy_below i.p)
  have hb2 : i.v.heap[xb]? = some (.cells #[.int .i64 x.thread, .int .i64 x.op] 60 (0, 0)) := (i.p.block xb (by omega)).trans HBK.out
  have hB2 : Mod m l r v W i.v := HB1.out.below (by have := HR.out.hm; have := HR.out.size; omega) i.p
  obtain ⟨W2, hW2⟩ : ∃ W2, i.v = W2 := ⟨_, rfl⟩
  rw [hW2] at hr2 hb2 hB2 ⊢
  clear hW2 f0 f1 f2 LK HB1 HBK HR HW1 i
  rcases hp : placeO out x.thread x.op with _ | q
  · skip
    have f0 : ∀ i : Far W2.heap.size W2, i.v.cell? ⟨r, 2, none⟩ = some (.map (some l)) := fun i => (i.p.cell (show r < W2.heap.size from hr2.size)).trans hr2.cells.2.2
    have f1 : ∀ i : Far W2.heap.size W2, i.v.cell? ⟨xb, 0, none⟩ = some (.int .i64 x.thread) := fun i => (i.p.cell (show xb < W2.heap.size from block_lt hb2)).trans (by rw [block_cell hb2]; rfl)
    obtain ⟨rr, hrr, hlook⟩ := hr2.lm.always HX.out.1
    have HLK : Hid (∀ i : Far W2.heap.size W2, (Instr.lookup 45 (.map (some l)) (.int .i64 x.thread) true).run Try.prog i.v = .ok (.tuple #[.int .i64 (rr.getD 0), .bool rr.isSome]) i.v) := Lib.hid fun i => hlook i.v none (grownBy_below i.p) (by simp)
    clear hlook
    have HP := Lib.hid hp
    have HR2 := Lib.hid hr2
    have HK2 := Lib.hid hb2
    have HB2 := Lib.hid hB2
    clear hp hr2 hb2 hB2
    rcases rr with _ | n
    · skip
      go_wp2_with fail
      refine wp_region_far (B := W2.heap.size) (by kernel_rfl) (by kernel_rfl) ?_
      iterate 6 go_big_quiet_step (fail)
      refine wpQuiet_look rfl (.tmp 25) (.tmp 27) 45 true rfl _ _ _ rfl rfl HLK.out ?_
      simp only [Act.put, List.setIfInBounds_toArray, List.set_cons_zero, List.set_cons_succ]
      iterate 5 go_big_quiet_step (fail)
      refine wpQuiet_nil ?_
      rintro _ ⟨i, rfl⟩
      have hr3 := HR2.out.kept (grownBy_below i.p)
      have hb3 : i.v.heap[xb]? = some (.cells #[.int .i64 x.thread, .int .i64 x.op] 60 (0, 0)) := (i.p.block xb (block_lt HK2.out)).trans HK2.out
      have hB3 : Mod m l r v W i.v := HB2.out.below (by have := hr3.hm; have := HR2.out.size; omega) i.p
      obtain ⟨W3, hW3⟩ : ∃ W3, i.v = W3 := ⟨_, rfl⟩
      rw [hW3] at hr3 hb3 hB3 ⊢
      clear hW3 f0 f1 HLK HB2 HK2 HR2 i
      have HO : Hid (out.any (openB x.thread) = false) := Lib.hid (open_none hrr)
      clear hrr
      obtain ⟨A, cp, hve, _, _⟩ := hr3.row.slice
      rw [List.length_map] at hve
      subst hve
      have hr4 := hr3.kept (drew_grown W3)
      have hB4 := hB3.drew (by have := hr3.hm; have := hr3.size; omega)
      have c5 : W3.drew.cell? ⟨r, 0, none⟩ = some (.slice A out.length cp) ∧ W3.drew.cell? ⟨r, 1, none⟩ = some (.map (some m)) ∧ W3.drew.cell? ⟨r, 2, none⟩ = some (.map (some l)) ∧ W3.drew.cell? ⟨xb, 0, none⟩ = some (.int .i64 x.thread) ∧ W3.drew.cell? ⟨xb, 1, none⟩ = some (.int .i64 x.op) := ⟨hr4.cells.1, hr4.cells.2.1, hr4.cells.2.2, by rw [block_cell (w := W3.drew) hb3]; rfl, by rw [block_cell (w := W3.drew) hb3]; rfl⟩
      have HR4 := Lib.hid hr4
      have HB4 := Lib.hid hB4
      have HK4 : Hid (W3.drew.heap[xb]? = some (.cells #[.int .i64 x.thread, .int .i64 x.op] 60 (0, 0))) := Lib.hid hb3
      clear hr3 hr4 hB3 hB4 hb3
      go_wp2_with fail
      refine wp_region_held_drew (S := fun wk => wk.cell? ⟨r, 0, none⟩ = some (.slice A out.length cp) ∧ wk.cell? ⟨r, 1, none⟩ = some (.map (some m)) ∧ wk.cell? ⟨r, 2, none⟩ = some (.map (some l)) ∧ wk.cell? ⟨xb, 0, none⟩ = some (.int .i64 x.thread) ∧ wk.cell? ⟨xb, 1, none⟩ = some (.int .i64 x.op)) (by kernel_rfl) c5 (fun c5 => ?_)
      try simp only [Act.put, List.setIfInBounds_toArray, List.set_cons_zero, List.set_cons_succ]
      obtain ⟨W4, hW4⟩ : ∃ W4, W3.drew = W4 := ⟨_, rfl⟩
      rw [hW4] at HR4 HB4 HK4 c5 ⊢
      refine wpAnyH_take (i := 0) (oi := { dst := some 37, op := _, type := _, pos := _, after := _, guard := _ }) (v := .pointer (some ⟨r, 0, none⟩)) rfl (by kernel_rfl) (by kernel_rfl) (by kernel_rfl) (fun _ _ _ h => h) (Or.inl ⟨by rfl, fun wk hk => by obtain ⟨a0, a1, a2, a3, a4⟩ := hk; go_simp⟩) c5 ?_
      simp only [Act.put, List.setIfInBounds_toArray, List.set_cons_zero, List.set_cons_succ]
      refine wpAnyH_take (i := 1) (oi := { dst := some 38, op := _, type := _, pos := _, after := _, guard := _ }) (v := .pointer (some ⟨r, 0, none⟩)) rfl (by kernel_rfl) (by kernel_rfl) (by kernel_rfl) (fun _ _ _ h => h) (Or.inl ⟨by rfl, fun wk hk => by obtain ⟨a0, a1, a2, a3, a4⟩ := hk; go_simp⟩) c5 ?_
      simp only [Act.put, List.setIfInBounds_toArray, List.set_cons_zero, List.set_cons_succ]
      refine wpAnyH_take (i := 2) (oi := { dst := some 39, op := _, type := _, pos := _, after := _, guard := _ }) (v := .pointer (some ⟨r, 1, none⟩)) rfl (by kernel_rfl) (by kernel_rfl) (by kernel_rfl) (fun _ _ _ h => h) (Or.inl ⟨by rfl, fun wk hk => by obtain ⟨a0, a1, a2, a3, a4⟩ := hk; go_simp⟩) c5 ?_
      simp only [Act.put, List.setIfInBounds_toArray, List.set_cons_zero, List.set_cons_succ]
      refine wpAnyH_take (i := 3) (oi := { dst := some 40, op := _, type := _, pos := _, after := _, guard := _ }) (v := .map (some m)) rfl (by kernel_rfl) (by kernel_rfl) (by kernel_rfl) (fun _ _ _ h => h) (Or.inl ⟨by rfl, fun wk hk => by obtain ⟨a0, a1, a2, a3, a4⟩ := hk; go_simp⟩) c5 ?_
      simp only [Act.put, List.setIfInBounds_toArray, List.set_cons_zero, List.set_cons_succ]
      refine wpAnyH_take (i := 4) (oi := { dst := some 41, op := _, type := _, pos := _, after := _, guard := _ }) (v := .agg #[.int .i64 x.thread, .int .i64 x.op]) rfl (by kernel_rfl) (by kernel_rfl) (by kernel_rfl) (fun _ _ _ h => h) (Or.inl ⟨by rfl, fun wk hk => by obtain ⟨a0, a1, a2, a3, a4⟩ := hk; go_simp⟩) c5 ?_
      simp only [Act.put, List.setIfInBounds_toArray, List.set_cons_zero, List.set_cons_succ]
      refine wpAnyH_take (i := 5) (oi := { dst := some 42, op := _, type := _, pos := _, after := _, guard := _ }) (v := .pointer (some ⟨r, 0, none⟩)) rfl (by kernel_rfl) (by kernel_rfl) (by kernel_rfl) (fun _ _ _ h => h) (Or.inl ⟨by rfl, fun wk hk => by obtain ⟨a0, a1, a2, a3, a4⟩ := hk; go_simp⟩) c5 ?_
      simp only [Act.put, List.setIfInBounds_toArray, List.set_cons_zero, List.set_cons_succ]
      refine wpAnyH_take (i := 6) (oi := { dst := some 43, op := _, type := _, pos := _, after := _, guard := _ }) (v := .pointer (some ⟨r, 0, none⟩)) rfl (by kernel_rfl) (by kernel_rfl) (by kernel_rfl) (fun _ _ _ h => h) (Or.inl ⟨by rfl, fun wk hk => by obtain ⟨a0, a1, a2, a3, a4⟩ := hk; go_simp⟩) c5 ?_
      simp only [Act.put, List.setIfInBounds_toArray, List.set_cons_zero, List.set_cons_succ]
      refine wpAnyH_take (i := 7) (oi := { dst := some 44, op := _, type := _, pos := _, after := _, guard := _ }) (v := .pointer (some ⟨r, 2, none⟩)) rfl (by kernel_rfl) (by kernel_rfl) (by kernel_rfl) (fun _ _ _ h => h) (Or.inl ⟨by rfl, fun wk hk => by obtain ⟨a0, a1, a2, a3, a4⟩ := hk; go_simp⟩) c5 ?_
      simp only [Act.put, List.setIfInBounds_toArray, List.set_cons_zero, List.set_cons_succ]
      refine wpAnyH_take (i := 8) (oi := { dst := some 45, op := _, type := _, pos := _, after := _, guard := _ }) (v := .map (some l)) rfl (by kernel_rfl) (by kernel_rfl) (by kernel_rfl) (fun _ _ _ h => h) (Or.inl ⟨by rfl, fun wk hk => by obtain ⟨a0, a1, a2, a3, a4⟩ := hk; go_simp⟩) c5 ?_
      simp only [Act.put, List.setIfInBounds_toArray, List.set_cons_zero, List.set_cons_succ]
      refine wpAnyH_take (i := 9) (oi := { dst := some 46, op := _, type := _, pos := _, after := _, guard := _ }) (v := .pointer (some ⟨xb, 0, none⟩)) rfl (by kernel_rfl) (by kernel_rfl) (by kernel_rfl) (fun _ _ _ h => h) (Or.inl ⟨by rfl, fun wk hk => by obtain ⟨a0, a1, a2, a3, a4⟩ := hk; go_simp⟩) c5 ?_
      simp only [Act.put, List.setIfInBounds_toArray, List.set_cons_zero, List.set_cons_succ]
      refine wpAnyH_take (i := 10) (oi := { dst := some 47, op := _, type := _, pos := _, after := _, guard := _ }) (v := .int .i64 x.thread) rfl (by kernel_rfl) (by kernel_rfl) (by kernel_rfl) (fun _ _ _ h => h) (Or.inl ⟨by rfl, fun wk hk => by obtain ⟨a0, a1, a2, a3, a4⟩ := hk; go_simp⟩) c5 ?_
      simp only [Act.put, List.setIfInBounds_toArray, List.set_cons_zero, List.set_cons_succ]
      refine wpAnyH_take (i := 11) (oi := { dst := some 48, op := _, type := _, pos := _, after := _, guard := _ }) (v := .pointer (some ⟨r, 0, none⟩)) rfl (by kernel_rfl) (by kernel_rfl) (by kernel_rfl) (fun _ _ _ h => h) (Or.inl ⟨by rfl, fun wk hk => by obtain ⟨a0, a1, a2, a3, a4⟩ := hk; go_simp⟩) c5 ?_
      simp only [Act.put, List.setIfInBounds_toArray, List.set_cons_zero, List.set_cons_succ]
      refine wpAnyH_take (i := 12) (oi := { dst := some 49, op := _, type := _, pos := _, after := _, guard := _ }) (v := .pointer (some ⟨r, 0, none⟩)) rfl (by kernel_rfl) (by kernel_rfl) (by kernel_rfl) (fun _ _ _ h => h) (Or.inl ⟨by rfl, fun wk hk => by obtain ⟨a0, a1, a2, a3, a4⟩ := hk; go_simp⟩) c5 ?_
      simp only [Act.put, List.setIfInBounds_toArray, List.set_cons_zero, List.set_cons_succ]
      refine wpAnyH_take (i := 13) (oi := { dst := some 50, op := _, type := _, pos := _, after := _, guard := _ }) (v := .pointer (some ⟨r, 0, none⟩)) rfl (by kernel_rfl) (by kernel_rfl) (by kernel_rfl) (fun _ _ _ h => h) (Or.inl ⟨by rfl, fun wk hk => by obtain ⟨a0, a1, a2, a3, a4⟩ := hk; go_simp⟩) c5 ?_
      simp only [Act.put, List.setIfInBounds_toArray, List.set_cons_zero, List.set_cons_succ]
      refine wpAnyH_take (i := 14) (oi := { dst := some 51, op := _, type := _, pos := _, after := _, guard := _ }) (v := .slice A out.length cp) rfl (by kernel_rfl) (by kernel_rfl) (by kernel_rfl) (fun _ _ _ h => h) (Or.inl ⟨by rfl, fun wk hk => by obtain ⟨a0, a1, a2, a3, a4⟩ := hk; go_simp⟩) c5 ?_
      simp only [Act.put, List.setIfInBounds_toArray, List.set_cons_zero, List.set_cons_succ]
      refine wpAnyH_take (i := 15) (oi := { dst := some 52, op := _, type := _, pos := _, after := _, guard := _ }) (v := .int .i64 (out.length : Int)) rfl (by kernel_rfl) (by kernel_rfl) (by kernel_rfl) (fun _ _ _ h => h) (Or.inl ⟨by rfl, fun wk hk => by obtain ⟨a0, a1, a2, a3, a4⟩ := hk; go_simp⟩) c5 ?_
      simp only [Act.put, List.setIfInBounds_toArray, List.set_cons_zero, List.set_cons_succ]
      refine wpAnyH_take (i := 16) (oi := { dst := some 53, op := _, type := _, pos := _, after := _, guard := _ }) (v := .pointer (some ⟨r, 0, none⟩)) rfl (by kernel_rfl) (by kernel_rfl) (by kernel_rfl) (fun _ _ _ h => h) (Or.inl ⟨by rfl, fun wk hk => by obtain ⟨a0, a1, a2, a3, a4⟩ := hk; go_simp⟩) c5 ?_
      simp only [Act.put, List.setIfInBounds_toArray, List.set_cons_zero, List.set_cons_succ]
      refine wpAnyH_take (i := 17) (oi := { dst := some 54, op := _, type := _, pos := _, after := _, guard := _ }) (v := .pointer (some ⟨r, 0, none⟩)) rfl (by kernel_rfl) (by kernel_rfl) (by kernel_rfl) (fun _ _ _ h => h) (Or.inl ⟨by rfl, fun wk hk => by obtain ⟨a0, a1, a2, a3, a4⟩ := hk; go_simp⟩) c5 ?_
      simp only [Act.put, List.setIfInBounds_toArray, List.set_cons_zero, List.set_cons_succ]
      refine wpAnyH_take (i := 18) (oi := { dst := some 55, op := _, type := _, pos := _, after := _, guard := _ }) (v := .pointer (some ⟨r, 0, none⟩)) rfl (by kernel_rfl) (by kernel_rfl) (by kernel_rfl) (fun _ _ _ h => h) (Or.inl ⟨by rfl, fun wk hk => by obtain ⟨a0, a1, a2, a3, a4⟩ := hk; go_simp⟩) c5 ?_
      simp only [Act.put, List.setIfInBounds_toArray, List.set_cons_zero, List.set_cons_succ]
      refine wpAnyH_take (i := 19) (oi := { dst := some 56, op := _, type := _, pos := _, after := _, guard := _ }) (v := .slice A out.length cp) rfl (by kernel_rfl) (by kernel_rfl) (by kernel_rfl) (fun _ _ _ h => h) (Or.inl ⟨by rfl, fun wk hk => by obtain ⟨a0, a1, a2, a3, a4⟩ := hk; go_simp⟩) c5 ?_
      simp only [Act.put, List.setIfInBounds_toArray, List.set_cons_zero, List.set_cons_succ]
      refine wpAnyH_take (i := 20) (oi := { dst := some 57, op := _, type := _, pos := _, after := _, guard := _ }) (v := .int .i64 (out.length : Int)) rfl (by kernel_rfl) (by kernel_rfl) (by kernel_rfl) (fun _ _ _ h => h) (Or.inl ⟨by rfl, fun wk hk => by obtain ⟨a0, a1, a2, a3, a4⟩ := hk; go_simp⟩) c5 ?_
      simp only [Act.put, List.setIfInBounds_toArray, List.set_cons_zero, List.set_cons_succ]
      obtain ⟨v0, st, W5, e5, g5, z5, W6, e6, g6, z6, hk6⟩ := HR4.out.km.enter (c := Cal.new x k) HX.out.1 HX.out.2 hlm HP.out
      have hmr := HR4.out.hm
      have hlr := HR4.out.hl
      have hmn := HR4.out.ne
      have hrz := HR4.out.size
      have hxz := block_lt HK4.out
      have d5 := (fun h0 => (⟨(cell_grown g5 (by show r < _; omega) (by show r ≠ m; omega)).trans h0.1, (cell_grown g5 (by show r < _; omega) (by show r ≠ m; omega)).trans h0.2.1, (cell_grown g5 (by show r < _; omega) (by show r ≠ m; omega)).trans h0.2.2.1, (cell_grown g5 (by show xb < _; omega) (by show xb ≠ m; omega)).trans h0.2.2.2.1, (cell_grown g5 (by show xb < _; omega) (by show xb ≠ m; omega)).trans h0.2.2.2.2⟩ : _ ∧ _ ∧ _ ∧ _ ∧ _)) c5
      refine wpAnyH_ready (rs := [21]) (by kernel_rfl) (by simp) ?_
      refine (AllReadyH.cons (o := { dst := some 58, op := _, type := _, pos := _, after := _, guard := _ }) rfl (fun K hK => ?_) AllReadyH.nil)
      refine step_entry rfl (.tmp 40) (.tmp 41) 44 rfl rfl rfl e5 ?_
      refine hK.out _ _ d5 (fun _ => ?_)
      clear hK K
      try simp only [Act.put, List.setIfInBounds_toArray, List.set_cons_zero, List.set_cons_succ]
      refine wpAnyH_take (i := 22) (oi := { dst := some 59, op := _, type := _, pos := _, after := _, guard := _ }) (v := .int .i64 st) rfl (by kernel_rfl) (by kernel_rfl) (by kernel_rfl) (fun _ _ _ h => h) (Or.inl ⟨by rfl, fun wk hk => by obtain ⟨a0, a1, a2, a3, a4⟩ := hk; go_simp⟩) d5 ?_
      simp only [Act.put, List.setIfInBounds_toArray, List.set_cons_zero, List.set_cons_succ]
      have d6 := (fun h0 => (⟨(cell_grown g6 (by show r < _; omega) (by show r ≠ m; omega)).trans h0.1, (cell_grown g6 (by show r < _; omega) (by show r ≠ m; omega)).trans h0.2.1, (cell_grown g6 (by show r < _; omega) (by show r ≠ m; omega)).trans h0.2.2.1, (cell_grown g6 (by show xb < _; omega) (by show xb ≠ m; omega)).trans h0.2.2.2.1, (cell_grown g6 (by show xb < _; omega) (by show xb ≠ m; omega)).trans h0.2.2.2.2⟩ : _ ∧ _ ∧ _ ∧ _ ∧ _)) c5
      refine wpAnyH_ready (rs := [23]) (by kernel_rfl) (by simp) ?_
      refine (AllReadyH.cons (o := { dst := none, op := _, type := _, pos := _, after := _, guard := _ }) rfl (fun K hK => ?_) AllReadyH.nil)
      refine step_estore rfl (.tmp 40) (.tmp 59) (.tmp 52) 44 rfl rfl rfl rfl e6 ?_
      refine hK.out _ _ d6 (fun _ => ?_)
      clear hK K
      try simp only [Act.put, List.setIfInBounds_toArray, List.set_cons_zero, List.set_cons_succ]
      have hl6 := HR4.out.lm.kept g6 (by intro e; injection e with e; omega)
      have hw6 := HR4.out.row.kept g6 (by rcases ho : (Value.slice A out.length cp).ownBlock with _ | q; exact .inl rfl; have := (HR4.out.row.lt q ho).1; exact .inr (by intro e; injection e with e; omega))
      have hx6 := (g6.block r (by omega) (by intro e; injection e with e; omega)).trans HR4.out.bx
      have hk66 := (g6.block xb (by omega) (by intro e; injection e with e; omega)).trans HK4.out
      have HB6 : Hid (Mod m l r (.slice A out.length cp) W W6) := Lib.hid (HB4.out.grown g6 (by omega) (fun q e => by injection e with e; exact ⟨by omega, .inl e.symm⟩))
      have HK6 := Lib.hid hk66
      have HKM := Lib.hid hk6
      clear hk66 hk6 e5 e6 d5 g5 z5 c5 HB4
      obtain ⟨v1, st1, W7, e7, g7, z7, W8, e8, g8, z8, hl8⟩ := hl6.enter (c := Cal.new x k) HX.out.1 hlm
      have d7 := (fun h0 => (⟨(cell_grown g7 (by show r < _; omega) (by show r ≠ l; omega)).trans h0.1, (cell_grown g7 (by show r < _; omega) (by show r ≠ l; omega)).trans h0.2.1, (cell_grown g7 (by show r < _; omega) (by show r ≠ l; omega)).trans h0.2.2.1, (cell_grown g7 (by show xb < _; omega) (by show xb ≠ l; omega)).trans h0.2.2.2.1, (cell_grown g7 (by show xb < _; omega) (by show xb ≠ l; omega)).trans h0.2.2.2.2⟩ : _ ∧ _ ∧ _ ∧ _ ∧ _)) d6
      refine wpAnyH_ready (rs := [24]) (by kernel_rfl) (by simp) ?_
      refine (AllReadyH.cons (o := { dst := some 60, op := _, type := _, pos := _, after := _, guard := _ }) rfl (fun K hK => ?_) AllReadyH.nil)
      refine step_entry rfl (.tmp 45) (.tmp 47) 45 rfl rfl rfl e7 ?_
      refine hK.out _ _ d7 (fun _ => ?_)
      clear hK K
      try simp only [Act.put, List.setIfInBounds_toArray, List.set_cons_zero, List.set_cons_succ]
      refine wpAnyH_take (i := 25) (oi := { dst := some 61, op := _, type := _, pos := _, after := _, guard := _ }) (v := .int .i64 st1) rfl (by kernel_rfl) (by kernel_rfl) (by kernel_rfl) (fun _ _ _ h => h) (Or.inl ⟨by rfl, fun wk hk => by obtain ⟨a0, a1, a2, a3, a4⟩ := hk; go_simp⟩) d7 ?_
      simp only [Act.put, List.setIfInBounds_toArray, List.set_cons_zero, List.set_cons_succ]
      have d8 := (fun h0 => (⟨(cell_grown g8 (by show r < _; omega) (by show r ≠ l; omega)).trans h0.1, (cell_grown g8 (by show r < _; omega) (by show r ≠ l; omega)).trans h0.2.1, (cell_grown g8 (by show r < _; omega) (by show r ≠ l; omega)).trans h0.2.2.1, (cell_grown g8 (by show xb < _; omega) (by show xb ≠ l; omega)).trans h0.2.2.2.1, (cell_grown g8 (by show xb < _; omega) (by show xb ≠ l; omega)).trans h0.2.2.2.2⟩ : _ ∧ _ ∧ _ ∧ _ ∧ _)) d6
      refine wpAnyH_ready (rs := [26]) (by kernel_rfl) (by simp) ?_
      refine (AllReadyH.cons (o := { dst := none, op := _, type := _, pos := _, after := _, guard := _ }) rfl (fun K hK => ?_) AllReadyH.nil)
      refine step_estore rfl (.tmp 45) (.tmp 61) (.tmp 57) 45 rfl rfl rfl rfl e8 ?_
      refine hK.out _ _ d8 (fun _ => ?_)
      clear hK K
      try simp only [Act.put, List.setIfInBounds_toArray, List.set_cons_zero, List.set_cons_succ]
      have hw8 := hw6.kept g8 (by rcases ho : (Value.slice A out.length cp).ownBlock with _ | q; exact .inl rfl; have := (hw6.lt q ho).1; exact .inr (by intro e; injection e with e; omega))
      have hx8 := (g8.block r (by omega) (by intro e; injection e with e; omega)).trans hx6
      have hk8 := (g8.block xb (by omega) (by intro e; injection e with e; omega)).trans HK6.out
      have km8 := HKM.out.kept g8 (by intro e; injection e with e; omega)
      have HB8 : Hid (Mod m l r (.slice A out.length cp) W W8) := Lib.hid (HB6.out.grown g8 (by omega) (fun q e => by injection e with e; exact ⟨by omega, .inr (.inl e.symm)⟩))
      clear e7 e8 d7 d6 g7 z7 hw6 hx6 hl6 HB6 HK6 HKM g6 g8 d8 hW4 HR4 HK4
      refine wpAnyH_done (by kernel_rfl) ?_ _
      have c9 : W8.drew.cell? ⟨r, 0, none⟩ = some (.slice A out.length cp) ∧ W8.drew.cell? ⟨xb, 0, none⟩ = some (.int .i64 x.thread) ∧ W8.drew.cell? ⟨xb, 1, none⟩ = some (.int .i64 x.op) := ⟨by rw [block_cell (w := W8.drew) hx8]; rfl, by rw [block_cell (w := W8.drew) hk8]; rfl, by rw [block_cell (w := W8.drew) hk8]; rfl⟩
      have g9 := drew_grown W8
      have HW9 := Lib.hid (hw8.kept0 g9)
      have HX9 : Hid (W8.drew.heap[r]? = _) := Lib.hid hx8
      have HKX : Hid (W8.drew.heap[xb]? = some (.cells #[.int .i64 x.thread, .int .i64 x.op] 60 (0, 0))) := Lib.hid hk8
      have HM9 := Lib.hid (km8.kept g9 (by simp))
      have HL9 := Lib.hid (hl8.kept g9 (by simp))
      have HB9 := Lib.hid (HB8.out.drew (by have := block_lt hx8; omega))
      have hxz9 : xb < W8.drew.heap.size := block_lt (w := W8.drew) hk8
      have hrz9 : r < W8.drew.heap.size := block_lt (w := W8.drew) hx8
      clear hw8 hx8 hk8 km8 hl8 HB8 g9
      go_wp2_with fail
      refine wp_region_held_drew (S := fun wk => wk.cell? ⟨xb, 0, none⟩ = some (.int .i64 x.thread) ∧ wk.cell? ⟨xb, 1, none⟩ = some (.int .i64 x.op)) (by kernel_rfl) c9.2 (fun c9' => ?_)
      clear c9'
      try simp only [Act.put, List.setIfInBounds_toArray, List.set_cons_zero, List.set_cons_succ]
      obtain ⟨W9, hW9⟩ : ∃ W9, W8.drew = W9 := ⟨_, rfl⟩
      rw [hW9] at HKX HW9 HX9 HM9 HL9 HB9 hxz9 hrz9 c9 ⊢
      clear hW9
      obtain ⟨c0, c9⟩ := c9
      refine wpAnyH_take (i := 0) (oi := { dst := some 62, op := _, type := _, pos := _, after := _, guard := _ }) (v := .pointer (some ⟨r, 0, none⟩)) rfl (by kernel_rfl) (by kernel_rfl) (by kernel_rfl) (fun _ _ _ h => h) (Or.inl ⟨by rfl, fun wk hk => by obtain ⟨a1, a2⟩ := hk; go_simp⟩) c9 ?_
      simp only [Act.put, List.setIfInBounds_toArray, List.set_cons_zero, List.set_cons_succ]
      refine wpAnyH_take (i := 1) (oi := { dst := some 63, op := _, type := _, pos := _, after := _, guard := _ }) (v := .pointer (some ⟨r, 0, none⟩)) rfl (by kernel_rfl) (by kernel_rfl) (by kernel_rfl) (fun _ _ _ h => h) (Or.inl ⟨by rfl, fun wk hk => by obtain ⟨a1, a2⟩ := hk; go_simp⟩) c9 ?_
      simp only [Act.put, List.setIfInBounds_toArray, List.set_cons_zero, List.set_cons_succ]
      refine wpAnyH_take (i := 2) (oi := { dst := some 64, op := _, type := _, pos := _, after := _, guard := _ }) (v := .pointer (some ⟨r, 0, none⟩)) rfl (by kernel_rfl) (by kernel_rfl) (by kernel_rfl) (fun _ _ _ h => h) (Or.inl ⟨by rfl, fun wk hk => by obtain ⟨a1, a2⟩ := hk; go_simp⟩) c9 ?_
      simp only [Act.put, List.setIfInBounds_toArray, List.set_cons_zero, List.set_cons_succ]
      refine wpAnyH_take (i := 3) (oi := { dst := some 65, op := _, type := _, pos := _, after := _, guard := _ }) (v := .pointer (some ⟨r, 0, none⟩)) rfl (by kernel_rfl) (by kernel_rfl) (by kernel_rfl) (fun _ _ _ h => h) (Or.inl ⟨by rfl, fun wk hk => by obtain ⟨a1, a2⟩ := hk; go_simp⟩) c9 ?_
      simp only [Act.put, List.setIfInBounds_toArray, List.set_cons_zero, List.set_cons_succ]
      refine wpAnyH_take (i := 5) (oi := { dst := some 67, op := _, type := _, pos := _, after := _, guard := _ }) (v := .pointer (some ⟨xb, 0, none⟩)) rfl (by kernel_rfl) (by kernel_rfl) (by kernel_rfl) (fun _ _ _ h => h) (Or.inl ⟨by rfl, fun wk hk => by obtain ⟨a1, a2⟩ := hk; go_simp⟩) c9 ?_
      simp only [Act.put, List.setIfInBounds_toArray, List.set_cons_zero, List.set_cons_succ]
      refine wpAnyH_take (i := 6) (oi := { dst := some 68, op := _, type := _, pos := _, after := _, guard := _ }) (v := .int .i64 x.thread) rfl (by kernel_rfl) (by kernel_rfl) (by kernel_rfl) (fun _ _ _ h => h) (Or.inl ⟨by rfl, fun wk hk => by obtain ⟨a1, a2⟩ := hk; go_simp⟩) c9 ?_
      simp only [Act.put, List.setIfInBounds_toArray, List.set_cons_zero, List.set_cons_succ]
      refine wpAnyH_take (i := 7) (oi := { dst := some 69, op := _, type := _, pos := _, after := _, guard := _ }) (v := .pointer (some ⟨xb, 1, none⟩)) rfl (by kernel_rfl) (by kernel_rfl) (by kernel_rfl) (fun _ _ _ h => h) (Or.inl ⟨by rfl, fun wk hk => by obtain ⟨a1, a2⟩ := hk; go_simp⟩) c9 ?_
      simp only [Act.put, List.setIfInBounds_toArray, List.set_cons_zero, List.set_cons_succ]
      refine wpAnyH_take (i := 8) (oi := { dst := some 70, op := _, type := _, pos := _, after := _, guard := _ }) (v := .int .i64 x.op) rfl (by kernel_rfl) (by kernel_rfl) (by kernel_rfl) (fun _ _ _ h => h) (Or.inl ⟨by rfl, fun wk hk => by obtain ⟨a1, a2⟩ := hk; go_simp⟩) c9 ?_
      simp only [Act.put, List.setIfInBounds_toArray, List.set_cons_zero, List.set_cons_succ]
      refine wpAnyH_take (i := 9) (oi := { dst := some 71, op := _, type := _, pos := _, after := _, guard := _ }) (v := .int .i64 (k : Int)) rfl (by kernel_rfl) (by kernel_rfl) (by kernel_rfl) (fun _ _ _ h => h) (Or.inl ⟨by rfl, fun wk hk => by obtain ⟨a1, a2⟩ := hk; go_simp⟩) c9 ?_
      simp only [Act.put, List.setIfInBounds_toArray, List.set_cons_zero, List.set_cons_succ]
      refine wpAnyH_take (i := 10) (oi := { dst := some 72, op := _, type := _, pos := _, after := _, guard := _ }) (v := .agg #[.int .i64 x.thread, .int .i64 x.op, .int .i64 (k : Int), .int .i64 (-1), .int .i64 (-1), .int .i64 0, .int .i64 0, .int .i64 0, .int .i64 0, .int .i64 0, .int .i64 0, .int .i64 0, .int .u64 0, .int .u64 0, .int .u64 0, .int .u64 0, .int .u64 0, .int .u64 0]) rfl (by kernel_rfl) (by kernel_rfl) (by kernel_rfl) (fun _ _ _ h => h) (Or.inl ⟨by rfl, fun wk hk => by obtain ⟨a1, a2⟩ := hk; go_simp⟩) c9 ?_
      simp only [Act.put, List.setIfInBounds_toArray, List.set_cons_zero, List.set_cons_succ]
      have g10 := World.grownBy_alloc W9 (.cells #[.int .i64 x.thread, .int .i64 x.op, .int .i64 (k : Int), .int .i64 (-1), .int .i64 (-1), .int .i64 0, .int .i64 0, .int .i64 0, .int .i64 0, .int .i64 0, .int .i64 0, .int .i64 0, .int .u64 0, .int .u64 0, .int .u64 0, .int .u64 0, .int .u64 0, .int .u64 0] 40) none
      obtain ⟨W10, hW10⟩ : ∃ W10, W9.alloc (.cells #[.int .i64 x.thread, .int .i64 x.op, .int .i64 (k : Int), .int .i64 (-1), .int .i64 (-1), .int .i64 0, .int .i64 0, .int .i64 0, .int .i64 0, .int .i64 0, .int .i64 0, .int .i64 0, .int .u64 0, .int .u64 0, .int .u64 0, .int .u64 0, .int .u64 0, .int .u64 0] 40) = W10 := ⟨_, rfl⟩
      rw [hW10] at g10
      have d0 : W10.cell? ⟨r, 0, none⟩ = some (.slice A out.length cp) := (World.cell?_of_block (g10.block r (by omega) (by simp))).trans c0
      have c10 := (fun h0 => (⟨(World.cell?_of_block (g10.block xb (by omega) (by simp))).trans h0.1, (World.cell?_of_block (g10.block xb (by omega) (by simp))).trans h0.2⟩ : _ ∧ _)) c9
      have HW10 := Lib.hid hW10
      clear hW10 g10
      refine wpAnyH_ready (rs := [4, 11]) (by kernel_rfl) (by simp) ?_
      refine (AllReadyH.cons (o := { dst := some 66, op := _, type := _, pos := _, after := _, guard := _ }) rfl (fun K hK => ?_) (AllReadyH.cons (o := { dst := some 73, op := _, type := _, pos := _, after := _, guard := _ }) rfl (fun K hK => ?_) AllReadyH.nil))
      · skip
        go_simp
        refine hK.out _ _ c9 (fun _ => ?_)
        clear hK K
        try simp only [Act.put, List.setIfInBounds_toArray, List.set_cons_zero, List.set_cons_succ]
        refine wpAnyH_ready (rs := [11]) (by kernel_rfl) (by simp) ?_
        refine (AllReadyH.cons (o := { dst := some 73, op := _, type := _, pos := _, after := _, guard := _ }) rfl (fun K hK => ?_) AllReadyH.nil)
        clear d0
        have hW10 := HW10.out
        go_simp
        try rw [hW10]
        refine hK.out _ _ c10 (fun _ => ?_)
        clear hK K
        try simp only [Act.put, List.setIfInBounds_toArray, List.set_cons_zero, List.set_cons_succ]
        clear c0 c10
        rw [← hW10]
        clear hW10 HW10
        refine wpAnyH_ready (rs := [12]) (by kernel_rfl) (by simp) ?_
        refine (AllReadyH.cons (o := { dst := some 74, op := _, type := _, pos := _, after := _, guard := _ }) rfl (fun K hK => ?_) AllReadyH.nil)
        refine step_append_oneN rfl (.tmp 66) (.tmp 73) 23 rfl ic _ 144 Try.underlying23 IC.out rfl (by omega) rfl W9 (Cal.new x k).cells rfl HNEW.out HW9.out rfl (by rw [List.length_map]; omega) (by rw [List.length_map]; omega) (by omega) ?_
        intro v' W11 ho hg
        have hgr : some r ≠ (Value.slice A out.length cp).ownBlock := (HW9.out.apart HX9.out (by decide)).symm
        have hgx : some xb ≠ (Value.slice A out.length cp).ownBlock := (HW9.out.apart HKX.out (by decide)).symm
        have c11 := (fun h0 => (⟨(World.cell?_of_block (hg.block xb (by omega) (by exact hgx))).trans h0.1, (World.cell?_of_block (hg.block xb (by omega) (by exact hgx))).trans h0.2⟩ : _ ∧ _)) c9
        refine hK.out _ _ c11 (fun _ => ?_)
        clear hK K
        try simp only [Act.put, List.setIfInBounds_toArray, List.set_cons_zero, List.set_cons_succ]
        refine wpAnyH_take (i := 13) (oi := { dst := some 75, op := _, type := _, pos := _, after := _, guard := _ }) (v := .pointer (some ⟨r, 0, none⟩)) rfl (by kernel_rfl) (by kernel_rfl) (by kernel_rfl) (fun _ _ _ h => h) (Or.inl ⟨by rfl, fun wk hk => by obtain ⟨a1, a2⟩ := hk; go_simp⟩) c11 ?_
        simp only [Act.put, List.setIfInBounds_toArray, List.set_cons_zero, List.set_cons_succ]
        refine wpAnyH_take (i := 14) (oi := { dst := some 76, op := _, type := _, pos := _, after := _, guard := _ }) (v := .pointer (some ⟨r, 0, none⟩)) rfl (by kernel_rfl) (by kernel_rfl) (by kernel_rfl) (fun _ _ _ h => h) (Or.inl ⟨by rfl, fun wk hk => by obtain ⟨a1, a2⟩ := hk; go_simp⟩) c11 ?_
        simp only [Act.put, List.setIfInBounds_toArray, List.set_cons_zero, List.set_cons_succ]
        have hx11 := (hg.block r (by omega) hgr).trans HX9.out
        have z0 : W11.frozen? ⟨r, 0, none⟩ = false := block_free hx11 _
        have c0 : W11.cell? ⟨r, 0, none⟩ = some (.slice A out.length cp) := by rw [block_cell hx11]; rfl
        have hrow : ∀ q, v'.ownBlock = some q → r + 1 ≤ q := fun q e => (ho.lt q e).1
        have hg1 := grown_setCell W11 r 0 v'
        have km11 := (HM9.out.kept hg (by intro e; have := (HW9.out.lt m e.symm).1; omega)).kept hg1 (by intro e; injection e with e; omega)
        have lm11 := (HL9.out.kept hg (by intro e; have := (HW9.out.lt l e.symm).1; omega)).kept hg1 (by intro e; injection e with e; omega)
        have hw11 := ho.kept hg1 (by rcases hq : v'.ownBlock with _ | q; exact .inl rfl; have := hrow q hq; exact .inr (by intro e; injection e with e; omega))
        have hB11 : Mod m l r (.slice A out.length cp) W W11 := HB9.out.grown hg (by omega) (fun q e => by have := (HW9.out.lt q e).1; exact ⟨by omega, .inr (.inr (.inr e))⟩)
        have hB12 : Mod m l r (.slice A out.length cp) W (W11.setCell ⟨r, 0, none⟩ v') := hB11.grown hg1 (by have := hg.size; omega) (fun q e => by injection e with e; exact ⟨by omega, .inr (.inr (.inl e.symm))⟩)
        have hbx := block_setCell (o := 0) hx11 v'
        have HFIN : Hid (BegunE m l r (.slice A out.length cp) W x k out (.returned (.bool true)) (W11.setCell ⟨r, 0, none⟩ v')) := Lib.hid (by unfold BegunE; rw [if_pos ⟨HP.out, HO.out⟩]; exact ⟨⟨rfl, v', ⟨hbx, by rw [List.map_append]; exact hw11, km11, lm11, hmr, hlr, hmn⟩⟩, hB12⟩)
        have c12 := (fun h0 => (⟨(World.cell?_setCell_far W11 ⟨r, 0, none⟩ ⟨xb, 0, none⟩ v' (by show r ≠ xb; omega)).trans h0.1, (World.cell?_setCell_far W11 ⟨r, 0, none⟩ ⟨xb, 1, none⟩ v' (by show r ≠ xb; omega)).trans h0.2⟩ : _ ∧ _)) c11
        obtain ⟨A', c', hv', _⟩ := ho.slice
        subst hv'
        clear hx11 hrow hg1 km11 lm11 hw11 hB11 hB12 hbx c11 ho hg hgr hgx c9
        refine wpAnyH_ready (rs := [15]) (by kernel_rfl) (by simp) ?_
        refine (AllReadyH.cons (o := { dst := none, op := _, type := _, pos := _, after := _, guard := _ }) rfl (fun K hK => ?_) AllReadyH.nil)
        go_simp
        refine hK.out _ _ (by simpa using c12) (fun _ => ?_)
        clear hK K
        try simp only [Act.put, List.setIfInBounds_toArray, List.set_cons_zero, List.set_cons_succ]
        refine wpAnyH_done (by kernel_rfl) ?_ _
        clear c0 c12 z0
        go_wp2_with fail
        go_ret
        simpa using HFIN.out
      · skip
        have hW10 := HW10.out
        go_simp
        try rw [hW10]
        refine hK.out _ _ c10 (fun _ => ?_)
        clear hK K
        try simp only [Act.put, List.setIfInBounds_toArray, List.set_cons_zero, List.set_cons_succ]
        clear hW10 c0
        refine wpAnyH_ready (rs := [4]) (by kernel_rfl) (by simp) ?_
        refine (AllReadyH.cons (o := { dst := some 66, op := _, type := _, pos := _, after := _, guard := _ }) rfl (fun K hK => ?_) AllReadyH.nil)
        go_simp
        refine hK.out _ _ c10 (fun _ => ?_)
        clear hK K
        try simp only [Act.put, List.setIfInBounds_toArray, List.set_cons_zero, List.set_cons_succ]
        clear d0 c10
        rw [← HW10.out]
        clear HW10
        refine wpAnyH_ready (rs := [12]) (by kernel_rfl) (by simp) ?_
        refine (AllReadyH.cons (o := { dst := some 74, op := _, type := _, pos := _, after := _, guard := _ }) rfl (fun K hK => ?_) AllReadyH.nil)
        refine step_append_oneN rfl (.tmp 66) (.tmp 73) 23 rfl ic _ 144 Try.underlying23 IC.out rfl (by omega) rfl W9 (Cal.new x k).cells rfl HNEW.out HW9.out rfl (by rw [List.length_map]; omega) (by rw [List.length_map]; omega) (by omega) ?_
        intro v' W11 ho hg
        have hgr : some r ≠ (Value.slice A out.length cp).ownBlock := (HW9.out.apart HX9.out (by decide)).symm
        have hgx : some xb ≠ (Value.slice A out.length cp).ownBlock := (HW9.out.apart HKX.out (by decide)).symm
        have c11 := (fun h0 => (⟨(World.cell?_of_block (hg.block xb (by omega) (by exact hgx))).trans h0.1, (World.cell?_of_block (hg.block xb (by omega) (by exact hgx))).trans h0.2⟩ : _ ∧ _)) c9
        refine hK.out _ _ c11 (fun _ => ?_)
        clear hK K
        try simp only [Act.put, List.setIfInBounds_toArray, List.set_cons_zero, List.set_cons_succ]
        refine wpAnyH_take (i := 13) (oi := { dst := some 75, op := _, type := _, pos := _, after := _, guard := _ }) (v := .pointer (some ⟨r, 0, none⟩)) rfl (by kernel_rfl) (by kernel_rfl) (by kernel_rfl) (fun _ _ _ h => h) (Or.inl ⟨by rfl, fun wk hk => by obtain ⟨a1, a2⟩ := hk; go_simp⟩) c11 ?_
        simp only [Act.put, List.setIfInBounds_toArray, List.set_cons_zero, List.set_cons_succ]
        refine wpAnyH_take (i := 14) (oi := { dst := some 76, op := _, type := _, pos := _, after := _, guard := _ }) (v := .pointer (some ⟨r, 0, none⟩)) rfl (by kernel_rfl) (by kernel_rfl) (by kernel_rfl) (fun _ _ _ h => h) (Or.inl ⟨by rfl, fun wk hk => by obtain ⟨a1, a2⟩ := hk; go_simp⟩) c11 ?_
        simp only [Act.put, List.setIfInBounds_toArray, List.set_cons_zero, List.set_cons_succ]
        have hx11 := (hg.block r (by omega) hgr).trans HX9.out
        have z0 : W11.frozen? ⟨r, 0, none⟩ = false := block_free hx11 _
        have c0 : W11.cell? ⟨r, 0, none⟩ = some (.slice A out.length cp) := by rw [block_cell hx11]; rfl
        have hrow : ∀ q, v'.ownBlock = some q → r + 1 ≤ q := fun q e => (ho.lt q e).1
        have hg1 := grown_setCell W11 r 0 v'
        have km11 := (HM9.out.kept hg (by intro e; have := (HW9.out.lt m e.symm).1; omega)).kept hg1 (by intro e; injection e with e; omega)
        have lm11 := (HL9.out.kept hg (by intro e; have := (HW9.out.lt l e.symm).1; omega)).kept hg1 (by intro e; injection e with e; omega)
        have hw11 := ho.kept hg1 (by rcases hq : v'.ownBlock with _ | q; exact .inl rfl; have := hrow q hq; exact .inr (by intro e; injection e with e; omega))
        have hB11 : Mod m l r (.slice A out.length cp) W W11 := HB9.out.grown hg (by omega) (fun q e => by have := (HW9.out.lt q e).1; exact ⟨by omega, .inr (.inr (.inr e))⟩)
        have hB12 : Mod m l r (.slice A out.length cp) W (W11.setCell ⟨r, 0, none⟩ v') := hB11.grown hg1 (by have := hg.size; omega) (fun q e => by injection e with e; exact ⟨by omega, .inr (.inr (.inl e.symm))⟩)
        have hbx := block_setCell (o := 0) hx11 v'
        have HFIN : Hid (BegunE m l r (.slice A out.length cp) W x k out (.returned (.bool true)) (W11.setCell ⟨r, 0, none⟩ v')) := Lib.hid (by unfold BegunE; rw [if_pos ⟨HP.out, HO.out⟩]; exact ⟨⟨rfl, v', ⟨hbx, by rw [List.map_append]; exact hw11, km11, lm11, hmr, hlr, hmn⟩⟩, hB12⟩)
        have c12 := (fun h0 => (⟨(World.cell?_setCell_far W11 ⟨r, 0, none⟩ ⟨xb, 0, none⟩ v' (by show r ≠ xb; omega)).trans h0.1, (World.cell?_setCell_far W11 ⟨r, 0, none⟩ ⟨xb, 1, none⟩ v' (by show r ≠ xb; omega)).trans h0.2⟩ : _ ∧ _)) c11
        obtain ⟨A', c', hv', _⟩ := ho.slice
        subst hv'
        clear hx11 hrow hg1 km11 lm11 hw11 hB11 hB12 hbx c11 ho hg hgr hgx c9
        refine wpAnyH_ready (rs := [15]) (by kernel_rfl) (by simp) ?_
        refine (AllReadyH.cons (o := { dst := none, op := _, type := _, pos := _, after := _, guard := _ }) rfl (fun K hK => ?_) AllReadyH.nil)
        go_simp
        refine hK.out _ _ (by simpa using c12) (fun _ => ?_)
        clear hK K
        try simp only [Act.put, List.setIfInBounds_toArray, List.set_cons_zero, List.set_cons_succ]
        refine wpAnyH_done (by kernel_rfl) ?_ _
        clear c0 c12 z0
        go_wp2_with fail
        go_ret
        simpa using HFIN.out
    · obtain ⟨c, hc, hct, hcl⟩ := hrr
      have hn := (List.getElem?_eq_some_iff.1 hc).1
      have hop := open_some HV.out ⟨c, hc, hct, hcl⟩ hc
      have hcn : out[n] = c := by rw [List.getElem?_eq_getElem hn] at hc; injection hc
      have HCN := Lib.hid hcn
      have HOP := Lib.hid hop
      clear hcn hop hc hct hcl
      go_wp2_with fail
      refine wp_region_far (B := W2.heap.size) (by kernel_rfl) (by kernel_rfl) ?_
      iterate 6 go_big_quiet_step (fail)
      refine wpQuiet_look rfl (.tmp 25) (.tmp 27) 45 true rfl _ _ _ rfl rfl HLK.out ?_
      simp only [Act.put, List.setIfInBounds_toArray, List.set_cons_zero, List.set_cons_succ]
      iterate 5 go_big_quiet_step (fail)
      refine wpQuiet_nil ?_
      rintro _ ⟨i, rfl⟩
      have hr3 := HR2.out.kept (grownBy_below i.p)
      have hb3 : i.v.heap[xb]? = some (.cells #[.int .i64 x.thread, .int .i64 x.op] 60 (0, 0)) := (i.p.block xb (block_lt HK2.out)).trans HK2.out
      have hB3 : Mod m l r v W i.v := HB2.out.below (by have := hr3.hm; have := HR2.out.size; omega) i.p
      obtain ⟨W3, hW3⟩ : ∃ W3, i.v = W3 := ⟨_, rfl⟩
      rw [hW3] at hr3 hb3 hB3 ⊢
      clear hW3 f0 f1 HLK HB2 HK2 HR2 i
      have hits := its_is m l r n W3 v out hr3 hn
      rw [HCN.out] at hits
      by_cases hto : c.to = -1
      · rw [decide_eq_true hto] at hits
        have HE : Hid (¬ (placeO out x.thread x.op = none ∧ out.any (openB x.thread) = false)) := Lib.hid (by rw [HOP.out, decide_eq_true hto]; simp)
        have HB3 := Lib.hid hB3
        clear hr3 hb3 hB3 hto
        go_wp2_with fail
        refine hits.mono ?_
        rintro e w' ⟨rfl, rfl⟩
        clear hits
        go_wp2_with fail
        go_ret
        unfold BegunE
        rw [if_neg HE.out]
        exact ⟨rfl, HB3.out⟩
      · rw [decide_eq_false hto] at hits
        have HO : Hid (out.any (openB x.thread) = false) := Lib.hid (by rw [HOP.out, decide_eq_false hto])
        have HR3 := Lib.hid hr3
        have HK3 := Lib.hid hb3
        have HB3 := Lib.hid hB3
        clear hto hr3 hb3 hB3
        go_wp2_with fail
        refine hits.mono ?_
        rintro e W3 ⟨rfl, rfl⟩
        clear hits
        have hr3 := HR3.out
        have hb3 := HK3.out
        have hB3 := HB3.out
        clear HR3 HK3 HB3
        obtain ⟨A, cp, hve, _, _⟩ := hr3.row.slice
        rw [List.length_map] at hve
        subst hve
        have hr4 := hr3.kept (drew_grown W3)
        have hB4 := hB3.drew (by have := hr3.hm; have := hr3.size; omega)
        have c5 : W3.drew.cell? ⟨r, 0, none⟩ = some (.slice A out.length cp) ∧ W3.drew.cell? ⟨r, 1, none⟩ = some (.map (some m)) ∧ W3.drew.cell? ⟨r, 2, none⟩ = some (.map (some l)) ∧ W3.drew.cell? ⟨xb, 0, none⟩ = some (.int .i64 x.thread) ∧ W3.drew.cell? ⟨xb, 1, none⟩ = some (.int .i64 x.op) := ⟨hr4.cells.1, hr4.cells.2.1, hr4.cells.2.2, by rw [block_cell (w := W3.drew) hb3]; rfl, by rw [block_cell (w := W3.drew) hb3]; rfl⟩
        have HR4 := Lib.hid hr4
        have HB4 := Lib.hid hB4
        have HK4 : Hid (W3.drew.heap[xb]? = some (.cells #[.int .i64 x.thread, .int .i64 x.op] 60 (0, 0))) := Lib.hid hb3
        clear hr3 hr4 hB3 hB4 hb3
        go_wp2_with fail
        refine wp_region_held_drew (S := fun wk => wk.cell? ⟨r, 0, none⟩ = some (.slice A out.length cp) ∧ wk.cell? ⟨r, 1, none⟩ = some (.map (some m)) ∧ wk.cell? ⟨r, 2, none⟩ = some (.map (some l)) ∧ wk.cell? ⟨xb, 0, none⟩ = some (.int .i64 x.thread) ∧ wk.cell? ⟨xb, 1, none⟩ = some (.int .i64 x.op)) (by kernel_rfl) c5 (fun c5 => ?_)
        try simp only [Act.put, List.setIfInBounds_toArray, List.set_cons_zero, List.set_cons_succ]
        obtain ⟨W4, hW4⟩ : ∃ W4, W3.drew = W4 := ⟨_, rfl⟩
        rw [hW4] at HR4 HB4 HK4 c5 ⊢
        refine wpAnyH_take (i := 0) (oi := { dst := some 37, op := _, type := _, pos := _, after := _, guard := _ }) (v := .pointer (some ⟨r, 0, none⟩)) rfl (by kernel_rfl) (by kernel_rfl) (by kernel_rfl) (fun _ _ _ h => h) (Or.inl ⟨by rfl, fun wk hk => by obtain ⟨a0, a1, a2, a3, a4⟩ := hk; go_simp⟩) c5 ?_
        simp only [Act.put, List.setIfInBounds_toArray, List.set_cons_zero, List.set_cons_succ]
        refine wpAnyH_take (i := 1) (oi := { dst := some 38, op := _, type := _, pos := _, after := _, guard := _ }) (v := .pointer (some ⟨r, 0, none⟩)) rfl (by kernel_rfl) (by kernel_rfl) (by kernel_rfl) (fun _ _ _ h => h) (Or.inl ⟨by rfl, fun wk hk => by obtain ⟨a0, a1, a2, a3, a4⟩ := hk; go_simp⟩) c5 ?_
        simp only [Act.put, List.setIfInBounds_toArray, List.set_cons_zero, List.set_cons_succ]
        refine wpAnyH_take (i := 2) (oi := { dst := some 39, op := _, type := _, pos := _, after := _, guard := _ }) (v := .pointer (some ⟨r, 1, none⟩)) rfl (by kernel_rfl) (by kernel_rfl) (by kernel_rfl) (fun _ _ _ h => h) (Or.inl ⟨by rfl, fun wk hk => by obtain ⟨a0, a1, a2, a3, a4⟩ := hk; go_simp⟩) c5 ?_
        simp only [Act.put, List.setIfInBounds_toArray, List.set_cons_zero, List.set_cons_succ]
        refine wpAnyH_take (i := 3) (oi := { dst := some 40, op := _, type := _, pos := _, after := _, guard := _ }) (v := .map (some m)) rfl (by kernel_rfl) (by kernel_rfl) (by kernel_rfl) (fun _ _ _ h => h) (Or.inl ⟨by rfl, fun wk hk => by obtain ⟨a0, a1, a2, a3, a4⟩ := hk; go_simp⟩) c5 ?_
        simp only [Act.put, List.setIfInBounds_toArray, List.set_cons_zero, List.set_cons_succ]
        refine wpAnyH_take (i := 4) (oi := { dst := some 41, op := _, type := _, pos := _, after := _, guard := _ }) (v := .agg #[.int .i64 x.thread, .int .i64 x.op]) rfl (by kernel_rfl) (by kernel_rfl) (by kernel_rfl) (fun _ _ _ h => h) (Or.inl ⟨by rfl, fun wk hk => by obtain ⟨a0, a1, a2, a3, a4⟩ := hk; go_simp⟩) c5 ?_
        simp only [Act.put, List.setIfInBounds_toArray, List.set_cons_zero, List.set_cons_succ]
        refine wpAnyH_take (i := 5) (oi := { dst := some 42, op := _, type := _, pos := _, after := _, guard := _ }) (v := .pointer (some ⟨r, 0, none⟩)) rfl (by kernel_rfl) (by kernel_rfl) (by kernel_rfl) (fun _ _ _ h => h) (Or.inl ⟨by rfl, fun wk hk => by obtain ⟨a0, a1, a2, a3, a4⟩ := hk; go_simp⟩) c5 ?_
        simp only [Act.put, List.setIfInBounds_toArray, List.set_cons_zero, List.set_cons_succ]
        refine wpAnyH_take (i := 6) (oi := { dst := some 43, op := _, type := _, pos := _, after := _, guard := _ }) (v := .pointer (some ⟨r, 0, none⟩)) rfl (by kernel_rfl) (by kernel_rfl) (by kernel_rfl) (fun _ _ _ h => h) (Or.inl ⟨by rfl, fun wk hk => by obtain ⟨a0, a1, a2, a3, a4⟩ := hk; go_simp⟩) c5 ?_
        simp only [Act.put, List.setIfInBounds_toArray, List.set_cons_zero, List.set_cons_succ]
        refine wpAnyH_take (i := 7) (oi := { dst := some 44, op := _, type := _, pos := _, after := _, guard := _ }) (v := .pointer (some ⟨r, 2, none⟩)) rfl (by kernel_rfl) (by kernel_rfl) (by kernel_rfl) (fun _ _ _ h => h) (Or.inl ⟨by rfl, fun wk hk => by obtain ⟨a0, a1, a2, a3, a4⟩ := hk; go_simp⟩) c5 ?_
        simp only [Act.put, List.setIfInBounds_toArray, List.set_cons_zero, List.set_cons_succ]
        refine wpAnyH_take (i := 8) (oi := { dst := some 45, op := _, type := _, pos := _, after := _, guard := _ }) (v := .map (some l)) rfl (by kernel_rfl) (by kernel_rfl) (by kernel_rfl) (fun _ _ _ h => h) (Or.inl ⟨by rfl, fun wk hk => by obtain ⟨a0, a1, a2, a3, a4⟩ := hk; go_simp⟩) c5 ?_
        simp only [Act.put, List.setIfInBounds_toArray, List.set_cons_zero, List.set_cons_succ]
        refine wpAnyH_take (i := 9) (oi := { dst := some 46, op := _, type := _, pos := _, after := _, guard := _ }) (v := .pointer (some ⟨xb, 0, none⟩)) rfl (by kernel_rfl) (by kernel_rfl) (by kernel_rfl) (fun _ _ _ h => h) (Or.inl ⟨by rfl, fun wk hk => by obtain ⟨a0, a1, a2, a3, a4⟩ := hk; go_simp⟩) c5 ?_
        simp only [Act.put, List.setIfInBounds_toArray, List.set_cons_zero, List.set_cons_succ]
        refine wpAnyH_take (i := 10) (oi := { dst := some 47, op := _, type := _, pos := _, after := _, guard := _ }) (v := .int .i64 x.thread) rfl (by kernel_rfl) (by kernel_rfl) (by kernel_rfl) (fun _ _ _ h => h) (Or.inl ⟨by rfl, fun wk hk => by obtain ⟨a0, a1, a2, a3, a4⟩ := hk; go_simp⟩) c5 ?_
        simp only [Act.put, List.setIfInBounds_toArray, List.set_cons_zero, List.set_cons_succ]
        refine wpAnyH_take (i := 11) (oi := { dst := some 48, op := _, type := _, pos := _, after := _, guard := _ }) (v := .pointer (some ⟨r, 0, none⟩)) rfl (by kernel_rfl) (by kernel_rfl) (by kernel_rfl) (fun _ _ _ h => h) (Or.inl ⟨by rfl, fun wk hk => by obtain ⟨a0, a1, a2, a3, a4⟩ := hk; go_simp⟩) c5 ?_
        simp only [Act.put, List.setIfInBounds_toArray, List.set_cons_zero, List.set_cons_succ]
        refine wpAnyH_take (i := 12) (oi := { dst := some 49, op := _, type := _, pos := _, after := _, guard := _ }) (v := .pointer (some ⟨r, 0, none⟩)) rfl (by kernel_rfl) (by kernel_rfl) (by kernel_rfl) (fun _ _ _ h => h) (Or.inl ⟨by rfl, fun wk hk => by obtain ⟨a0, a1, a2, a3, a4⟩ := hk; go_simp⟩) c5 ?_
        simp only [Act.put, List.setIfInBounds_toArray, List.set_cons_zero, List.set_cons_succ]
        refine wpAnyH_take (i := 13) (oi := { dst := some 50, op := _, type := _, pos := _, after := _, guard := _ }) (v := .pointer (some ⟨r, 0, none⟩)) rfl (by kernel_rfl) (by kernel_rfl) (by kernel_rfl) (fun _ _ _ h => h) (Or.inl ⟨by rfl, fun wk hk => by obtain ⟨a0, a1, a2, a3, a4⟩ := hk; go_simp⟩) c5 ?_
        simp only [Act.put, List.setIfInBounds_toArray, List.set_cons_zero, List.set_cons_succ]
        refine wpAnyH_take (i := 14) (oi := { dst := some 51, op := _, type := _, pos := _, after := _, guard := _ }) (v := .slice A out.length cp) rfl (by kernel_rfl) (by kernel_rfl) (by kernel_rfl) (fun _ _ _ h => h) (Or.inl ⟨by rfl, fun wk hk => by obtain ⟨a0, a1, a2, a3, a4⟩ := hk; go_simp⟩) c5 ?_
        simp only [Act.put, List.setIfInBounds_toArray, List.set_cons_zero, List.set_cons_succ]
        refine wpAnyH_take (i := 15) (oi := { dst := some 52, op := _, type := _, pos := _, after := _, guard := _ }) (v := .int .i64 (out.length : Int)) rfl (by kernel_rfl) (by kernel_rfl) (by kernel_rfl) (fun _ _ _ h => h) (Or.inl ⟨by rfl, fun wk hk => by obtain ⟨a0, a1, a2, a3, a4⟩ := hk; go_simp⟩) c5 ?_
        simp only [Act.put, List.setIfInBounds_toArray, List.set_cons_zero, List.set_cons_succ]
        refine wpAnyH_take (i := 16) (oi := { dst := some 53, op := _, type := _, pos := _, after := _, guard := _ }) (v := .pointer (some ⟨r, 0, none⟩)) rfl (by kernel_rfl) (by kernel_rfl) (by kernel_rfl) (fun _ _ _ h => h) (Or.inl ⟨by rfl, fun wk hk => by obtain ⟨a0, a1, a2, a3, a4⟩ := hk; go_simp⟩) c5 ?_
        simp only [Act.put, List.setIfInBounds_toArray, List.set_cons_zero, List.set_cons_succ]
        refine wpAnyH_take (i := 17) (oi := { dst := some 54, op := _, type := _, pos := _, after := _, guard := _ }) (v := .pointer (some ⟨r, 0, none⟩)) rfl (by kernel_rfl) (by kernel_rfl) (by kernel_rfl) (fun _ _ _ h => h) (Or.inl ⟨by rfl, fun wk hk => by obtain ⟨a0, a1, a2, a3, a4⟩ := hk; go_simp⟩) c5 ?_
        simp only [Act.put, List.setIfInBounds_toArray, List.set_cons_zero, List.set_cons_succ]
        refine wpAnyH_take (i := 18) (oi := { dst := some 55, op := _, type := _, pos := _, after := _, guard := _ }) (v := .pointer (some ⟨r, 0, none⟩)) rfl (by kernel_rfl) (by kernel_rfl) (by kernel_rfl) (fun _ _ _ h => h) (Or.inl ⟨by rfl, fun wk hk => by obtain ⟨a0, a1, a2, a3, a4⟩ := hk; go_simp⟩) c5 ?_
        simp only [Act.put, List.setIfInBounds_toArray, List.set_cons_zero, List.set_cons_succ]
        refine wpAnyH_take (i := 19) (oi := { dst := some 56, op := _, type := _, pos := _, after := _, guard := _ }) (v := .slice A out.length cp) rfl (by kernel_rfl) (by kernel_rfl) (by kernel_rfl) (fun _ _ _ h => h) (Or.inl ⟨by rfl, fun wk hk => by obtain ⟨a0, a1, a2, a3, a4⟩ := hk; go_simp⟩) c5 ?_
        simp only [Act.put, List.setIfInBounds_toArray, List.set_cons_zero, List.set_cons_succ]
        refine wpAnyH_take (i := 20) (oi := { dst := some 57, op := _, type := _, pos := _, after := _, guard := _ }) (v := .int .i64 (out.length : Int)) rfl (by kernel_rfl) (by kernel_rfl) (by kernel_rfl) (fun _ _ _ h => h) (Or.inl ⟨by rfl, fun wk hk => by obtain ⟨a0, a1, a2, a3, a4⟩ := hk; go_simp⟩) c5 ?_
        simp only [Act.put, List.setIfInBounds_toArray, List.set_cons_zero, List.set_cons_succ]
        obtain ⟨v0, st, W5, e5, g5, z5, W6, e6, g6, z6, hk6⟩ := HR4.out.km.enter (c := Cal.new x k) HX.out.1 HX.out.2 hlm HP.out
        have hmr := HR4.out.hm
        have hlr := HR4.out.hl
        have hmn := HR4.out.ne
        have hrz := HR4.out.size
        have hxz := block_lt HK4.out
        have d5 := (fun h0 => (⟨(cell_grown g5 (by show r < _; omega) (by show r ≠ m; omega)).trans h0.1, (cell_grown g5 (by show r < _; omega) (by show r ≠ m; omega)).trans h0.2.1, (cell_grown g5 (by show r < _; omega) (by show r ≠ m; omega)).trans h0.2.2.1, (cell_grown g5 (by show xb < _; omega) (by show xb ≠ m; omega)).trans h0.2.2.2.1, (cell_grown g5 (by show xb < _; omega) (by show xb ≠ m; omega)).trans h0.2.2.2.2⟩ : _ ∧ _ ∧ _ ∧ _ ∧ _)) c5
        refine wpAnyH_ready (rs := [21]) (by kernel_rfl) (by simp) ?_
        refine (AllReadyH.cons (o := { dst := some 58, op := _, type := _, pos := _, after := _, guard := _ }) rfl (fun K hK => ?_) AllReadyH.nil)
        refine step_entry rfl (.tmp 40) (.tmp 41) 44 rfl rfl rfl e5 ?_
        refine hK.out _ _ d5 (fun _ => ?_)
        clear hK K
        try simp only [Act.put, List.setIfInBounds_toArray, List.set_cons_zero, List.set_cons_succ]
        refine wpAnyH_take (i := 22) (oi := { dst := some 59, op := _, type := _, pos := _, after := _, guard := _ }) (v := .int .i64 st) rfl (by kernel_rfl) (by kernel_rfl) (by kernel_rfl) (fun _ _ _ h => h) (Or.inl ⟨by rfl, fun wk hk => by obtain ⟨a0, a1, a2, a3, a4⟩ := hk; go_simp⟩) d5 ?_
        simp only [Act.put, List.setIfInBounds_toArray, List.set_cons_zero, List.set_cons_succ]
        have d6 := (fun h0 => (⟨(cell_grown g6 (by show r < _; omega) (by show r ≠ m; omega)).trans h0.1, (cell_grown g6 (by show r < _; omega) (by show r ≠ m; omega)).trans h0.2.1, (cell_grown g6 (by show r < _; omega) (by show r ≠ m; omega)).trans h0.2.2.1, (cell_grown g6 (by show xb < _; omega) (by show xb ≠ m; omega)).trans h0.2.2.2.1, (cell_grown g6 (by show xb < _; omega) (by show xb ≠ m; omega)).trans h0.2.2.2.2⟩ : _ ∧ _ ∧ _ ∧ _ ∧ _)) c5
        refine wpAnyH_ready (rs := [23]) (by kernel_rfl) (by simp) ?_
        refine (AllReadyH.cons (o := { dst := none, op := _, type := _, pos := _, after := _, guard := _ }) rfl (fun K hK => ?_) AllReadyH.nil)
        refine step_estore rfl (.tmp 40) (.tmp 59) (.tmp 52) 44 rfl rfl rfl rfl e6 ?_
        refine hK.out _ _ d6 (fun _ => ?_)
        clear hK K
        try simp only [Act.put, List.setIfInBounds_toArray, List.set_cons_zero, List.set_cons_succ]
        have hl6 := HR4.out.lm.kept g6 (by intro e; injection e with e; omega)
        have hw6 := HR4.out.row.kept g6 (by rcases ho : (Value.slice A out.length cp).ownBlock with _ | q; exact .inl rfl; have := (HR4.out.row.lt q ho).1; exact .inr (by intro e; injection e with e; omega))
        have hx6 := (g6.block r (by omega) (by intro e; injection e with e; omega)).trans HR4.out.bx
        have hk66 := (g6.block xb (by omega) (by intro e; injection e with e; omega)).trans HK4.out
        have HB6 : Hid (Mod m l r (.slice A out.length cp) W W6) := Lib.hid (HB4.out.grown g6 (by omega) (fun q e => by injection e with e; exact ⟨by omega, .inl e.symm⟩))
        have HK6 := Lib.hid hk66
        have HKM := Lib.hid hk6
        clear hk66 hk6 e5 e6 d5 g5 z5 c5 HB4
        obtain ⟨v1, st1, W7, e7, g7, z7, W8, e8, g8, z8, hl8⟩ := hl6.enter (c := Cal.new x k) HX.out.1 hlm
        have d7 := (fun h0 => (⟨(cell_grown g7 (by show r < _; omega) (by show r ≠ l; omega)).trans h0.1, (cell_grown g7 (by show r < _; omega) (by show r ≠ l; omega)).trans h0.2.1, (cell_grown g7 (by show r < _; omega) (by show r ≠ l; omega)).trans h0.2.2.1, (cell_grown g7 (by show xb < _; omega) (by show xb ≠ l; omega)).trans h0.2.2.2.1, (cell_grown g7 (by show xb < _; omega) (by show xb ≠ l; omega)).trans h0.2.2.2.2⟩ : _ ∧ _ ∧ _ ∧ _ ∧ _)) d6
        refine wpAnyH_ready (rs := [24]) (by kernel_rfl) (by simp) ?_
        refine (AllReadyH.cons (o := { dst := some 60, op := _, type := _, pos := _, after := _, guard := _ }) rfl (fun K hK => ?_) AllReadyH.nil)
        refine step_entry rfl (.tmp 45) (.tmp 47) 45 rfl rfl rfl e7 ?_
        refine hK.out _ _ d7 (fun _ => ?_)
        clear hK K
        try simp only [Act.put, List.setIfInBounds_toArray, List.set_cons_zero, List.set_cons_succ]
        refine wpAnyH_take (i := 25) (oi := { dst := some 61, op := _, type := _, pos := _, after := _, guard := _ }) (v := .int .i64 st1) rfl (by kernel_rfl) (by kernel_rfl) (by kernel_rfl) (fun _ _ _ h => h) (Or.inl ⟨by rfl, fun wk hk => by obtain ⟨a0, a1, a2, a3, a4⟩ := hk; go_simp⟩) d7 ?_
        simp only [Act.put, List.setIfInBounds_toArray, List.set_cons_zero, List.set_cons_succ]
        have d8 := (fun h0 => (⟨(cell_grown g8 (by show r < _; omega) (by show r ≠ l; omega)).trans h0.1, (cell_grown g8 (by show r < _; omega) (by show r ≠ l; omega)).trans h0.2.1, (cell_grown g8 (by show r < _; omega) (by show r ≠ l; omega)).trans h0.2.2.1, (cell_grown g8 (by show xb < _; omega) (by show xb ≠ l; omega)).trans h0.2.2.2.1, (cell_grown g8 (by show xb < _; omega) (by show xb ≠ l; omega)).trans h0.2.2.2.2⟩ : _ ∧ _ ∧ _ ∧ _ ∧ _)) d6
        refine wpAnyH_ready (rs := [26]) (by kernel_rfl) (by simp) ?_
        refine (AllReadyH.cons (o := { dst := none, op := _, type := _, pos := _, after := _, guard := _ }) rfl (fun K hK => ?_) AllReadyH.nil)
        refine step_estore rfl (.tmp 45) (.tmp 61) (.tmp 57) 45 rfl rfl rfl rfl e8 ?_
        refine hK.out _ _ d8 (fun _ => ?_)
        clear hK K
        try simp only [Act.put, List.setIfInBounds_toArray, List.set_cons_zero, List.set_cons_succ]
        have hw8 := hw6.kept g8 (by rcases ho : (Value.slice A out.length cp).ownBlock with _ | q; exact .inl rfl; have := (hw6.lt q ho).1; exact .inr (by intro e; injection e with e; omega))
        have hx8 := (g8.block r (by omega) (by intro e; injection e with e; omega)).trans hx6
        have hk8 := (g8.block xb (by omega) (by intro e; injection e with e; omega)).trans HK6.out
        have km8 := HKM.out.kept g8 (by intro e; injection e with e; omega)
        have HB8 : Hid (Mod m l r (.slice A out.length cp) W W8) := Lib.hid (HB6.out.grown g8 (by omega) (fun q e => by injection e with e; exact ⟨by omega, .inr (.inl e.symm)⟩))
        clear e7 e8 d7 d6 g7 z7 hw6 hx6 hl6 HB6 HK6 HKM g6 g8 d8 hW4 HR4 HK4
        refine wpAnyH_done (by kernel_rfl) ?_ _
        have c9 : W8.drew.cell? ⟨r, 0, none⟩ = some (.slice A out.length cp) ∧ W8.drew.cell? ⟨xb, 0, none⟩ = some (.int .i64 x.thread) ∧ W8.drew.cell? ⟨xb, 1, none⟩ = some (.int .i64 x.op) := ⟨by rw [block_cell (w := W8.drew) hx8]; rfl, by rw [block_cell (w := W8.drew) hk8]; rfl, by rw [block_cell (w := W8.drew) hk8]; rfl⟩
        have g9 := drew_grown W8
        have HW9 := Lib.hid (hw8.kept0 g9)
        have HX9 : Hid (W8.drew.heap[r]? = _) := Lib.hid hx8
        have HKX : Hid (W8.drew.heap[xb]? = some (.cells #[.int .i64 x.thread, .int .i64 x.op] 60 (0, 0))) := Lib.hid hk8
        have HM9 := Lib.hid (km8.kept g9 (by simp))
        have HL9 := Lib.hid (hl8.kept g9 (by simp))
        have HB9 := Lib.hid (HB8.out.drew (by have := block_lt hx8; omega))
        have hxz9 : xb < W8.drew.heap.size := block_lt (w := W8.drew) hk8
        have hrz9 : r < W8.drew.heap.size := block_lt (w := W8.drew) hx8
        clear hw8 hx8 hk8 km8 hl8 HB8 g9
        go_wp2_with fail
        refine wp_region_held_drew (S := fun wk => wk.cell? ⟨xb, 0, none⟩ = some (.int .i64 x.thread) ∧ wk.cell? ⟨xb, 1, none⟩ = some (.int .i64 x.op)) (by kernel_rfl) c9.2 (fun c9' => ?_)
        clear c9'
        try simp only [Act.put, List.setIfInBounds_toArray, List.set_cons_zero, List.set_cons_succ]
        obtain ⟨W9, hW9⟩ : ∃ W9, W8.drew = W9 := ⟨_, rfl⟩
        rw [hW9] at HKX HW9 HX9 HM9 HL9 HB9 hxz9 hrz9 c9 ⊢
        clear hW9
        obtain ⟨c0, c9⟩ := c9
        refine wpAnyH_take (i := 0) (oi := { dst := some 62, op := _, type := _, pos := _, after := _, guard := _ }) (v := .pointer (some ⟨r, 0, none⟩)) rfl (by kernel_rfl) (by kernel_rfl) (by kernel_rfl) (fun _ _ _ h => h) (Or.inl ⟨by rfl, fun wk hk => by obtain ⟨a1, a2⟩ := hk; go_simp⟩) c9 ?_
        simp only [Act.put, List.setIfInBounds_toArray, List.set_cons_zero, List.set_cons_succ]
        refine wpAnyH_take (i := 1) (oi := { dst := some 63, op := _, type := _, pos := _, after := _, guard := _ }) (v := .pointer (some ⟨r, 0, none⟩)) rfl (by kernel_rfl) (by kernel_rfl) (by kernel_rfl) (fun _ _ _ h => h) (Or.inl ⟨by rfl, fun wk hk => by obtain ⟨a1, a2⟩ := hk; go_simp⟩) c9 ?_
        simp only [Act.put, List.setIfInBounds_toArray, List.set_cons_zero, List.set_cons_succ]
        refine wpAnyH_take (i := 2) (oi := { dst := some 64, op := _, type := _, pos := _, after := _, guard := _ }) (v := .pointer (some ⟨r, 0, none⟩)) rfl (by kernel_rfl) (by kernel_rfl) (by kernel_rfl) (fun _ _ _ h => h) (Or.inl ⟨by rfl, fun wk hk => by obtain ⟨a1, a2⟩ := hk; go_simp⟩) c9 ?_
        simp only [Act.put, List.setIfInBounds_toArray, List.set_cons_zero, List.set_cons_succ]
        refine wpAnyH_take (i := 3) (oi := { dst := some 65, op := _, type := _, pos := _, after := _, guard := _ }) (v := .pointer (some ⟨r, 0, none⟩)) rfl (by kernel_rfl) (by kernel_rfl) (by kernel_rfl) (fun _ _ _ h => h) (Or.inl ⟨by rfl, fun wk hk => by obtain ⟨a1, a2⟩ := hk; go_simp⟩) c9 ?_
        simp only [Act.put, List.setIfInBounds_toArray, List.set_cons_zero, List.set_cons_succ]
        refine wpAnyH_take (i := 5) (oi := { dst := some 67, op := _, type := _, pos := _, after := _, guard := _ }) (v := .pointer (some ⟨xb, 0, none⟩)) rfl (by kernel_rfl) (by kernel_rfl) (by kernel_rfl) (fun _ _ _ h => h) (Or.inl ⟨by rfl, fun wk hk => by obtain ⟨a1, a2⟩ := hk; go_simp⟩) c9 ?_
        simp only [Act.put, List.setIfInBounds_toArray, List.set_cons_zero, List.set_cons_succ]
        refine wpAnyH_take (i := 6) (oi := { dst := some 68, op := _, type := _, pos := _, after := _, guard := _ }) (v := .int .i64 x.thread) rfl (by kernel_rfl) (by kernel_rfl) (by kernel_rfl) (fun _ _ _ h => h) (Or.inl ⟨by rfl, fun wk hk => by obtain ⟨a1, a2⟩ := hk; go_simp⟩) c9 ?_
        simp only [Act.put, List.setIfInBounds_toArray, List.set_cons_zero, List.set_cons_succ]
        refine wpAnyH_take (i := 7) (oi := { dst := some 69, op := _, type := _, pos := _, after := _, guard := _ }) (v := .pointer (some ⟨xb, 1, none⟩)) rfl (by kernel_rfl) (by kernel_rfl) (by kernel_rfl) (fun _ _ _ h => h) (Or.inl ⟨by rfl, fun wk hk => by obtain ⟨a1, a2⟩ := hk; go_simp⟩) c9 ?_
        simp only [Act.put, List.setIfInBounds_toArray, List.set_cons_zero, List.set_cons_succ]
        refine wpAnyH_take (i := 8) (oi := { dst := some 70, op := _, type := _, pos := _, after := _, guard := _ }) (v := .int .i64 x.op) rfl (by kernel_rfl) (by kernel_rfl) (by kernel_rfl) (fun _ _ _ h => h) (Or.inl ⟨by rfl, fun wk hk => by obtain ⟨a1, a2⟩ := hk; go_simp⟩) c9 ?_
        simp only [Act.put, List.setIfInBounds_toArray, List.set_cons_zero, List.set_cons_succ]
        refine wpAnyH_take (i := 9) (oi := { dst := some 71, op := _, type := _, pos := _, after := _, guard := _ }) (v := .int .i64 (k : Int)) rfl (by kernel_rfl) (by kernel_rfl) (by kernel_rfl) (fun _ _ _ h => h) (Or.inl ⟨by rfl, fun wk hk => by obtain ⟨a1, a2⟩ := hk; go_simp⟩) c9 ?_
        simp only [Act.put, List.setIfInBounds_toArray, List.set_cons_zero, List.set_cons_succ]
        refine wpAnyH_take (i := 10) (oi := { dst := some 72, op := _, type := _, pos := _, after := _, guard := _ }) (v := .agg #[.int .i64 x.thread, .int .i64 x.op, .int .i64 (k : Int), .int .i64 (-1), .int .i64 (-1), .int .i64 0, .int .i64 0, .int .i64 0, .int .i64 0, .int .i64 0, .int .i64 0, .int .i64 0, .int .u64 0, .int .u64 0, .int .u64 0, .int .u64 0, .int .u64 0, .int .u64 0]) rfl (by kernel_rfl) (by kernel_rfl) (by kernel_rfl) (fun _ _ _ h => h) (Or.inl ⟨by rfl, fun wk hk => by obtain ⟨a1, a2⟩ := hk; go_simp⟩) c9 ?_
        simp only [Act.put, List.setIfInBounds_toArray, List.set_cons_zero, List.set_cons_succ]
        have g10 := World.grownBy_alloc W9 (.cells #[.int .i64 x.thread, .int .i64 x.op, .int .i64 (k : Int), .int .i64 (-1), .int .i64 (-1), .int .i64 0, .int .i64 0, .int .i64 0, .int .i64 0, .int .i64 0, .int .i64 0, .int .i64 0, .int .u64 0, .int .u64 0, .int .u64 0, .int .u64 0, .int .u64 0, .int .u64 0] 40) none
        obtain ⟨W10, hW10⟩ : ∃ W10, W9.alloc (.cells #[.int .i64 x.thread, .int .i64 x.op, .int .i64 (k : Int), .int .i64 (-1), .int .i64 (-1), .int .i64 0, .int .i64 0, .int .i64 0, .int .i64 0, .int .i64 0, .int .i64 0, .int .i64 0, .int .u64 0, .int .u64 0, .int .u64 0, .int .u64 0, .int .u64 0, .int .u64 0] 40) = W10 := ⟨_, rfl⟩
        rw [hW10] at g10
        have d0 : W10.cell? ⟨r, 0, none⟩ = some (.slice A out.length cp) := (World.cell?_of_block (g10.block r (by omega) (by simp))).trans c0
        have c10 := (fun h0 => (⟨(World.cell?_of_block (g10.block xb (by omega) (by simp))).trans h0.1, (World.cell?_of_block (g10.block xb (by omega) (by simp))).trans h0.2⟩ : _ ∧ _)) c9
        have HW10 := Lib.hid hW10
        clear hW10 g10
        refine wpAnyH_ready (rs := [4, 11]) (by kernel_rfl) (by simp) ?_
        refine (AllReadyH.cons (o := { dst := some 66, op := _, type := _, pos := _, after := _, guard := _ }) rfl (fun K hK => ?_) (AllReadyH.cons (o := { dst := some 73, op := _, type := _, pos := _, after := _, guard := _ }) rfl (fun K hK => ?_) AllReadyH.nil))
        · skip
          go_simp
          refine hK.out _ _ c9 (fun _ => ?_)
          clear hK K
          try simp only [Act.put, List.setIfInBounds_toArray, List.set_cons_zero, List.set_cons_succ]
          refine wpAnyH_ready (rs := [11]) (by kernel_rfl) (by simp) ?_
          refine (AllReadyH.cons (o := { dst := some 73, op := _, type := _, pos := _, after := _, guard := _ }) rfl (fun K hK => ?_) AllReadyH.nil)
          clear d0
          have hW10 := HW10.out
          go_simp
          try rw [hW10]
          refine hK.out _ _ c10 (fun _ => ?_)
          clear hK K
          try simp only [Act.put, List.setIfInBounds_toArray, List.set_cons_zero, List.set_cons_succ]
          clear c0 c10
          rw [← hW10]
          clear hW10 HW10
          refine wpAnyH_ready (rs := [12]) (by kernel_rfl) (by simp) ?_
          refine (AllReadyH.cons (o := { dst := some 74, op := _, type := _, pos := _, after := _, guard := _ }) rfl (fun K hK => ?_) AllReadyH.nil)
          refine step_append_oneN rfl (.tmp 66) (.tmp 73) 23 rfl ic _ 144 Try.underlying23 IC.out rfl (by omega) rfl W9 (Cal.new x k).cells rfl HNEW.out HW9.out rfl (by rw [List.length_map]; omega) (by rw [List.length_map]; omega) (by omega) ?_
          intro v' W11 ho hg
          have hgr : some r ≠ (Value.slice A out.length cp).ownBlock := (HW9.out.apart HX9.out (by decide)).symm
          have hgx : some xb ≠ (Value.slice A out.length cp).ownBlock := (HW9.out.apart HKX.out (by decide)).symm
          have c11 := (fun h0 => (⟨(World.cell?_of_block (hg.block xb (by omega) (by exact hgx))).trans h0.1, (World.cell?_of_block (hg.block xb (by omega) (by exact hgx))).trans h0.2⟩ : _ ∧ _)) c9
          refine hK.out _ _ c11 (fun _ => ?_)
          clear hK K
          try simp only [Act.put, List.setIfInBounds_toArray, List.set_cons_zero, List.set_cons_succ]
          refine wpAnyH_take (i := 13) (oi := { dst := some 75, op := _, type := _, pos := _, after := _, guard := _ }) (v := .pointer (some ⟨r, 0, none⟩)) rfl (by kernel_rfl) (by kernel_rfl) (by kernel_rfl) (fun _ _ _ h => h) (Or.inl ⟨by rfl, fun wk hk => by obtain ⟨a1, a2⟩ := hk; go_simp⟩) c11 ?_
          simp only [Act.put, List.setIfInBounds_toArray, List.set_cons_zero, List.set_cons_succ]
          refine wpAnyH_take (i := 14) (oi := { dst := some 76, op := _, type := _, pos := _, after := _, guard := _ }) (v := .pointer (some ⟨r, 0, none⟩)) rfl (by kernel_rfl) (by kernel_rfl) (by kernel_rfl) (fun _ _ _ h => h) (Or.inl ⟨by rfl, fun wk hk => by obtain ⟨a1, a2⟩ := hk; go_simp⟩) c11 ?_
          simp only [Act.put, List.setIfInBounds_toArray, List.set_cons_zero, List.set_cons_succ]
          have hx11 := (hg.block r (by omega) hgr).trans HX9.out
          have z0 : W11.frozen? ⟨r, 0, none⟩ = false := block_free hx11 _
          have c0 : W11.cell? ⟨r, 0, none⟩ = some (.slice A out.length cp) := by rw [block_cell hx11]; rfl
          have hrow : ∀ q, v'.ownBlock = some q → r + 1 ≤ q := fun q e => (ho.lt q e).1
          have hg1 := grown_setCell W11 r 0 v'
          have km11 := (HM9.out.kept hg (by intro e; have := (HW9.out.lt m e.symm).1; omega)).kept hg1 (by intro e; injection e with e; omega)
          have lm11 := (HL9.out.kept hg (by intro e; have := (HW9.out.lt l e.symm).1; omega)).kept hg1 (by intro e; injection e with e; omega)
          have hw11 := ho.kept hg1 (by rcases hq : v'.ownBlock with _ | q; exact .inl rfl; have := hrow q hq; exact .inr (by intro e; injection e with e; omega))
          have hB11 : Mod m l r (.slice A out.length cp) W W11 := HB9.out.grown hg (by omega) (fun q e => by have := (HW9.out.lt q e).1; exact ⟨by omega, .inr (.inr (.inr e))⟩)
          have hB12 : Mod m l r (.slice A out.length cp) W (W11.setCell ⟨r, 0, none⟩ v') := hB11.grown hg1 (by have := hg.size; omega) (fun q e => by injection e with e; exact ⟨by omega, .inr (.inr (.inl e.symm))⟩)
          have hbx := block_setCell (o := 0) hx11 v'
          have HFIN : Hid (BegunE m l r (.slice A out.length cp) W x k out (.returned (.bool true)) (W11.setCell ⟨r, 0, none⟩ v')) := Lib.hid (by unfold BegunE; rw [if_pos ⟨HP.out, HO.out⟩]; exact ⟨⟨rfl, v', ⟨hbx, by rw [List.map_append]; exact hw11, km11, lm11, hmr, hlr, hmn⟩⟩, hB12⟩)
          have c12 := (fun h0 => (⟨(World.cell?_setCell_far W11 ⟨r, 0, none⟩ ⟨xb, 0, none⟩ v' (by show r ≠ xb; omega)).trans h0.1, (World.cell?_setCell_far W11 ⟨r, 0, none⟩ ⟨xb, 1, none⟩ v' (by show r ≠ xb; omega)).trans h0.2⟩ : _ ∧ _)) c11
          obtain ⟨A', c', hv', _⟩ := ho.slice
          subst hv'
          clear hx11 hrow hg1 km11 lm11 hw11 hB11 hB12 hbx c11 ho hg hgr hgx c9
          refine wpAnyH_ready (rs := [15]) (by kernel_rfl) (by simp) ?_
          refine (AllReadyH.cons (o := { dst := none, op := _, type := _, pos := _, after := _, guard := _ }) rfl (fun K hK => ?_) AllReadyH.nil)
          go_simp
          refine hK.out _ _ (by simpa using c12) (fun _ => ?_)
          clear hK K
          try simp only [Act.put, List.setIfInBounds_toArray, List.set_cons_zero, List.set_cons_succ]
          refine wpAnyH_done (by kernel_rfl) ?_ _
          clear c0 c12 z0
          go_wp2_with fail
          go_ret
          simpa using HFIN.out
        · skip
          have hW10 := HW10.out
          go_simp
          try rw [hW10]
          refine hK.out _ _ c10 (fun _ => ?_)
          clear hK K
          try simp only [Act.put, List.setIfInBounds_toArray, List.set_cons_zero, List.set_cons_succ]
          clear hW10 c0
          refine wpAnyH_ready (rs := [4]) (by kernel_rfl) (by simp) ?_
          refine (AllReadyH.cons (o := { dst := some 66, op := _, type := _, pos := _, after := _, guard := _ }) rfl (fun K hK => ?_) AllReadyH.nil)
          go_simp
          refine hK.out _ _ c10 (fun _ => ?_)
          clear hK K
          try simp only [Act.put, List.setIfInBounds_toArray, List.set_cons_zero, List.set_cons_succ]
          clear d0 c10
          rw [← HW10.out]
          clear HW10
          refine wpAnyH_ready (rs := [12]) (by kernel_rfl) (by simp) ?_
          refine (AllReadyH.cons (o := { dst := some 74, op := _, type := _, pos := _, after := _, guard := _ }) rfl (fun K hK => ?_) AllReadyH.nil)
          refine step_append_oneN rfl (.tmp 66) (.tmp 73) 23 rfl ic _ 144 Try.underlying23 IC.out rfl (by omega) rfl W9 (Cal.new x k).cells rfl HNEW.out HW9.out rfl (by rw [List.length_map]; omega) (by rw [List.length_map]; omega) (by omega) ?_
          intro v' W11 ho hg
          have hgr : some r ≠ (Value.slice A out.length cp).ownBlock := (HW9.out.apart HX9.out (by decide)).symm
          have hgx : some xb ≠ (Value.slice A out.length cp).ownBlock := (HW9.out.apart HKX.out (by decide)).symm
          have c11 := (fun h0 => (⟨(World.cell?_of_block (hg.block xb (by omega) (by exact hgx))).trans h0.1, (World.cell?_of_block (hg.block xb (by omega) (by exact hgx))).trans h0.2⟩ : _ ∧ _)) c9
          refine hK.out _ _ c11 (fun _ => ?_)
          clear hK K
          try simp only [Act.put, List.setIfInBounds_toArray, List.set_cons_zero, List.set_cons_succ]
          refine wpAnyH_take (i := 13) (oi := { dst := some 75, op := _, type := _, pos := _, after := _, guard := _ }) (v := .pointer (some ⟨r, 0, none⟩)) rfl (by kernel_rfl) (by kernel_rfl) (by kernel_rfl) (fun _ _ _ h => h) (Or.inl ⟨by rfl, fun wk hk => by obtain ⟨a1, a2⟩ := hk; go_simp⟩) c11 ?_
          simp only [Act.put, List.setIfInBounds_toArray, List.set_cons_zero, List.set_cons_succ]
          refine wpAnyH_take (i := 14) (oi := { dst := some 76, op := _, type := _, pos := _, after := _, guard := _ }) (v := .pointer (some ⟨r, 0, none⟩)) rfl (by kernel_rfl) (by kernel_rfl) (by kernel_rfl) (fun _ _ _ h => h) (Or.inl ⟨by rfl, fun wk hk => by obtain ⟨a1, a2⟩ := hk; go_simp⟩) c11 ?_
          simp only [Act.put, List.setIfInBounds_toArray, List.set_cons_zero, List.set_cons_succ]
          have hx11 := (hg.block r (by omega) hgr).trans HX9.out
          have z0 : W11.frozen? ⟨r, 0, none⟩ = false := block_free hx11 _
          have c0 : W11.cell? ⟨r, 0, none⟩ = some (.slice A out.length cp) := by rw [block_cell hx11]; rfl
          have hrow : ∀ q, v'.ownBlock = some q → r + 1 ≤ q := fun q e => (ho.lt q e).1
          have hg1 := grown_setCell W11 r 0 v'
          have km11 := (HM9.out.kept hg (by intro e; have := (HW9.out.lt m e.symm).1; omega)).kept hg1 (by intro e; injection e with e; omega)
          have lm11 := (HL9.out.kept hg (by intro e; have := (HW9.out.lt l e.symm).1; omega)).kept hg1 (by intro e; injection e with e; omega)
          have hw11 := ho.kept hg1 (by rcases hq : v'.ownBlock with _ | q; exact .inl rfl; have := hrow q hq; exact .inr (by intro e; injection e with e; omega))
          have hB11 : Mod m l r (.slice A out.length cp) W W11 := HB9.out.grown hg (by omega) (fun q e => by have := (HW9.out.lt q e).1; exact ⟨by omega, .inr (.inr (.inr e))⟩)
          have hB12 : Mod m l r (.slice A out.length cp) W (W11.setCell ⟨r, 0, none⟩ v') := hB11.grown hg1 (by have := hg.size; omega) (fun q e => by injection e with e; exact ⟨by omega, .inr (.inr (.inl e.symm))⟩)
          have hbx := block_setCell (o := 0) hx11 v'
          have HFIN : Hid (BegunE m l r (.slice A out.length cp) W x k out (.returned (.bool true)) (W11.setCell ⟨r, 0, none⟩ v')) := Lib.hid (by unfold BegunE; rw [if_pos ⟨HP.out, HO.out⟩]; exact ⟨⟨rfl, v', ⟨hbx, by rw [List.map_append]; exact hw11, km11, lm11, hmr, hlr, hmn⟩⟩, hB12⟩)
          have c12 := (fun h0 => (⟨(World.cell?_setCell_far W11 ⟨r, 0, none⟩ ⟨xb, 0, none⟩ v' (by show r ≠ xb; omega)).trans h0.1, (World.cell?_setCell_far W11 ⟨r, 0, none⟩ ⟨xb, 1, none⟩ v' (by show r ≠ xb; omega)).trans h0.2⟩ : _ ∧ _)) c11
          obtain ⟨A', c', hv', _⟩ := ho.slice
          subst hv'
          clear hx11 hrow hg1 km11 lm11 hw11 hB11 hB12 hbx c11 ho hg hgr hgx c9
          refine wpAnyH_ready (rs := [15]) (by kernel_rfl) (by simp) ?_
          refine (AllReadyH.cons (o := { dst := none, op := _, type := _, pos := _, after := _, guard := _ }) rfl (fun K hK => ?_) AllReadyH.nil)
          go_simp
          refine hK.out _ _ (by simpa using c12) (fun _ => ?_)
          clear hK K
          try simp only [Act.put, List.setIfInBounds_toArray, List.set_cons_zero, List.set_cons_succ]
          refine wpAnyH_done (by kernel_rfl) ?_ _
          clear c0 c12 z0
          go_wp2_with fail
          go_ret
          simpa using HFIN.out
  · have HE : Hid (¬ (placeO out x.thread x.op = none ∧ out.any (openB x.thread) = false)) := Lib.hid (by rw [hp]; simp)
    clear hp
    have HB2 := Lib.hid hB2
    clear hr2 hb2 hB2
    go_wp2_with fail
    go_ret
    unfold BegunE
    rw [if_neg HE.out]
    exact ⟨rfl, HB2.out⟩
end Go.Proofs.Ytglnofdncglmnaa
