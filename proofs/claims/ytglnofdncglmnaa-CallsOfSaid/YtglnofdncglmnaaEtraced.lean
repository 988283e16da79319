/- The law's own trace of layer 10: the walk of traced, over what the program's three calls say. -/
import Derived.Test.YtglnofdncglmnaaEwords
import Derived.ArgAppend
import Derived.Deep.RegionHeld3
namespace Go.Proofs.Ytglnofdncglmnaa
open Go.RowKit
set_option linter.unusedVariables false
set_option linter.unusedSimpArgs false
set_option maxRecDepth 100000

def cP (t o f p to k : Int) : Cal := ⟨t, o, f, p, to, ⟨k, 0, 0, 0, 0, 0, 0, 0, 0, 0, 0, 0, 0⟩⟩
def lc0 : List Cal := [cP 1 0 0 3 (-1) 0, cP 0 0 1 1 2 4]
def lP3 (e : Ev) : List Ev := [eP 1 true false false 0 0, eP 0 true true false 0 0, eP 0 false false true 4 0, e]
def lm0 : List Cal := [cP 1 0 0 (-1) (-1) 0, cP 0 0 1 1 2 4, cP 0 1 3 (-1) 3 0]
theorem t_1 : ofL lP = some lc0 := by kernel_rfl
theorem t_2 : ofL (lP.drop 1) = none := by kernel_rfl
theorem t_3 : ofL (lP3 (eP 0 true false false 0 0)) = none := by kernel_rfl
theorem t_4 : ofL (lP3 (eP 0 true false true 0 1)) = some lm0 := by kernel_rfl
theorem t_5 : aheadB (cP 0 0 1 1 2 4) (cP 0 1 3 (-1) 3 0) = true := by kernel_rfl
theorem t_6 : aheadB (cP 1 0 0 (-1) (-1) 0) (cP 0 1 3 (-1) 3 0) = false := by kernel_rfl
theorem t_7 : natI (orderI lc0) = [1, 0] := by kernel_rfl
theorem t_8 : natI (orderI []) = [] := by kernel_rfl

/-- Rows of structs, from an element of theirs on. -/
theorem RowsN.drop {m : Nat} {w : World} {B : Nat} {ad : Addr} {rs : List (List Value)} (h : RowsN m w B (some ad) rs) (i : Nat) : RowsN m w B (some (ad.add (i * m))) (rs.drop i) := fun hn => by
  obtain ⟨ad', e, hb, hc⟩ := h (by rw [List.length_drop] at hn; omega)
  cases e
  refine ⟨_, rfl, by rw [block_of_add]; exact hb, fun k r hr j v hv => ?_⟩
  rw [List.getElem?_drop] at hr
  rw [Addr.add_add, show i * m + (k * m + j) = (i + k) * m + j by rw [Nat.add_mul]; omega]
  exact hc _ r hr j v hv
theorem evs_len (e : Ev) : e.cells.length = 23 := rfl
theorem evs_len' (l : List Ev) : ∀ r ∈ l.map Ev.cells, r.length = 23 := fun r hr => by
  obtain ⟨e, _, rfl⟩ := List.mem_map.1 hr
  rfl
theorem evs_block {W : World} {n : Nat} {l : List Ev} {t : TypeId} (h : W.heap[n]? = some (.cells (l.map Ev.cells).flatten.toArray t (0, 0))) (hl : l.length ≤ 1000) (hv : ∀ e ∈ l, e.wf) : EvsIn W (some ⟨n, 0, none⟩) l.length l :=
  ⟨rowsN_block (evs_len' l) h, Nat.le_refl _, by unfold maxLen; omega, hv⟩
theorem EvsIn.drop {w : World} {ad : Addr} {c : Nat} {l : List Ev} (h : EvsIn w (some ad) c l) (i : Nat) : EvsIn w (some (ad.add (i * 23))) (c - i) (l.drop i) :=
  ⟨by rw [List.map_drop]; exact h.r.drop i, by rw [List.length_drop]; have := h.lc; omega, by have := h.cm; omega, fun e he => h.v e (List.mem_of_mem_drop he)⟩
theorem wf_lP : ∀ e ∈ lP, e.wf := by
  simp [lP, Ev.wf, eP, I64]
theorem ev_info : (Try.prog.info? 43).map (fun i => (i.zero, i.size, i.bytes)) = some (some (.agg (eP 0 false false false 0 0).cells.toArray), 23, 168) := by kernel_rfl

theorem RowsN.flat {m : Nat} {w : World} {B : Nat} {ad : Addr} {rs : List (List Value)} (h : RowsN m w B (some ad) rs) (hm : ∀ r ∈ rs, r.length = m) (h0 : 0 < m) : ∀ j u, rs.flatten[j]? = some u → w.cell? (ad.add j) = some u := by
  intro j u hu
  have hj := (List.getElem?_eq_some_iff.1 hu).1
  rw [lenN hm] at hj
  have hi : j / m < rs.length := (Nat.div_lt_iff_lt_mul h0).2 hj
  have hr := Nat.mod_lt j h0
  have hd : j / m * m + j % m = j := by rw [Nat.mul_comm]; exact Nat.div_add_mod j m
  obtain ⟨ad', e, _, hc⟩ := h (Nat.lt_of_le_of_lt (Nat.zero_le _) hi)
  cases e
  have hf := flatN hm (List.getElem?_eq_getElem hi) hr
  rw [hd, hu] at hf
  rw [← hd]
  exact hc _ _ (List.getElem?_eq_getElem hi) _ _ hf.symm
theorem ev_one (e : Ev) : ∀ u ∈ e.cells, u.oneCell' = true := fun u hu => List.all_eq_true.1 (show e.cells.all (·.oneCell') = true from rfl) u hu
theorem told_some {w w' : World} {c : List Cal} {e : Ending} {n : Nat} (h : Told10 w (some c) e w') (hn : c.length = n) : ∃ A cap, e = .returned (.tuple #[.slice A n cap, .int .i64 0]) ∧ CalsIn w' A cap c ∧ Below w.heap.size w w' := by
  obtain ⟨hb, A, cap, rfl, hc⟩ := h
  subst hn
  exact ⟨A, cap, rfl, hc, hb⟩
theorem told_none {w w' : World} {e : Ending} (h : Told10 w none e w') : ∃ A cap, e = .returned (.tuple #[.slice A 0 cap, .int .i64 11]) ∧ Below w.heap.size w w' := by
  obtain ⟨hb, A, cap, rfl, hc⟩ := h
  exact ⟨A, cap, rfl, hb⟩
/-- A fourth event, appended to the first three. -/
theorem more_evs {w' : World} {v : Value} {b : Nat} {x : Ev} (h : w'.ownsRow b 43 23 v 4 ((((lP.take 3).map Ev.cells).flatten) ++ x.cells)) (hx : x.wf) : ∃ A cap, v = .slice A 4 cap ∧ EvsIn w' A cap (lP3 x) := by
  have hr : ((lP.take 3).map Ev.cells).flatten ++ x.cells = ((lP3 x).map Ev.cells).flatten := by simp [lP, lP3]
  rw [hr] at h
  have ho : OwnN 23 43 b w' v ((lP3 x).map Ev.cells) := ⟨evs_len' _, h⟩
  obtain ⟨A, cap, rfl, h1, h2⟩ := ho.slice
  refine ⟨A, cap, rfl, ho.rows, by simpa [lP3] using h1, h2, fun e he => ?_⟩
  simp only [lP3, List.mem_cons, List.not_mem_nil, or_false] at he
  rcases he with rfl | rfl | rfl | rfl
  · simp [Ev.wf, eP, I64]
  · simp [Ev.wf, eP, I64]
  · simp [Ev.wf, eP, I64]
  · exact hx

/-- An operation's run, out of what it comes to. -/
theorem exec_load {P : Program} {a : Act} {w : World} {o : Oper} (x : Operand) (t : TypeId) (ho : o.op = Op.load t x) {p v : Value} (hx : a.eval x = p) (hrun : (Instr.loadAt t p).run P w = .ok v w) : (execOp a.eval o).run P w = .ok (.value v) w := by
  simp [execOp, ho, hx, hrun, Result.andThen]
theorem exec_bin {P : Program} {a : Act} {w : World} {o : Oper} (b : BinOp) (s x : Operand) (t t' : TypeId) (ho : o.op = Op.binOp b t s x t') {vs us r : Value} (hs : a.eval s = vs) (hx : a.eval x = us) (hG : (eqGuard b t s x vs us).run P w = .ok () w) (hrun : (binOp b t vs us).run P w = .ok r w) : (execOp a.eval o).run P w = .ok (.value r) w := by
  simp [execOp, ho, hs, hx, hG, hrun, Result.andThen]
theorem eql_val (c : Cal) (w : World) : (binOp .eql 40 c.val c.val).run Try.prog w = .ok (.bool true) w := eql_same c w

set_option maxHeartbeats 8000000 in
theorem traced_is (K : Words10) (w : World) : Calls Try.prog 10 #[] w (Says w true) := by
  have HK := Lib.hid K
  clear K
  obtain ⟨W, hW⟩ : ∃ W, w.alloc (.cells (lP.map Ev.cells).flatten.toArray 43) = W := ⟨_, rfl⟩
  have hp := plain10_is w
  rw [hW] at hp
  have B0 : Hid (Below w.heap.size w W) := Lib.hid (by rw [← hW]; exact boxed w _)
  have E0 : Hid (EvsIn W (some ⟨w.heap.size, 0, none⟩) 4 lP) := Lib.hid (by rw [← hW]; exact evs_block (one_alloc w _) (by simp [lP]) wf_lP)
  clear hW
  go_enter Try.func10, Try.ntmps10
  go_wp2_with fail
  refine hp.mono ?_
  rintro e W0 ⟨rfl, rfl⟩
  clear hp
  have hq := HK.out.of (some ⟨w.heap.size, 0, none⟩) 4 lP W0 E0.out (by simp [lP])
  rw [t_1] at hq
  go_wp2_with fail
  refine hq.mono ?_
  intro e W1 h1
  obtain ⟨A1, c1, rfl, r1, k1⟩ := told_some (n := 2) h1 rfl
  have B1 := Lib.hid (below_next B0.out k1)
  have E1 := Lib.hid (E0.out.below k1)
  have R1 := Lib.hid r1
  clear hq h1 k1 r1
  have hq := HK.out.of (some ⟨w.heap.size, 23, none⟩) 3 (lP.drop 1) W1 (E1.out.drop 1) (by simp [lP])
  rw [t_2] at hq
  go_wp2_with fail
  refine hq.mono ?_
  intro e W2 h1
  obtain ⟨A2, c2, rfl, k1⟩ := told_none h1
  have B2 := Lib.hid (below_next B1.out k1)
  have E2 := Lib.hid (E1.out.below k1)
  have R2 := Lib.hid (R1.out.below k1)
  clear hq h1 k1
  obtain ⟨iv, hiv, iv0, iv1, iv2⟩ := info_parts ev_info
  have IV := Lib.hid (⟨hiv, iv0, iv1, iv2⟩ : _ ∧ _ ∧ _ ∧ _)
  clear hiv iv0 iv1 iv2
  have k3 := boxed W2 (.cells (eP 0 true false false 0 0).cells.toArray 43)
  have FL3 : Hid (∀ j u, (((lP.take 3).map Ev.cells).flatten)[j]? = some u → (W2.alloc (.cells (eP 0 true false false 0 0).cells.toArray 43)).cell? ((⟨w.heap.size, 0, none⟩ : Addr).add j) = some u) := Lib.hid (RowsN.flat (B := (W2.alloc (.cells (eP 0 true false false 0 0).cells.toArray 43)).heap.size) (by have := (E2.out.below k3).r.take 3; rwa [← List.map_take] at this) (evs_len' _) (by omega))
  have L3 := Lib.hid (lies_box W2 (eP 0 true false false 0 0).cells 43)
  go_wp2_with (at_builtin; refine wpList_append_grows _ rfl (.tmp 24) (.tmp 26) 22 rfl 43 iv _ 23 168 Try.underlying22 IV.out.1 IV.out.2.1 IV.out.2.2.1 IV.out.2.2.2 rfl (by omega) (some ⟨w.heap.size, 0, none⟩) 3 3 (((lP.take 3).map Ev.cells).flatten) rfl (fun h => by cases h) rfl (fun b hb => by cases hb; exact FL3.out) ⟨W2.heap.size, 0, none⟩ 1 1 (eP 0 true false false 0 0).cells rfl rfl L3.out (ev_one _) (by omega) (by simp [maxLen]) (by omega) ?_; intro v3 w3 ho3 hg3; obtain ⟨A3, c3, rfl, e3⟩ := more_evs ho3 (by simp [Ev.wf, eP, I64]))
  have k4 := k3.grown hg3 k3.size (fun k e => by cases e)
  have hq := HK.out.of A3 c3 (lP3 (eP 0 true false false 0 0)) w3 e3 (by simp [lP3])
  rw [t_3] at hq
  clear ho3 hg3 e3 k3 FL3 L3
  go_wp2_with fail
  refine hq.mono ?_
  intro e W3 h1
  obtain ⟨A3, c3, rfl, k1⟩ := told_none h1
  have k5 := below_next k4 k1
  have B3 := Lib.hid (below_next B2.out k5)
  have E3 := Lib.hid (E2.out.below k5)
  have R3 := Lib.hid (R2.out.below k5)
  clear hq h1 k1 k4 k5
  have k3 := boxed W3 (.cells (eP 0 true false true 0 1).cells.toArray 43)
  have FL3 : Hid (∀ j u, (((lP.take 3).map Ev.cells).flatten)[j]? = some u → (W3.alloc (.cells (eP 0 true false true 0 1).cells.toArray 43)).cell? ((⟨w.heap.size, 0, none⟩ : Addr).add j) = some u) := Lib.hid (RowsN.flat (B := (W3.alloc (.cells (eP 0 true false true 0 1).cells.toArray 43)).heap.size) (by have := (E3.out.below k3).r.take 3; rwa [← List.map_take] at this) (evs_len' _) (by omega))
  have L3 := Lib.hid (lies_box W3 (eP 0 true false true 0 1).cells 43)
  go_wp2_with (at_builtin; refine wpList_append_grows _ rfl (.tmp 33) (.tmp 35) 22 rfl 43 iv _ 23 168 Try.underlying22 IV.out.1 IV.out.2.1 IV.out.2.2.1 IV.out.2.2.2 rfl (by omega) (some ⟨w.heap.size, 0, none⟩) 3 3 (((lP.take 3).map Ev.cells).flatten) rfl (fun h => by cases h) rfl (fun b hb => by cases hb; exact FL3.out) ⟨W3.heap.size, 0, none⟩ 1 1 (eP 0 true false true 0 1).cells rfl rfl L3.out (ev_one _) (by omega) (by simp [maxLen]) (by omega) ?_; intro v3 w3 ho3 hg3; obtain ⟨A3, c3, rfl, e3⟩ := more_evs ho3 (by simp [Ev.wf, eP, I64]))
  have k4 := k3.grown hg3 k3.size (fun k e => by cases e)
  have hq := HK.out.of A3 c3 (lP3 (eP 0 true false true 0 1)) w3 e3 (by simp [lP3])
  rw [t_4] at hq
  clear ho3 hg3 e3 k3 FL3 L3
  go_wp2_with fail
  refine hq.mono ?_
  intro e W4 h1
  obtain ⟨A4, c4, rfl, r8, k1⟩ := told_some (n := 3) h1 rfl
  have k5 := below_next k4 k1
  have B4 := Lib.hid (below_next B3.out k5)
  have E4 := Lib.hid (E3.out.below k5)
  have R4 := Lib.hid (R3.out.below k5)
  have M4 := Lib.hid r8
  clear hq h1 k1 k4 k5 r8
  obtain ⟨ad1, rfl, b1, y0⟩ := cal_of (k := 0) R4.out.r (by simp [lc0])
  obtain ⟨_, e1, _, y1⟩ := cal_of (k := 1) R4.out.r (by simp [lc0])
  cases e1
  obtain ⟨ad4, rfl, b4, z0⟩ := cal_of (k := 0) M4.out.r (by simp [lm0])
  obtain ⟨_, e1, _, z1⟩ := cal_of (k := 1) M4.out.r (by simp [lm0])
  cases e1
  obtain ⟨_, e1, _, z2⟩ := cal_of (k := 2) M4.out.r (by simp [lm0])
  cases e1
  have Y0 : Hid (∀ wk, Below W4.heap.size W4 wk → (Instr.loadAt 40 (.pointer (some ad1))).run Try.prog wk = .ok (cP 1 0 0 3 (-1) 0).val wk) := Lib.hid fun wk hk => load_cal (Lies.below (p := ad1) (by have h := y0; rw [Nat.zero_mul, Addr.add_zero'] at h; exact h) (by show (ad1).block < _; exact b1) hk)
  have Y1 : Hid (∀ wk, Below W4.heap.size W4 wk → (Instr.loadAt 40 (.pointer (some (ad1.add 18)))).run Try.prog wk = .ok (cP 0 0 1 1 2 4).val wk) := Lib.hid fun wk hk => load_cal (Lies.below (p := (ad1.add 18)) (by have h := y1; exact h) (by show ((ad1.add 18)).block < _; rw [block_of_add]; exact b1) hk)
  have Z0 : Hid (∀ wk, Below W4.heap.size W4 wk → (Instr.loadAt 40 (.pointer (some ad4))).run Try.prog wk = .ok (cP 1 0 0 (-1) (-1) 0).val wk) := Lib.hid fun wk hk => load_cal (Lies.below (p := ad4) (by have h := z0; rw [Nat.zero_mul, Addr.add_zero'] at h; exact h) (by show (ad4).block < _; exact b4) hk)
  have Z1 : Hid (∀ wk, Below W4.heap.size W4 wk → (Instr.loadAt 40 (.pointer (some (ad4.add 18)))).run Try.prog wk = .ok (cP 0 0 1 1 2 4).val wk) := Lib.hid fun wk hk => load_cal (Lies.below (p := (ad4.add 18)) (by have h := z1; exact h) (by show ((ad4.add 18)).block < _; rw [block_of_add]; exact b4) hk)
  have Z2 : Hid (∀ wk, Below W4.heap.size W4 wk → (Instr.loadAt 40 (.pointer (some (ad4.add 36)))).run Try.prog wk = .ok (cP 0 1 3 (-1) 3 0).val wk) := Lib.hid fun wk hk => load_cal (Lies.below (p := (ad4.add 36)) (by have h := z2; exact h) (by show ((ad4.add 36)).block < _; rw [block_of_add]; exact b4) hk)
  clear y0 y1 z0 z1 z2
  go_wp2_with fail
  have cK : Below W4.heap.size W4 W4.drew := (Below.refl _ _).drew
  refine wp_region_held_drew (S := fun wk => Below W4.heap.size W4 wk) (by kernel_rfl) cK (fun cK => ?_)
  try simp only [Act.put, List.setIfInBounds_toArray, List.set_cons_zero, List.set_cons_succ]
  refine wpAnyH_take (i := 0) (oi := { dst := some 48, op := _, type := _, pos := _, after := _, guard := _ }) (v := .int .i64 0) rfl (by kernel_rfl) (by kernel_rfl) (by kernel_rfl) (fun _ _ _ h => h) (Or.inl ⟨by rfl, fun wk hk => by go_simp⟩) cK ?_
  simp only [Act.put, List.setIfInBounds_toArray, List.set_cons_zero, List.set_cons_succ]
  refine wpAnyH_take (i := 1) (oi := { dst := some 49, op := _, type := _, pos := _, after := _, guard := _ }) (v := .bool true) rfl (by kernel_rfl) (by kernel_rfl) (by kernel_rfl) (fun _ _ _ h => h) (Or.inl ⟨by rfl, fun wk hk => by go_simp⟩) cK ?_
  simp only [Act.put, List.setIfInBounds_toArray, List.set_cons_zero, List.set_cons_succ]
  refine wpAnyH_take (i := 2) (oi := { dst := some 50, op := _, type := _, pos := _, after := _, guard := _ }) (v := .bool true) rfl (by kernel_rfl) (by kernel_rfl) (by kernel_rfl) (fun _ _ _ h => h) (Or.inl ⟨by rfl, fun wk hk => by go_simp⟩) cK ?_
  simp only [Act.put, List.setIfInBounds_toArray, List.set_cons_zero, List.set_cons_succ]
  refine wpAnyH_take (i := 3) (oi := { dst := some 51, op := _, type := _, pos := _, after := _, guard := _ }) (v := .slice (some ad1) 2 c1) rfl (by kernel_rfl) (by kernel_rfl) (by kernel_rfl) (fun _ _ _ h => h) (Or.inl ⟨by rfl, fun wk hk => by go_simp⟩) cK ?_
  simp only [Act.put, List.setIfInBounds_toArray, List.set_cons_zero, List.set_cons_succ]
  refine wpAnyH_take (i := 4) (oi := { dst := some 52, op := _, type := _, pos := _, after := _, guard := _ }) (v := .pointer (some ad1)) rfl (by kernel_rfl) (by kernel_rfl) (by kernel_rfl) (fun _ _ _ h => h) (Or.inl ⟨by rfl, fun wk hk => by go_simp⟩) cK ?_
  simp only [Act.put, List.setIfInBounds_toArray, List.set_cons_zero, List.set_cons_succ]
  refine wpAnyH_take (i := 5) (oi := { dst := some 53, op := _, type := _, pos := _, after := _, guard := _ }) (v := (cP 1 0 0 3 (-1) 0).val) rfl (by kernel_rfl) (by kernel_rfl) (by kernel_rfl) (fun _ _ _ h => h) (Or.inl ⟨by rfl, fun wk hk => by exact exec_load (.tmp 52) 40 rfl rfl (Y0.out wk hk)⟩) cK ?_
  simp only [Act.put, List.setIfInBounds_toArray, List.set_cons_zero, List.set_cons_succ]
  refine wpAnyH_take (i := 6) (oi := { dst := some 54, op := _, type := _, pos := _, after := _, guard := _ }) (v := (cP 1 0 0 3 (-1) 0).val) rfl (by kernel_rfl) (by kernel_rfl) (by kernel_rfl) (fun _ _ _ h => h) (Or.inl ⟨by rfl, fun wk hk => by go_simp <;> rfl⟩) cK ?_
  simp only [Act.put, List.setIfInBounds_toArray, List.set_cons_zero, List.set_cons_succ]
  refine wpAnyH_take (i := 7) (oi := { dst := some 55, op := _, type := _, pos := _, after := _, guard := _ }) (v := .bool true) rfl (by kernel_rfl) (by kernel_rfl) (by kernel_rfl) (fun _ _ _ h => h) (Or.inl ⟨by rfl, fun wk hk => by exact exec_bin .eql (.tmp 53) (.tmp 54) 40 _ rfl rfl rfl (guard_val _ _ _ _ _ _) (eql_val _ _)⟩) cK ?_
  simp only [Act.put, List.setIfInBounds_toArray, List.set_cons_zero, List.set_cons_succ]
  refine wpAnyH_take (i := 8) (oi := { dst := some 56, op := _, type := _, pos := _, after := _, guard := _ }) (v := .bool true) rfl (by kernel_rfl) (by kernel_rfl) (by kernel_rfl) (fun _ _ _ h => h) (Or.inl ⟨by rfl, fun wk hk => by go_simp⟩) cK ?_
  simp only [Act.put, List.setIfInBounds_toArray, List.set_cons_zero, List.set_cons_succ]
  refine wpAnyH_take (i := 9) (oi := { dst := some 57, op := _, type := _, pos := _, after := _, guard := _ }) (v := .bool true) rfl (by kernel_rfl) (by kernel_rfl) (by kernel_rfl) (fun _ _ _ h => h) (Or.inl ⟨by rfl, fun wk hk => by go_simp⟩) cK ?_
  simp only [Act.put, List.setIfInBounds_toArray, List.set_cons_zero, List.set_cons_succ]
  refine wpAnyH_take (i := 10) (oi := { dst := some 58, op := _, type := _, pos := _, after := _, guard := _ }) (v := .slice (some ad1) 2 c1) rfl (by kernel_rfl) (by kernel_rfl) (by kernel_rfl) (fun _ _ _ h => h) (Or.inl ⟨by rfl, fun wk hk => by go_simp⟩) cK ?_
  simp only [Act.put, List.setIfInBounds_toArray, List.set_cons_zero, List.set_cons_succ]
  refine wpAnyH_take (i := 11) (oi := { dst := some 59, op := _, type := _, pos := _, after := _, guard := _ }) (v := .pointer (some (ad1.add 18))) rfl (by kernel_rfl) (by kernel_rfl) (by kernel_rfl) (fun _ _ _ h => h) (Or.inl ⟨by rfl, fun wk hk => by go_simp⟩) cK ?_
  simp only [Act.put, List.setIfInBounds_toArray, List.set_cons_zero, List.set_cons_succ]
  refine wpAnyH_take (i := 12) (oi := { dst := some 60, op := _, type := _, pos := _, after := _, guard := _ }) (v := (cP 0 0 1 1 2 4).val) rfl (by kernel_rfl) (by kernel_rfl) (by kernel_rfl) (fun _ _ _ h => h) (Or.inl ⟨by rfl, fun wk hk => by exact exec_load (.tmp 59) 40 rfl rfl (Y1.out wk hk)⟩) cK ?_
  simp only [Act.put, List.setIfInBounds_toArray, List.set_cons_zero, List.set_cons_succ]
  refine wpAnyH_take (i := 13) (oi := { dst := some 61, op := _, type := _, pos := _, after := _, guard := _ }) (v := .agg (⟨4, 0, 0, 0, 0, 0, 0, 0, 0, 0, 0, 0, 0⟩ : An).cells.toArray) rfl (by kernel_rfl) (by kernel_rfl) (by kernel_rfl) (fun _ _ _ h => h) (Or.inl ⟨by rfl, fun wk hk => by go_simp <;> rfl⟩) cK ?_
  simp only [Act.put, List.setIfInBounds_toArray, List.set_cons_zero, List.set_cons_succ]
  refine wpAnyH_take (i := 14) (oi := { dst := some 62, op := _, type := _, pos := _, after := _, guard := _ }) (v := (cP 0 0 1 1 2 4).val) rfl (by kernel_rfl) (by kernel_rfl) (by kernel_rfl) (fun _ _ _ h => h) (Or.inl ⟨by rfl, fun wk hk => by go_simp <;> rfl⟩) cK ?_
  simp only [Act.put, List.setIfInBounds_toArray, List.set_cons_zero, List.set_cons_succ]
  refine wpAnyH_take (i := 15) (oi := { dst := some 63, op := _, type := _, pos := _, after := _, guard := _ }) (v := .bool true) rfl (by kernel_rfl) (by kernel_rfl) (by kernel_rfl) (fun _ _ _ h => h) (Or.inl ⟨by rfl, fun wk hk => by exact exec_bin .eql (.tmp 60) (.tmp 62) 40 _ rfl rfl rfl (guard_val _ _ _ _ _ _) (eql_val _ _)⟩) cK ?_
  simp only [Act.put, List.setIfInBounds_toArray, List.set_cons_zero, List.set_cons_succ]
  refine wpAnyH_take (i := 16) (oi := { dst := some 64, op := _, type := _, pos := _, after := _, guard := _ }) (v := .bool true) rfl (by kernel_rfl) (by kernel_rfl) (by kernel_rfl) (fun _ _ _ h => h) (Or.inl ⟨by rfl, fun wk hk => by go_simp⟩) cK ?_
  simp only [Act.put, List.setIfInBounds_toArray, List.set_cons_zero, List.set_cons_succ]
  refine wpAnyH_take (i := 17) (oi := { dst := some 65, op := _, type := _, pos := _, after := _, guard := _ }) (v := .bool true) rfl (by kernel_rfl) (by kernel_rfl) (by kernel_rfl) (fun _ _ _ h => h) (Or.inl ⟨by rfl, fun wk hk => by go_simp⟩) cK ?_
  simp only [Act.put, List.setIfInBounds_toArray, List.set_cons_zero, List.set_cons_succ]
  refine wpAnyH_take (i := 18) (oi := { dst := some 66, op := _, type := _, pos := _, after := _, guard := _ }) (v := .int .i64 11) rfl (by kernel_rfl) (by kernel_rfl) (by kernel_rfl) (fun _ _ _ h => h) (Or.inl ⟨by rfl, fun wk hk => by go_simp⟩) cK ?_
  simp only [Act.put, List.setIfInBounds_toArray, List.set_cons_zero, List.set_cons_succ]
  refine wpAnyH_take (i := 19) (oi := { dst := some 67, op := _, type := _, pos := _, after := _, guard := _ }) (v := .bool true) rfl (by kernel_rfl) (by kernel_rfl) (by kernel_rfl) (fun _ _ _ h => h) (Or.inl ⟨by rfl, fun wk hk => by go_simp⟩) cK ?_
  simp only [Act.put, List.setIfInBounds_toArray, List.set_cons_zero, List.set_cons_succ]
  refine wpAnyH_take (i := 20) (oi := { dst := some 68, op := _, type := _, pos := _, after := _, guard := _ }) (v := .bool true) rfl (by kernel_rfl) (by kernel_rfl) (by kernel_rfl) (fun _ _ _ h => h) (Or.inl ⟨by rfl, fun wk hk => by go_simp⟩) cK ?_
  simp only [Act.put, List.setIfInBounds_toArray, List.set_cons_zero, List.set_cons_succ]
  refine wpAnyH_take (i := 21) (oi := { dst := some 69, op := _, type := _, pos := _, after := _, guard := _ }) (v := .bool true) rfl (by kernel_rfl) (by kernel_rfl) (by kernel_rfl) (fun _ _ _ h => h) (Or.inl ⟨by rfl, fun wk hk => by go_simp⟩) cK ?_
  simp only [Act.put, List.setIfInBounds_toArray, List.set_cons_zero, List.set_cons_succ]
  refine wpAnyH_take (i := 22) (oi := { dst := some 70, op := _, type := _, pos := _, after := _, guard := _ }) (v := .int .i64 11) rfl (by kernel_rfl) (by kernel_rfl) (by kernel_rfl) (fun _ _ _ h => h) (Or.inl ⟨by rfl, fun wk hk => by go_simp⟩) cK ?_
  simp only [Act.put, List.setIfInBounds_toArray, List.set_cons_zero, List.set_cons_succ]
  refine wpAnyH_take (i := 23) (oi := { dst := some 71, op := _, type := _, pos := _, after := _, guard := _ }) (v := .int .i64 11) rfl (by kernel_rfl) (by kernel_rfl) (by kernel_rfl) (fun _ _ _ h => h) (Or.inl ⟨by rfl, fun wk hk => by go_simp⟩) cK ?_
  simp only [Act.put, List.setIfInBounds_toArray, List.set_cons_zero, List.set_cons_succ]
  refine wpAnyH_take (i := 24) (oi := { dst := some 72, op := _, type := _, pos := _, after := _, guard := _ }) (v := .bool true) rfl (by kernel_rfl) (by kernel_rfl) (by kernel_rfl) (fun _ _ _ h => h) (Or.inl ⟨by rfl, fun wk hk => by go_simp⟩) cK ?_
  simp only [Act.put, List.setIfInBounds_toArray, List.set_cons_zero, List.set_cons_succ]
  refine wpAnyH_take (i := 25) (oi := { dst := some 73, op := _, type := _, pos := _, after := _, guard := _ }) (v := .bool true) rfl (by kernel_rfl) (by kernel_rfl) (by kernel_rfl) (fun _ _ _ h => h) (Or.inl ⟨by rfl, fun wk hk => by go_simp⟩) cK ?_
  simp only [Act.put, List.setIfInBounds_toArray, List.set_cons_zero, List.set_cons_succ]
  refine wpAnyH_take (i := 26) (oi := { dst := some 74, op := _, type := _, pos := _, after := _, guard := _ }) (v := .bool true) rfl (by kernel_rfl) (by kernel_rfl) (by kernel_rfl) (fun _ _ _ h => h) (Or.inl ⟨by rfl, fun wk hk => by go_simp⟩) cK ?_
  simp only [Act.put, List.setIfInBounds_toArray, List.set_cons_zero, List.set_cons_succ]
  refine wpAnyH_take (i := 27) (oi := { dst := some 75, op := _, type := _, pos := _, after := _, guard := _ }) (v := .int .i64 0) rfl (by kernel_rfl) (by kernel_rfl) (by kernel_rfl) (fun _ _ _ h => h) (Or.inl ⟨by rfl, fun wk hk => by go_simp⟩) cK ?_
  simp only [Act.put, List.setIfInBounds_toArray, List.set_cons_zero, List.set_cons_succ]
  refine wpAnyH_take (i := 28) (oi := { dst := some 76, op := _, type := _, pos := _, after := _, guard := _ }) (v := .int .i64 0) rfl (by kernel_rfl) (by kernel_rfl) (by kernel_rfl) (fun _ _ _ h => h) (Or.inl ⟨by rfl, fun wk hk => by go_simp⟩) cK ?_
  simp only [Act.put, List.setIfInBounds_toArray, List.set_cons_zero, List.set_cons_succ]
  refine wpAnyH_take (i := 29) (oi := { dst := some 77, op := _, type := _, pos := _, after := _, guard := _ }) (v := .bool true) rfl (by kernel_rfl) (by kernel_rfl) (by kernel_rfl) (fun _ _ _ h => h) (Or.inl ⟨by rfl, fun wk hk => by go_simp⟩) cK ?_
  simp only [Act.put, List.setIfInBounds_toArray, List.set_cons_zero, List.set_cons_succ]
  refine wpAnyH_take (i := 30) (oi := { dst := some 78, op := _, type := _, pos := _, after := _, guard := _ }) (v := .bool true) rfl (by kernel_rfl) (by kernel_rfl) (by kernel_rfl) (fun _ _ _ h => h) (Or.inl ⟨by rfl, fun wk hk => by go_simp⟩) cK ?_
  simp only [Act.put, List.setIfInBounds_toArray, List.set_cons_zero, List.set_cons_succ]
  refine wpAnyH_take (i := 31) (oi := { dst := some 79, op := _, type := _, pos := _, after := _, guard := _ }) (v := .bool true) rfl (by kernel_rfl) (by kernel_rfl) (by kernel_rfl) (fun _ _ _ h => h) (Or.inl ⟨by rfl, fun wk hk => by go_simp⟩) cK ?_
  simp only [Act.put, List.setIfInBounds_toArray, List.set_cons_zero, List.set_cons_succ]
  refine wpAnyH_take (i := 32) (oi := { dst := some 80, op := _, type := _, pos := _, after := _, guard := _ }) (v := .slice (some ad4) 3 c4) rfl (by kernel_rfl) (by kernel_rfl) (by kernel_rfl) (fun _ _ _ h => h) (Or.inl ⟨by rfl, fun wk hk => by go_simp⟩) cK ?_
  simp only [Act.put, List.setIfInBounds_toArray, List.set_cons_zero, List.set_cons_succ]
  refine wpAnyH_take (i := 33) (oi := { dst := some 81, op := _, type := _, pos := _, after := _, guard := _ }) (v := .pointer (some (ad4.add 18))) rfl (by kernel_rfl) (by kernel_rfl) (by kernel_rfl) (fun _ _ _ h => h) (Or.inl ⟨by rfl, fun wk hk => by go_simp⟩) cK ?_
  simp only [Act.put, List.setIfInBounds_toArray, List.set_cons_zero, List.set_cons_succ]
  refine wpAnyH_take (i := 34) (oi := { dst := some 82, op := _, type := _, pos := _, after := _, guard := _ }) (v := (cP 0 0 1 1 2 4).val) rfl (by kernel_rfl) (by kernel_rfl) (by kernel_rfl) (fun _ _ _ h => h) (Or.inl ⟨by rfl, fun wk hk => by exact exec_load (.tmp 81) 40 rfl rfl (Z1.out wk hk)⟩) cK ?_
  simp only [Act.put, List.setIfInBounds_toArray, List.set_cons_zero, List.set_cons_succ]
  refine wpAnyH_take (i := 35) (oi := { dst := some 83, op := _, type := _, pos := _, after := _, guard := _ }) (v := .slice (some ad4) 3 c4) rfl (by kernel_rfl) (by kernel_rfl) (by kernel_rfl) (fun _ _ _ h => h) (Or.inl ⟨by rfl, fun wk hk => by go_simp⟩) cK ?_
  simp only [Act.put, List.setIfInBounds_toArray, List.set_cons_zero, List.set_cons_succ]
  refine wpAnyH_take (i := 36) (oi := { dst := some 84, op := _, type := _, pos := _, after := _, guard := _ }) (v := .pointer (some (ad4.add 36))) rfl (by kernel_rfl) (by kernel_rfl) (by kernel_rfl) (fun _ _ _ h => h) (Or.inl ⟨by rfl, fun wk hk => by go_simp⟩) cK ?_
  simp only [Act.put, List.setIfInBounds_toArray, List.set_cons_zero, List.set_cons_succ]
  refine wpAnyH_take (i := 37) (oi := { dst := some 85, op := _, type := _, pos := _, after := _, guard := _ }) (v := (cP 0 1 3 (-1) 3 0).val) rfl (by kernel_rfl) (by kernel_rfl) (by kernel_rfl) (fun _ _ _ h => h) (Or.inl ⟨by rfl, fun wk hk => by exact exec_load (.tmp 84) 40 rfl rfl (Z2.out wk hk)⟩) cK ?_
  simp only [Act.put, List.setIfInBounds_toArray, List.set_cons_zero, List.set_cons_succ]
  refine wpAnyH_ready (rs := [38]) (by kernel_rfl) (by simp) ?_
  refine (AllReadyH.cons rfl (fun K hK => ?_) AllReadyH.nil)
  have hq := HK.out.ahead (cP 0 0 1 1 2 4) (cP 0 1 3 (-1) 3 0) W4.drew
  rw [t_5] at hq
  go_simp
  refine hq.mono ?_
  rintro e w5 ⟨rfl, kk⟩
  have cK5 := below_next cK kk
  clear hq kk
  refine hK.out _ _ cK5 (fun _ => ?_)
  clear hK K
  try simp only [Act.put, List.setIfInBounds_toArray, List.set_cons_zero, List.set_cons_succ]
  refine wpAnyH_take (i := 39) (oi := { dst := some 87, op := _, type := _, pos := _, after := _, guard := _ }) (v := .bool true) rfl (by kernel_rfl) (by kernel_rfl) (by kernel_rfl) (fun _ _ _ h => h) (Or.inl ⟨by rfl, fun wk hk => by go_simp⟩) cK5 ?_
  simp only [Act.put, List.setIfInBounds_toArray, List.set_cons_zero, List.set_cons_succ]
  refine wpAnyH_take (i := 40) (oi := { dst := some 88, op := _, type := _, pos := _, after := _, guard := _ }) (v := .bool true) rfl (by kernel_rfl) (by kernel_rfl) (by kernel_rfl) (fun _ _ _ h => h) (Or.inl ⟨by rfl, fun wk hk => by go_simp⟩) cK5 ?_
  simp only [Act.put, List.setIfInBounds_toArray, List.set_cons_zero, List.set_cons_succ]
  refine wpAnyH_take (i := 41) (oi := { dst := some 89, op := _, type := _, pos := _, after := _, guard := _ }) (v := .slice (some ad4) 3 c4) rfl (by kernel_rfl) (by kernel_rfl) (by kernel_rfl) (fun _ _ _ h => h) (Or.inl ⟨by rfl, fun wk hk => by go_simp⟩) cK5 ?_
  simp only [Act.put, List.setIfInBounds_toArray, List.set_cons_zero, List.set_cons_succ]
  refine wpAnyH_take (i := 42) (oi := { dst := some 90, op := _, type := _, pos := _, after := _, guard := _ }) (v := .pointer (some ad4)) rfl (by kernel_rfl) (by kernel_rfl) (by kernel_rfl) (fun _ _ _ h => h) (Or.inl ⟨by rfl, fun wk hk => by go_simp⟩) cK5 ?_
  simp only [Act.put, List.setIfInBounds_toArray, List.set_cons_zero, List.set_cons_succ]
  refine wpAnyH_take (i := 43) (oi := { dst := some 91, op := _, type := _, pos := _, after := _, guard := _ }) (v := (cP 1 0 0 (-1) (-1) 0).val) rfl (by kernel_rfl) (by kernel_rfl) (by kernel_rfl) (fun _ _ _ h => h) (Or.inl ⟨by rfl, fun wk hk => by exact exec_load (.tmp 90) 40 rfl rfl (Z0.out wk hk)⟩) cK5 ?_
  simp only [Act.put, List.setIfInBounds_toArray, List.set_cons_zero, List.set_cons_succ]
  refine wpAnyH_take (i := 44) (oi := { dst := some 92, op := _, type := _, pos := _, after := _, guard := _ }) (v := .slice (some ad4) 3 c4) rfl (by kernel_rfl) (by kernel_rfl) (by kernel_rfl) (fun _ _ _ h => h) (Or.inl ⟨by rfl, fun wk hk => by go_simp⟩) cK5 ?_
  simp only [Act.put, List.setIfInBounds_toArray, List.set_cons_zero, List.set_cons_succ]
  refine wpAnyH_take (i := 45) (oi := { dst := some 93, op := _, type := _, pos := _, after := _, guard := _ }) (v := .pointer (some (ad4.add 36))) rfl (by kernel_rfl) (by kernel_rfl) (by kernel_rfl) (fun _ _ _ h => h) (Or.inl ⟨by rfl, fun wk hk => by go_simp⟩) cK5 ?_
  simp only [Act.put, List.setIfInBounds_toArray, List.set_cons_zero, List.set_cons_succ]
  refine wpAnyH_take (i := 46) (oi := { dst := some 94, op := _, type := _, pos := _, after := _, guard := _ }) (v := (cP 0 1 3 (-1) 3 0).val) rfl (by kernel_rfl) (by kernel_rfl) (by kernel_rfl) (fun _ _ _ h => h) (Or.inl ⟨by rfl, fun wk hk => by exact exec_load (.tmp 93) 40 rfl rfl (Z2.out wk hk)⟩) cK5 ?_
  simp only [Act.put, List.setIfInBounds_toArray, List.set_cons_zero, List.set_cons_succ]
  refine wpAnyH_ready (rs := [47]) (by kernel_rfl) (by simp) ?_
  refine (AllReadyH.cons rfl (fun K hK => ?_) AllReadyH.nil)
  have hq := HK.out.ahead (cP 1 0 0 (-1) (-1) 0) (cP 0 1 3 (-1) 3 0) w5
  rw [t_6] at hq
  go_simp
  refine hq.mono ?_
  rintro e w6 ⟨rfl, kk⟩
  have cK6 := below_next cK5 kk
  clear hq kk
  refine hK.out _ _ cK6 (fun _ => ?_)
  clear hK K
  try simp only [Act.put, List.setIfInBounds_toArray, List.set_cons_zero, List.set_cons_succ]
  refine wpAnyH_take (i := 48) (oi := { dst := some 96, op := _, type := _, pos := _, after := _, guard := _ }) (v := .bool true) rfl (by kernel_rfl) (by kernel_rfl) (by kernel_rfl) (fun _ _ _ h => h) (Or.inl ⟨by rfl, fun wk hk => by go_simp⟩) cK6 ?_
  simp only [Act.put, List.setIfInBounds_toArray, List.set_cons_zero, List.set_cons_succ]
  refine wpAnyH_take (i := 49) (oi := { dst := some 97, op := _, type := _, pos := _, after := _, guard := _ }) (v := .bool true) rfl (by kernel_rfl) (by kernel_rfl) (by kernel_rfl) (fun _ _ _ h => h) (Or.inl ⟨by rfl, fun wk hk => by go_simp⟩) cK6 ?_
  simp only [Act.put, List.setIfInBounds_toArray, List.set_cons_zero, List.set_cons_succ]
  refine wpAnyH_take (i := 50) (oi := { dst := some 98, op := _, type := _, pos := _, after := _, guard := _ }) (v := .bool true) rfl (by kernel_rfl) (by kernel_rfl) (by kernel_rfl) (fun _ _ _ h => h) (Or.inl ⟨by rfl, fun wk hk => by go_simp⟩) cK6 ?_
  simp only [Act.put, List.setIfInBounds_toArray, List.set_cons_zero, List.set_cons_succ]
  refine wpAnyH_take (i := 51) (oi := { dst := some 99, op := _, type := _, pos := _, after := _, guard := _ }) (v := .slice (some ad1) 2 c1) rfl (by kernel_rfl) (by kernel_rfl) (by kernel_rfl) (fun _ _ _ h => h) (Or.inl ⟨by rfl, fun wk hk => by go_simp⟩) cK6 ?_
  simp only [Act.put, List.setIfInBounds_toArray, List.set_cons_zero, List.set_cons_succ]
  have R6 := Lib.hid (R4.out.below cK6)
  refine wpAnyH_ready (rs := [52, 53]) (by kernel_rfl) (by simp) ?_
  refine (AllReadyH.cons rfl (fun K hK => ?_) (AllReadyH.cons rfl (fun K hK => ?_) AllReadyH.nil))
  · skip
    have hq := HK.out.order (some ad1) c1 lc0 w6 R6.out (by simp [lc0])
    rw [t_7] at hq
    go_simp
    refine hq.mono ?_
    rintro e w7 ⟨A7, c7, rfl, r7, _, _, kk⟩
    have cK7 := below_next cK6 kk
    clear hq kk
    refine hK.out _ _ cK7 (fun _ => ?_)
    clear hK K
    try simp only [Act.put, List.setIfInBounds_toArray, List.set_cons_zero, List.set_cons_succ]
    refine wpAnyH_ready (rs := [53]) (by kernel_rfl) (by simp) ?_
    refine (AllReadyH.cons rfl (fun K hK => ?_) AllReadyH.nil)
    go_simp
    have k8 := boxed w7 (.cells #[.int .i64 1, .int .i64 0] 3)
    have cK8 := below_next cK7 k8
    refine hK.out _ _ cK8 (fun _ => ?_)
    clear hK K
    try simp only [Act.put, List.setIfInBounds_toArray, List.set_cons_zero, List.set_cons_succ]
    have N7 := Lib.hid (r7.below k8)
    have N8 := Lib.hid (reads_block (one_alloc w7 (.cells #[.int .i64 1, .int .i64 0] 3)))
    refine wpAnyH_ready (rs := [54]) (by kernel_rfl) (by simp) ?_
    refine (AllReadyH.cons rfl (fun K hK => ?_) AllReadyH.nil)
    have hq := sameI_yes A7 _ c7 2 _ _ [1, 0] (w7.alloc (.cells #[.int .i64 1, .int .i64 0] 3)) (by simp [maxLen]) N7 N8
    go_simp
    refine hq.mono ?_
    rintro e w9 ⟨rfl, kk⟩
    have cK9 := below_next cK8 kk
    clear hq kk N7 N8
    refine hK.out _ _ cK9 (fun _ => ?_)
    clear hK K
    try simp only [Act.put, List.setIfInBounds_toArray, List.set_cons_zero, List.set_cons_succ]
    refine wpAnyH_take (i := 55) (oi := { dst := some 103, op := _, type := _, pos := _, after := _, guard := _ }) (v := .bool true) rfl (by kernel_rfl) (by kernel_rfl) (by kernel_rfl) (fun _ _ _ h => h) (Or.inl ⟨by rfl, fun wk hk => by go_simp⟩) cK9 ?_
    simp only [Act.put, List.setIfInBounds_toArray, List.set_cons_zero, List.set_cons_succ]
    refine wpAnyH_take (i := 56) (oi := { dst := some 104, op := _, type := _, pos := _, after := _, guard := _ }) (v := .bool true) rfl (by kernel_rfl) (by kernel_rfl) (by kernel_rfl) (fun _ _ _ h => h) (Or.inl ⟨by rfl, fun wk hk => by go_simp⟩) cK9 ?_
    simp only [Act.put, List.setIfInBounds_toArray, List.set_cons_zero, List.set_cons_succ]
    refine wpAnyH_ready (rs := [57]) (by kernel_rfl) (by simp) ?_
    refine (AllReadyH.cons rfl (fun K hK => ?_) AllReadyH.nil)
    have hq := HK.out.order none 0 [] w9 ⟨fun hn => absurd hn (by simp), Nat.le_refl _, by simp [maxLen]⟩ (by simp)
    rw [t_8] at hq
    go_simp
    refine hq.mono ?_
    rintro e w10 ⟨A10, c10, rfl, _, _, _, kk⟩
    have cK10 := below_next cK9 kk
    clear hq kk
    refine hK.out _ _ cK10 (fun _ => ?_)
    clear hK K
    try simp only [Act.put, List.setIfInBounds_toArray, List.set_cons_zero, List.set_cons_succ]
    refine wpAnyH_take (i := 58) (oi := { dst := some 106, op := _, type := _, pos := _, after := _, guard := _ }) (v := .int .i64 0) rfl (by kernel_rfl) (by kernel_rfl) (by kernel_rfl) (fun _ _ _ h => h) (Or.inl ⟨by rfl, fun wk hk => by go_simp⟩) cK10 ?_
    simp only [Act.put, List.setIfInBounds_toArray, List.set_cons_zero, List.set_cons_succ]
    refine wpAnyH_take (i := 59) (oi := { dst := some 107, op := _, type := _, pos := _, after := _, guard := _ }) (v := .bool true) rfl (by kernel_rfl) (by kernel_rfl) (by kernel_rfl) (fun _ _ _ h => h) (Or.inl ⟨by rfl, fun wk hk => by go_simp⟩) cK10 ?_
    simp only [Act.put, List.setIfInBounds_toArray, List.set_cons_zero, List.set_cons_succ]
    refine wpAnyH_take (i := 60) (oi := { dst := some 108, op := _, type := _, pos := _, after := _, guard := _ }) (v := .bool true) rfl (by kernel_rfl) (by kernel_rfl) (by kernel_rfl) (fun _ _ _ h => h) (Or.inl ⟨by rfl, fun wk hk => by go_simp⟩) cK10 ?_
    simp only [Act.put, List.setIfInBounds_toArray, List.set_cons_zero, List.set_cons_succ]
    refine wpAnyH_take (i := 61) (oi := { dst := some 0, op := _, type := _, pos := _, after := _, guard := _ }) (v := .bool true) rfl (by kernel_rfl) (by kernel_rfl) (by kernel_rfl) (fun _ _ _ h => h) (Or.inl ⟨by rfl, fun wk hk => by go_simp⟩) cK10 ?_
    simp only [Act.put, List.setIfInBounds_toArray, List.set_cons_zero, List.set_cons_succ]
    refine wpAnyH_done (by kernel_rfl) ?_ _
    have B10 := Lib.hid (below_next B4.out cK10)
    go_wp2_with fail
    go_ret
    exact ⟨rfl, B10.out⟩
  · go_simp
    have k8 := boxed w6 (.cells #[.int .i64 1, .int .i64 0] 3)
    have cK8 := below_next cK6 k8
    refine hK.out _ _ cK8 (fun _ => ?_)
    clear hK K
    try simp only [Act.put, List.setIfInBounds_toArray, List.set_cons_zero, List.set_cons_succ]
    refine wpAnyH_ready (rs := [52]) (by kernel_rfl) (by simp) ?_
    refine (AllReadyH.cons rfl (fun K hK => ?_) AllReadyH.nil)
    have hq := HK.out.order (some ad1) c1 lc0 (w6.alloc (.cells #[.int .i64 1, .int .i64 0] 3)) (R6.out.below k8) (by simp [lc0])
    rw [t_7] at hq
    go_simp
    refine hq.mono ?_
    rintro e w7 ⟨A7, c7, rfl, r7, _, _, kk⟩
    have cK7 := below_next cK8 kk
    have N7 := Lib.hid r7
    have N8 := Lib.hid ((reads_block (one_alloc w6 (.cells #[.int .i64 1, .int .i64 0] 3))).below kk)
    clear hq kk
    refine hK.out _ _ cK7 (fun _ => ?_)
    clear hK K
    try simp only [Act.put, List.setIfInBounds_toArray, List.set_cons_zero, List.set_cons_succ]
    refine wpAnyH_ready (rs := [54]) (by kernel_rfl) (by simp) ?_
    refine (AllReadyH.cons rfl (fun K hK => ?_) AllReadyH.nil)
    have hq := sameI_yes A7 _ c7 2 _ _ [1, 0] w7 (by simp [maxLen]) N7 N8
    go_simp
    refine hq.mono ?_
    rintro e w9 ⟨rfl, kk⟩
    have cK9 := below_next cK7 kk
    clear hq kk N7 N8
    refine hK.out _ _ cK9 (fun _ => ?_)
    clear hK K
    try simp only [Act.put, List.setIfInBounds_toArray, List.set_cons_zero, List.set_cons_succ]
    refine wpAnyH_take (i := 55) (oi := { dst := some 103, op := _, type := _, pos := _, after := _, guard := _ }) (v := .bool true) rfl (by kernel_rfl) (by kernel_rfl) (by kernel_rfl) (fun _ _ _ h => h) (Or.inl ⟨by rfl, fun wk hk => by go_simp⟩) cK9 ?_
    simp only [Act.put, List.setIfInBounds_toArray, List.set_cons_zero, List.set_cons_succ]
    refine wpAnyH_take (i := 56) (oi := { dst := some 104, op := _, type := _, pos := _, after := _, guard := _ }) (v := .bool true) rfl (by kernel_rfl) (by kernel_rfl) (by kernel_rfl) (fun _ _ _ h => h) (Or.inl ⟨by rfl, fun wk hk => by go_simp⟩) cK9 ?_
    simp only [Act.put, List.setIfInBounds_toArray, List.set_cons_zero, List.set_cons_succ]
    refine wpAnyH_ready (rs := [57]) (by kernel_rfl) (by simp) ?_
    refine (AllReadyH.cons rfl (fun K hK => ?_) AllReadyH.nil)
    have hq := HK.out.order none 0 [] w9 ⟨fun hn => absurd hn (by simp), Nat.le_refl _, by simp [maxLen]⟩ (by simp)
    rw [t_8] at hq
    go_simp
    refine hq.mono ?_
    rintro e w10 ⟨A10, c10, rfl, _, _, _, kk⟩
    have cK10 := below_next cK9 kk
    clear hq kk
    refine hK.out _ _ cK10 (fun _ => ?_)
    clear hK K
    try simp only [Act.put, List.setIfInBounds_toArray, List.set_cons_zero, List.set_cons_succ]
    refine wpAnyH_take (i := 58) (oi := { dst := some 106, op := _, type := _, pos := _, after := _, guard := _ }) (v := .int .i64 0) rfl (by kernel_rfl) (by kernel_rfl) (by kernel_rfl) (fun _ _ _ h => h) (Or.inl ⟨by rfl, fun wk hk => by go_simp⟩) cK10 ?_
    simp only [Act.put, List.setIfInBounds_toArray, List.set_cons_zero, List.set_cons_succ]
    refine wpAnyH_take (i := 59) (oi := { dst := some 107, op := _, type := _, pos := _, after := _, guard := _ }) (v := .bool true) rfl (by kernel_rfl) (by kernel_rfl) (by kernel_rfl) (fun _ _ _ h => h) (Or.inl ⟨by rfl, fun wk hk => by go_simp⟩) cK10 ?_
    simp only [Act.put, List.setIfInBounds_toArray, List.set_cons_zero, List.set_cons_succ]
    refine wpAnyH_take (i := 60) (oi := { dst := some 108, op := _, type := _, pos := _, after := _, guard := _ }) (v := .bool true) rfl (by kernel_rfl) (by kernel_rfl) (by kernel_rfl) (fun _ _ _ h => h) (Or.inl ⟨by rfl, fun wk hk => by go_simp⟩) cK10 ?_
    simp only [Act.put, List.setIfInBounds_toArray, List.set_cons_zero, List.set_cons_succ]
    refine wpAnyH_take (i := 61) (oi := { dst := some 0, op := _, type := _, pos := _, after := _, guard := _ }) (v := .bool true) rfl (by kernel_rfl) (by kernel_rfl) (by kernel_rfl) (fun _ _ _ h => h) (Or.inl ⟨by rfl, fun wk hk => by go_simp⟩) cK10 ?_
    simp only [Act.put, List.setIfInBounds_toArray, List.set_cons_zero, List.set_cons_succ]
    refine wpAnyH_done (by kernel_rfl) ?_ _
    have B10 := Lib.hid (below_next B4.out cK10)
    go_wp2_with fail
    go_ret
    exact ⟨rfl, B10.out⟩
end Go.Proofs.Ytglnofdncglmnaa
