/- A call is the same as it is: the program's own comparison of structs, field by field. -/
import Derived.Test.YtglnofdncglmnaaEin
import Derived.ChangeKeysEq
import Derived.Deep.RegionLaw
namespace Go.Proofs.Ytglnofdncglmnaa
open Go.RowKit
set_option linter.unusedVariables false
set_option linter.unusedSimpArgs false
set_option maxRecDepth 100000

/-- Six counts are the same as they are. -/
theorem one_same (n : Nat) (a : Int) (w : World) : (Op.equalIn (n + 1) 35 (.int .u64 a) (.int .u64 a)).run Try.prog w = .ok true w := by
  rw [Op.equalIn]
  simp only [Sem.run_bind, run_underlying Try.underlying35, Result.andThen_ok]
  simp
theorem counts_any (n : Nat) (a b c d e f : Int) (w : World) : (Op.equalIn (n + 2) 36 (.agg #[.int .u64 a, .int .u64 b, .int .u64 c, .int .u64 d, .int .u64 e, .int .u64 f]) (.agg #[.int .u64 a, .int .u64 b, .int .u64 c, .int .u64 d, .int .u64 e, .int .u64 f])).run Try.prog w = .ok true w := by
  have hc : (Try.prog).cellsOf 35 = 1 := by kernel_rfl
  obtain ⟨i, hi, _⟩ := info_parts (show (Try.prog.info? 35).map (fun i => (i.zero, i.size, i.bytes)) = some (some (.int .u64 0), 1, 8) by kernel_rfl)
  have h1 := one_same n
  have hp : (Try.prog).plainKey 35 = true := by kernel_rfl
  obtain ⟨xs, hxs⟩ : ∃ xs : Array Value, #[.int .u64 a, .int .u64 b, .int .u64 c, .int .u64 d, .int .u64 e, .int .u64 f] = xs := ⟨_, rfl⟩
  have hpart : ∀ (j : Nat) (v : Value) (w : World), xs[j]? = some v → (part 35 xs j).run Try.prog w = .ok v w := fun j v w h => run_part_plain w hp h
  have x0 := fun w => hpart 0 (.int .u64 a) w (by rw [← hxs]; rfl)
  have x1 := fun w => hpart 1 (.int .u64 b) w (by rw [← hxs]; rfl)
  have x2 := fun w => hpart 2 (.int .u64 c) w (by rw [← hxs]; rfl)
  have x3 := fun w => hpart 3 (.int .u64 d) w (by rw [← hxs]; rfl)
  have x4 := fun w => hpart 4 (.int .u64 e) w (by rw [← hxs]; rfl)
  have x5 := fun w => hpart 5 (.int .u64 f) w (by rw [← hxs]; rfl)
  rw [hxs, Go.run_equalIn_array w (n + 1) _ _ Try.underlying36 hi, hc]
  simp only [List.range_succ, List.range_zero, List.nil_append, List.cons_append, Op.eqItems, Nat.mul_one]
  simp only [Sem.run_bind, x0, x1, x2, x3, x4, x5, Result.andThen_ok, h1, Bool.not_true, Bool.false_eq_true, if_false, Sem.run_pure]
theorem fields_same {P : Program} (d : Nat) (xs : Array Value) : ∀ fs : List Field, (∀ f ∈ fs, ∃ v, ∀ w, (part f.type xs f.offset).run P w = .ok v w ∧ (Op.equalIn d f.type v v).run P w = .ok true w) → ∀ w, (Op.eqFields d xs xs fs).run P w = .ok true w
  | [], _, w => by simp [Op.eqFields]
  | f :: fs, h, w => by
    obtain ⟨v, hv⟩ := h f (List.mem_cons_self ..)
    have ih := fields_same d xs fs (fun g hg => h g (List.mem_cons_of_mem _ hg))
    rw [Op.eqFields]
    split
    · simp only [Sem.run_bind, (hv w).1, (hv w).2, Result.andThen_ok, Bool.not_true, Bool.false_eq_true, if_false]
      exact ih w
    · exact ih w
theorem int_same (n : Nat) (xs : Array Value) (j : Nat) (a : Int) (h : xs[j]? = some (.int .i64 a)) : ∃ v, ∀ w, (part 3 xs j).run Try.prog w = .ok v w ∧ (Op.equalIn (n + 1) 3 v v).run Try.prog w = .ok true w :=
  ⟨.int .i64 a, fun w => ⟨run_part_plain w (by kernel_rfl) h, by rw [run_equalIn_int w n _ _ _ a a Try.underlying3, beq_self_eq_true]⟩⟩
theorem ans_same (n : Nat) (a : An) (w : World) : (Op.equalIn (n + 3) 38 (.agg a.cells.toArray) (.agg a.cells.toArray)).run Try.prog w = .ok true w := by
  have hS : (Try.prog).underlying 38 = some (.struct ((Try.prog).fieldsOf 38)) := by kernel_rfl
  rw [run_equalIn_struct w (n + 2) _ _ _ hS (by kernel_rfl)]
  refine fields_same (n + 2) _ _ ?_ w
  simp only [Program.fieldsOf, Try.underlying38]
  intro f hf
  simp only [List.mem_cons, List.not_mem_nil, or_false] at hf
  rcases hf with rfl | rfl | rfl | rfl | rfl | rfl | rfl | rfl
  all_goals first
    | exact int_same (n + 1) _ _ _ rfl
    | exact ⟨.agg #[.int .u64 a.q0, .int .u64 a.q1, .int .u64 a.q2, .int .u64 a.q3, .int .u64 a.q4, .int .u64 a.q5], fun w => ⟨by simp [part, Try.isAgg36, Try.sizeOf36]; rfl, counts_any n _ _ _ _ _ _ w⟩⟩
theorem cal_any (n : Nat) (c : Cal) (w : World) : (Op.equalIn (n + 4) 40 c.val c.val).run Try.prog w = .ok true w := by
  have hS : (Try.prog).underlying 40 = some (.struct ((Try.prog).fieldsOf 40)) := by kernel_rfl
  unfold Cal.val
  rw [run_equalIn_struct w (n + 3) _ _ _ hS (by kernel_rfl)]
  refine fields_same (n + 3) _ _ ?_ w
  simp only [Program.fieldsOf, Try.underlying40]
  intro f hf
  simp only [List.mem_cons, List.not_mem_nil, or_false] at hf
  rcases hf with rfl | rfl | rfl | rfl | rfl | rfl
  all_goals first
    | exact int_same (n + 2) _ _ _ rfl
    | exact ⟨.agg c.ans.cells.toArray, fun w => ⟨by simp [part, Try.isAgg38, Try.sizeOf38]; rfl, ans_same n c.ans w⟩⟩
/-- A call is the same as it is. -/
theorem cal_same (c : Cal) (w : World) : (Op.equalIn 10000 40 c.val c.val).run Try.prog w = .ok true w := by
  rw [show (10000 : Nat) = 9996 + 4 from rfl]
  exact cal_any 9996 c w
theorem cal_lit (c : Cal) (w : World) : (Op.equalIn 10000 40 (.agg #[.int .i64 c.thread, .int .i64 c.op, .int .i64 c.frm, .int .i64 c.point, .int .i64 c.to, .int .i64 c.ans.kind, .int .i64 c.ans.version, .int .i64 c.ans.cluster, .int .i64 c.ans.fin, .int .i64 c.ans.slot, .int .i64 c.ans.listen, .int .i64 c.ans.n, .int .u64 c.ans.q0, .int .u64 c.ans.q1, .int .u64 c.ans.q2, .int .u64 c.ans.q3, .int .u64 c.ans.q4, .int .u64 c.ans.q5]) (.agg #[.int .i64 c.thread, .int .i64 c.op, .int .i64 c.frm, .int .i64 c.point, .int .i64 c.to, .int .i64 c.ans.kind, .int .i64 c.ans.version, .int .i64 c.ans.cluster, .int .i64 c.ans.fin, .int .i64 c.ans.slot, .int .i64 c.ans.listen, .int .i64 c.ans.n, .int .u64 c.ans.q0, .int .u64 c.ans.q1, .int .u64 c.ans.q2, .int .u64 c.ans.q3, .int .u64 c.ans.q4, .int .u64 c.ans.q5])).run Try.prog w = .ok true w := cal_same c w
theorem neq_same (c : Cal) (w : World) : (binOp .neq 40 (.agg #[.int .i64 c.thread, .int .i64 c.op, .int .i64 c.frm, .int .i64 c.point, .int .i64 c.to, .int .i64 c.ans.kind, .int .i64 c.ans.version, .int .i64 c.ans.cluster, .int .i64 c.ans.fin, .int .i64 c.ans.slot, .int .i64 c.ans.listen, .int .i64 c.ans.n, .int .u64 c.ans.q0, .int .u64 c.ans.q1, .int .u64 c.ans.q2, .int .u64 c.ans.q3, .int .u64 c.ans.q4, .int .u64 c.ans.q5]) (.agg #[.int .i64 c.thread, .int .i64 c.op, .int .i64 c.frm, .int .i64 c.point, .int .i64 c.to, .int .i64 c.ans.kind, .int .i64 c.ans.version, .int .i64 c.ans.cluster, .int .i64 c.ans.fin, .int .i64 c.ans.slot, .int .i64 c.ans.listen, .int .i64 c.ans.n, .int .u64 c.ans.q0, .int .u64 c.ans.q1, .int .u64 c.ans.q2, .int .u64 c.ans.q3, .int .u64 c.ans.q4, .int .u64 c.ans.q5])).run Try.prog w = .ok (.bool false) w := by
  rw [run_neq_struct, cal_lit]
  rfl
theorem eql_same (c : Cal) (w : World) : (binOp .eql 40 (.agg #[.int .i64 c.thread, .int .i64 c.op, .int .i64 c.frm, .int .i64 c.point, .int .i64 c.to, .int .i64 c.ans.kind, .int .i64 c.ans.version, .int .i64 c.ans.cluster, .int .i64 c.ans.fin, .int .i64 c.ans.slot, .int .i64 c.ans.listen, .int .i64 c.ans.n, .int .u64 c.ans.q0, .int .u64 c.ans.q1, .int .u64 c.ans.q2, .int .u64 c.ans.q3, .int .u64 c.ans.q4, .int .u64 c.ans.q5]) (.agg #[.int .i64 c.thread, .int .i64 c.op, .int .i64 c.frm, .int .i64 c.point, .int .i64 c.to, .int .i64 c.ans.kind, .int .i64 c.ans.version, .int .i64 c.ans.cluster, .int .i64 c.ans.fin, .int .i64 c.ans.slot, .int .i64 c.ans.listen, .int .i64 c.ans.n, .int .u64 c.ans.q0, .int .u64 c.ans.q1, .int .u64 c.ans.q2, .int .u64 c.ans.q3, .int .u64 c.ans.q4, .int .u64 c.ans.q5])).run Try.prog w = .ok (.bool true) w := by
  rw [run_eql_struct, cal_lit]
  rfl
/-- An operation on two values whose answer is known, as one step of a region that draws its order. -/
theorem step_bin {P : Program} {ops : Array Oper} {o : Oper} {a : Act} {K : Act → World → Prop} {Q : Exit → Act → World → Prop} {F : Prop} (hg : o.guard = none) (b : BinOp) (s x : Operand) (t t' : TypeId) (ho : o.op = Op.binOp b t s x t') (vs us r : Value) (hs : a.eval s = vs) (hx : a.eval x = us) (w : World)
    (hG : (eqGuard b t s x vs us).run P w = .ok () w) (hrun : (binOp b t vs us).run P w = .ok r w) (h : K (a.put o.dst r) w) :
    if Region.wanted o (yielded ops a.tmps) = true then Oper.wp P o a w K Q else F := by
  have hw : Region.wanted o (yielded ops a.tmps) = true := by simp [Region.wanted, hg]
  rw [if_pos hw]
  unfold Oper.wp
  simp [execOp, ho, hs, hx, hG, hrun, Result.andThen]
  exact h
end Go.Proofs.Ytglnofdncglmnaa
