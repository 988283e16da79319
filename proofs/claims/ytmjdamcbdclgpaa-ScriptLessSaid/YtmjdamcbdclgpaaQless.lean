/- Scripts with something left out; a row of threads of the call's own. -/
import Derived.Test.YtmjdamcbdclgpaaQuniq
import Derived.Test.YtmjdamcbdclgpaaStep
namespace Go.Proofs.Ytmjdamcbdclgpaa
open Go.RowKit
set_option linter.unusedVariables false
set_option linter.unusedSimpArgs false
set_option maxRecDepth 100000

theorem ok_iff {s : Scr} : scrOk s = true ↔ (checkI s.first.ls s.first.rs s.first.cs).1 = 0 ∧ 1 ≤ s.ts.length ∧ s.ts.length ≤ 8 ∧ s.ps.length ≤ 4000 ∧ (∀ t ∈ s.ts, thrOk t = true) ∧ ∀ x ∈ s.ps, 0 ≤ x := by
  unfold scrOk
  simp only [Bool.and_eq_true, beq_iff_eq, decide_eq_true_eq, List.all_eq_true]
  exact ⟨fun ⟨⟨a, b, c, d⟩, e, f⟩ => ⟨a, b, c, d, e, f⟩, fun ⟨a, b, c, d, e, f⟩ => ⟨⟨a, b, c, d⟩, e, f⟩⟩
/-- The script with other threads and other picks. -/
def Scr.with (s : Scr) (ta : Option Addr) (tc : Nat) (ts : List Thr) (ps : List Int) : Scr := ⟨s.first, ta, tc, ts, s.pa, s.pc, ps⟩
theorem FewQ.with {s : Scr} (h : FewQ s) {ta : Option Addr} {tc : Nat} {ts : List Thr} {ps : List Int} (h1 : ts.length ≤ 20) (h2 : ps.length ≤ s.ps.length) (h3 : ∀ t ∈ ts, t.os.length ≤ 40 ∧ ∀ o ∈ t.os, bigO o = false) : FewQ (s.with ta tc ts ps) :=
  ⟨h.f, h1, Nat.le_trans h2 h.p, h3⟩
theorem ScrIn.with {w : World} {B : Nat} {s : Scr} (h : ScrIn w B s) {ta : Option Addr} {tc : Nat} {ts : List Thr} {k : Nat} (h1 : Reads w B ta (ts.map Thr.cell)) (h2 : ts.length ≤ tc) (h3 : tc ≤ maxLen) (h4 : ∀ t ∈ ts, ThrIn w B t) : ScrIn w B (s.with ta tc ts (s.ps.take k)) :=
  ⟨h.fi, h1, h2, h3, h4, by
    show Reads w B s.pa ((s.ps.take k).map (Value.int .i64))
    rw [List.map_take]
    exact h.pp.take k, by show (s.ps.take k).length ≤ s.pc; rw [List.length_take]; have := h.pl; omega, h.pm, h.fs⟩
/-- A thread without its last operation. -/
def Thr.less (t : Thr) : Thr := ⟨t.oa, t.oc, t.os.take (t.os.length - 1)⟩
theorem ThrIn.less {w : World} {B : Nat} {t : Thr} (h : ThrIn w B t) : ThrIn w B t.less :=
  ⟨by
    show RowsN 10 w B t.oa ((t.os.take (t.os.length - 1)).map Opn.cells)
    rw [List.map_take]
    exact h.po.take _, by show (t.os.take (t.os.length - 1)).length ≤ t.oc; rw [List.length_take]; have := h.ol; omega, h.om, fun o ho => h.oi o (List.mem_of_mem_take ho)⟩
theorem less_ok {t : Thr} (h : thrOk t = true) : thrOk t.less = true := by
  unfold thrOk at h ⊢
  simp only [Bool.and_eq_true, decide_eq_true_eq, List.all_eq_true] at h ⊢
  exact ⟨by show (t.os.take _).length ≤ 16; rw [List.length_take]; omega, fun o ho => h.2 o (List.mem_of_mem_take ho)⟩
theorem thr_info : (Try.prog.info? 46).map (fun i => (i.zero, i.size, i.bytes)) = some (some (.slice none 0 0), 1, 24) := by kernel_rfl

section
variable {P : Program} {E base : Nat} {v : Value}
theorem step_append_all {ops : Array Oper} {o : Oper} {a : Act} {K : Act → World → Prop} {Q : Exit → Act → World → Prop} {F : Prop} {xs : List Value} (hg : o.guard = none) (s x : Operand) (t : TypeId)
    (ho : o.op = Op.call { callee := Callee.builtin Builtin.append, args := #[s, x], argTypes := #[t, t] })
    (i : TypeInfo) (z : Value) (bytes : Nat) (ht : P.underlying t = some (.slice E)) (hi : P.info? E = some i ∧ i.zero = some z ∧ i.size = 1 ∧ i.bytes = bytes) (hzs : z.cells.size = 1) (hs : a.eval s = v) (w : World) (hown : Own E base w v xs)
    {ad : Addr} {c : Nat} {ys : List Value} (hx : a.eval x = .slice (some ad) ys.length c) (hr : ∀ j u, ys[j]? = some u → w.cell? (ad.add j) = some u) (h1 : ∀ u ∈ ys, u.oneCell' = true)
    (h63 : xs.length + ys.length ≤ maxLen) (hbytes : (xs.length + ys.length) * bytes ≤ 140737488355328) (hbase : base ≤ w.heap.size)
    (h : ∀ v' w', Own E base w' v' (xs ++ ys) → w.grownBy w' v.ownBlock → K (a.put o.dst v') w') :
    if Region.wanted o (yielded ops a.tmps) = true then Oper.wp P o a w K Q else F := by
  have hw : Region.wanted o (yielded ops a.tmps) = true := by simp [Region.wanted, hg]
  rw [if_pos hw]
  obtain ⟨hi, hz, hsize, hby⟩ := hi
  obtain ⟨v', w', hrun, h2, h3, _, h5⟩ := run_append_own_at (P := P) w base t o.type E i z 1 bytes ht hi hz hsize hby hzs (by omega) v xs.length xs hown ad ys.length c ys (by simp) hr h1 h63 hbytes hbase
  unfold Oper.wp
  simp [execOp, ho, resolve, invoke, builtin, hs, hx, hrun, Result.andThen]
  exact h v' w' (by simpa [Own] using h2) h3
end
end Go.Proofs.Ytmjdamcbdclgpaa
