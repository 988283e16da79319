/- An append onto a row of the call's own, as one step of a region that draws its order. -/
import Derived.Test.YtmjdamcbdclgpaaM1
import Derived.Deep.RegionLaw
namespace Go.Proofs.Ytmjdamcbdclgpaa
open Go.RowKit
set_option linter.unusedVariables false

section
variable {P : Program} {E base : Nat} {v : Value}
theorem step_append_one {ops : Array Oper} {o : Oper} {a : Act} {K : Act → World → Prop} {Q : Exit → Act → World → Prop} {F : Prop} {xs : List Value} (hg : o.guard = none) (s x : Operand) (t : TypeId)
    (ho : o.op = Op.call { callee := Callee.builtin Builtin.append, args := #[s, x], argTypes := #[t, t] })
    (i : TypeInfo) (z : Value) (bytes : Nat) (ht : P.underlying t = some (.slice E)) (hi : P.info? E = some i ∧ i.zero = some z ∧ i.size = 1 ∧ i.bytes = bytes) (hzs : z.cells.size = 1) (hs : a.eval s = v) (w : World) (u : Value) (h1 : u.oneCell' = true) (hown : Own E base w v xs)
    (hx : a.eval x = .slice (some ⟨w.heap.size, 0, none⟩) 1 1)
    (h63 : xs.length + 1 ≤ maxLen) (hbytes : (xs.length + 1) * bytes ≤ 140737488355328) (hbase : base ≤ w.heap.size)
    (h : ∀ v' w', Own E base w' v' (xs ++ [u]) → w.grownBy w' v.ownBlock → K (a.put o.dst v') w') :
    if Region.wanted o (yielded ops a.tmps) = true then Oper.wp P o a (w.alloc (.cells #[u] E)) K Q else F := by
  have hw : Region.wanted o (yielded ops a.tmps) = true := by simp [Region.wanted, hg]
  rw [if_pos hw]
  obtain ⟨hi, hz, hsize, hby⟩ := hi
  obtain ⟨v', w', hrun, h2, h3, _, h5⟩ := run_append_own_at (P := P) (w.alloc (.cells #[u] E)) base t o.type E i z 1 bytes ht hi hz hsize hby hzs (by omega) v xs.length xs (hown.alloc _) ⟨w.heap.size, 0, none⟩ 1 1 [u] rfl
    (fun j y hy => by
      have hj : j = 0 := by
        have := (List.getElem?_eq_some_iff.1 hy).1
        simp at this
        exact this
      subst hj
      simp at hy
      subst hy
      exact World.cell?_alloc_new w #[u] E 0) (by simpa using h1) h63 hbytes (by rw [World.size_alloc]; omega)
  unfold Oper.wp
  simp [execOp, ho, resolve, invoke, builtin, hs, hx, hrun, Result.andThen]
  exact h v' w' (by simpa [Own] using h2) (grownBy_trans (World.grownBy_alloc _ _ _) h3)

theorem step_append_one4 {ops : Array Oper} {o : Oper} {a : Act} {K : Act → World → Prop} {Q : Exit → Act → World → Prop} {F : Prop} {rs : List (List Value)} (hg : o.guard = none) (s x : Operand) (t : TypeId)
    (ho : o.op = Op.call { callee := Callee.builtin Builtin.append, args := #[s, x], argTypes := #[t, t] })
    (i : TypeInfo) (z : Value) (bytes : Nat) (ht : P.underlying t = some (.slice E)) (hi : P.info? E = some i ∧ i.zero = some z ∧ i.size = 4 ∧ i.bytes = bytes) (hzs : z.cells.size = 4) (hs : a.eval s = v) (w : World) (u0 u1 u2 u3 : Value) (h1 : ∀ u ∈ [u0, u1, u2, u3], u.oneCell' = true) (hown : Own4 E base w v rs)
    (hx : a.eval x = .slice (some ⟨w.heap.size, 0, none⟩) 1 1)
    (h63 : rs.length + 1 ≤ maxLen) (hbytes : (rs.length + 1) * bytes ≤ 140737488355328) (hbase : base ≤ w.heap.size)
    (h : ∀ v' w', Own4 E base w' v' (rs ++ [[u0, u1, u2, u3]]) → w.grownBy w' v.ownBlock → K (a.put o.dst v') w') :
    if Region.wanted o (yielded ops a.tmps) = true then Oper.wp P o a (w.alloc (.cells #[u0, u1, u2, u3] E)) K Q else F := by
  have hw : Region.wanted o (yielded ops a.tmps) = true := by simp [Region.wanted, hg]
  rw [if_pos hw]
  obtain ⟨hi, hz, hsize, hby⟩ := hi
  obtain ⟨v', w', hrun, h2, h3, _, h5⟩ := run_append_own_at (P := P) (w.alloc (.cells #[u0, u1, u2, u3] E)) base t o.type E i z 4 bytes ht hi hz hsize hby hzs (by omega) v rs.length rs.flatten (hown.2.kept (World.grownBy_alloc _ _ none) (by cases v.ownBlock <;> simp)) ⟨w.heap.size, 0, none⟩ 1 1 [u0, u1, u2, u3] rfl
    (fun j y hy => by
      rw [Addr.add_lit, World.cell?_alloc_new w #[u0, u1, u2, u3] E (0 + j), Nat.zero_add]
      simpa using hy) h1 h63 hbytes (by rw [World.size_alloc]; omega)
  unfold Oper.wp
  simp [execOp, ho, resolve, invoke, builtin, hs, hx, hrun, Result.andThen]
  refine h v' w' ⟨fun r hr => ?_, by simpa using h2⟩ (grownBy_trans (World.grownBy_alloc _ _ _) h3)
  rcases List.mem_append.1 hr with hr | hr
  · exact hown.1 r hr
  · simp at hr; subst hr; rfl
end
end Go.Proofs.Ytmjdamcbdclgpaa
