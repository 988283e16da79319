/- Rules that a call puts in a row of its own. -/
import Derived.Test.YtnjacobimndnbaaRin
import Derived.Test.YtnjacobimndnbaaOwn4
namespace Go.Proofs.Ytnjacobimndnbaa
open Go.RowKit
set_option linter.unusedVariables false
set_option linter.unusedSimpArgs false
set_option maxRecDepth 100000

theorem rule_info : (Try.prog.info? 31).map (fun i => (i.zero, i.size, i.bytes)) = some (some (.agg #[.int .i64 0, .string ⟨#[]⟩, .string ⟨#[]⟩, .int .i64 0]), 4, 48) := by kernel_rfl

section
variable {P : Program} {E base : Nat} {v : Value} {rs : List (List Value)}
/-- A slice that was there, or an empty one, is appended whole. -/
theorem wpList_append_any4 {ops : Array Oper} {rest : List Oper} {o : Oper} {a : Act} {Q : Exit → Act → World → Prop} (hgd : o.guard = none) (s x : Operand) (t : TypeId)
    (ho : o.op = .call { callee := .builtin .append, args := #[s, x], argTypes := #[t, t] })
    (i : TypeInfo) (z : Value) (bytes : Nat) (ht : P.underlying t = some (.slice E)) (hi : P.info? E = some i) (hz : i.zero = some z)
    (hsize : i.size = 4) (hby : i.bytes = bytes) (hzs : z.cells.size = 4) (hs : a.eval s = v) (w : World) (hown : Own4 E base w v rs)
    {B : Nat} {A : Option Addr} {c : Nat} {ys : List (List Value)} (hy4 : ∀ r ∈ ys, r.length = 4) (hx : a.eval x = .slice A ys.length c) (hr : Rows4 w B A ys) (h1 : ∀ r ∈ ys, ∀ u ∈ r, u.oneCell' = true)
    (h63 : rs.length + ys.length ≤ maxLen) (hbytes : (rs.length + ys.length) * bytes ≤ 140737488355328) (hbase : base ≤ w.heap.size)
    (h : ∀ v' w', Own4 E base w' v' (rs ++ ys) → w.grownBy w' v.ownBlock → (v'.ownBlock = v.ownBlock ∨ ∃ k, v'.ownBlock = some k ∧ w.heap.size ≤ k) → wpList P ops Q rest (a.put o.dst v') w') :
    wpList P ops Q (o :: rest) a w := by
  by_cases h0 : 0 < ys.length
  · exact wpList_append_all4 hgd s x t ho i z bytes ht hi hz hsize hby hzs hs w hown hy4 h0 hx hr h1 h63 hbytes hbase h
  · obtain rfl : ys = [] := List.eq_nil_of_length_eq_zero (by omega)
    refine wpList_plain hgd fun _ hK => ?_
    rcases A with _ | ad
    · have hrun : (Builtin.append_ #[t, t] o.type #[v, .slice none 0 c]).run P w = .ok v w := by
        rcases hown.2.2 with ⟨rfl, hn⟩ | ⟨g, cap, cur, rfl, _, _, hnc, _⟩
        · simp [Builtin.append_, run_underlying ht, sizeOf, typeInfo, hi, Builtin.lenOf, Builtin.firstCells]
        · simp [Builtin.append_, run_underlying ht, sizeOf, typeInfo, hi, Builtin.lenOf, Builtin.firstCells, hnc, storeCells]
      unfold Oper.wp execOp
      simp only [ho, resolve, invoke, builtin, Sem.run_bind, Sem.run_pure, Result.andThen_ok, List.map_toArray, List.map_cons, List.map_nil, hs, hx, hrun, List.length_nil]
      exact hK _ _ (h v w (by simpa using hown) (World.grownBy.refl w _) (.inl rfl))
    · obtain ⟨v', w', hrun, h2, h3, _, h5⟩ := run_append_own_at (P := P) w base t o.type E i z 4 bytes ht hi hz hsize hby hzs (by omega) v rs.length rs.flatten hown.2 ad 0 c [] rfl
        (fun j u hu => by simp at hu) (fun u hu => by cases hu) (by simpa using h63) (by simpa using hbytes) hbase
      unfold Oper.wp execOp
      simp only [ho, resolve, invoke, builtin, Sem.run_bind, Sem.run_pure, Result.andThen_ok, List.map_toArray, List.map_cons, List.map_nil, hs, hx, hrun, List.length_nil]
      refine hK _ _ (h v' w' ⟨fun r hr => hown.1 r (by simpa using hr), by simpa using h2⟩ h3 ?_)
      rcases h5 with h5 | h5
      · exact .inl h5
      · exact .inr ⟨_, h5, Nat.le_refl _⟩
end

theorem cells4 (l : List Rl) : ∀ r ∈ l.map Rl.cells, r.length = 4 := fun r hr => by
  obtain ⟨x, _, rfl⟩ := List.mem_map.1 hr
  rfl
theorem cells1 (l : List Rl) : ∀ r ∈ l.map Rl.cells, ∀ u ∈ r, u.oneCell' = true := fun r hr => by
  obtain ⟨x, _, rfl⟩ := List.mem_map.1 hr
  intro u hu
  simp [Rl.cells] at hu
  rcases hu with rfl | rfl | rfl | rfl <;> rfl

/-- The row v, made since wb, holds just these rules. -/
structure MadeR (wb wr : World) (v : Value) (l : List Rl) : Prop where
  B : Below wb.heap.size wb wr
  own : Own4 31 wb.heap.size wr v (l.map Rl.cells)
section
variable {wb wr w' : World} {v v' : Value} {l m : List Rl}
theorem MadeR.below (h : MadeR wb wr v l) (k : Below wr.heap.size wr w') : MadeR wb w' v l := ⟨below_next h.B k, h.own.kept0 (grownBy_below k)⟩
theorem MadeR.grown (h : MadeR wb wr v l) (g : wr.grownBy w' v.ownBlock) (o : Own4 31 wb.heap.size w' v' (l.map Rl.cells ++ m.map Rl.cells)) : MadeR wb w' v' (l ++ m) :=
  ⟨h.B.trans (below_grownBy g h.B.size fun k hk => (h.own.lt k hk).1), by rw [List.map_append]; exact o⟩
theorem MadeR.start {w : World} (h : Below wb.heap.size wb w) : MadeR wb (w.alloc (.cells #[] 31)) (.slice (some ⟨w.heap.size, 0, none⟩) 0 0) [] := ⟨below_alloc h (Nat.le_refl _), Own4.empty h.size⟩
theorem MadeR.rules (h : MadeR wb wr v l) : ∃ A c, v = .slice A l.length c ∧ RulesIn wr wr.heap.size A c l := by
  obtain ⟨A, c, e, h1, h2⟩ := h.own.slice
  subst e
  rw [List.length_map] at h1
  exact ⟨A, c, by rw [List.length_map], h.own.rows, h1, h2⟩
end
end Go.Proofs.Ytnjacobimndnbaa
