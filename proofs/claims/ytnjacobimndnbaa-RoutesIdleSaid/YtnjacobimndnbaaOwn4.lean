/- Rows of the call's own, of elements of four cells: what append makes of them. -/
import Derived.Test.YtnjacobimndnbaaOwn
import Derived.Test.YtnjacobimndnbaaFlat
namespace Go.Proofs.Ytnjacobimndnbaa
open Go.RowKit
set_option linter.unusedVariables false

/-- The slice v, made from block 'base' on, holds just these elements, of four cells each. -/
def Own4 (E base : Nat) (w : World) (v : Value) (rs : List (List Value)) : Prop := (∀ r ∈ rs, r.length = 4) ∧ w.ownsRow base E 4 v rs.length rs.flatten

theorem len_flat {l : List (List Value)} (h : ∀ r ∈ l, r.length = 4) : l.flatten.length = l.length * 4 := by
  induction l with
  | nil => rfl
  | cons a l ih =>
    rw [List.flatten_cons, List.length_append, ih fun r hr => h r (List.mem_cons_of_mem _ hr), h a (List.mem_cons_self ..), List.length_cons]
    omega

section
variable {P : Program} {w w' : World} {E base : Nat} {v : Value} {rs : List (List Value)}
theorem Own4.slice (h : Own4 E base w v rs) : ∃ A c, v = .slice A rs.length c ∧ rs.length ≤ c ∧ c ≤ maxLen := by
  rcases h.2.2 with ⟨rfl, hn⟩ | ⟨g, cap, cur, rfl, _, _, h1, h2, _⟩
  · exact ⟨none, 0, by rw [hn], by omega, by simp [maxLen]⟩
  · exact ⟨_, _, rfl, h1, h2⟩
theorem Own4.rows {A : Option Addr} {n c : Nat} (h : Own4 E base w (.slice A n c) rs) : Rows4 w w.heap.size A rs := fun hn => by
  rcases h.2.2 with ⟨hv, h0⟩ | ⟨g, cap, cur, hv, _, hh, h1, h2, h3, h4⟩
  · omega
  · injection hv with hA
    subst hA
    refine ⟨_, rfl, block_lt hh, fun i r hr j u hu => ?_⟩
    rw [Addr.add_lit, Nat.zero_add, block_cell hh]
    have hj : j < 4 := by
      rw [← h.1 r (List.mem_of_getElem? hr)]
      exact (List.getElem?_eq_some_iff.1 hu).1
    have hf := (flat4 h.1 hr hj).trans hu
    rw [← h4] at hf
    have hlt : i * 4 + j < rs.length * 4 := by
      have := (List.getElem?_eq_some_iff.1 hr).1
      omega
    rw [List.getElem?_take_of_lt hlt] at hf
    simpa using hf
theorem Own4.lt (h : Own4 E base w v rs) : ∀ k, v.ownBlock = some k → base ≤ k ∧ k < w.heap.size := World.ownsRow.lt h.2
theorem Own4.kept {row : Option Nat} (h : Own4 E base w v rs) (g : w.grownBy w' row) (hne : v.ownBlock = none ∨ v.ownBlock ≠ row) : Own4 E base w' v rs := ⟨h.1, World.ownsRow.kept h.2 g hne⟩
theorem Own4.kept0 (h : Own4 E base w v rs) (g : w.grownBy w' none) : Own4 E base w' v rs := h.kept g (by cases v.ownBlock <;> simp)
theorem Own4.alloc (h : Own4 E base w v rs) (o : Obj) : Own4 E base (w.alloc o) v rs := h.kept0 (World.grownBy_alloc _ _ _)
theorem Own4.empty (hb : base ≤ w.heap.size) : Own4 E base (w.alloc (.cells #[] E)) (.slice (some ⟨w.heap.size, 0, none⟩) 0 0) [] :=
  ⟨by simp, World.ownsRow_made w #[] 0 hb (by simp [maxLen]) (by simp)⟩
theorem Own4.nil : Own4 E base w (.slice none 0 0) [] := ⟨by simp, World.ownsRow_nil _ _ _ _⟩
theorem Own4.apart {g T : Nat} {cs : Array Value} (h : Own4 E base w v rs) (hg : w.heap[g]? = some (.cells cs T (0, 0))) (hT : E ≠ T) : v.ownBlock ≠ some g := by
  rcases h.2.2 with ⟨rfl, _⟩ | ⟨g', cap, cur, rfl, _, hh, _⟩
  · simp [Value.ownBlock]
  · intro he
    have e : g' = g := by simpa [Value.ownBlock] using he
    subst e
    have := hh.symm.trans hg
    simp at this
    exact hT this.2

/-- An element more: what was made in a new block of its own is appended. -/
theorem wpList_append_one4 {ops : Array Oper} {rest : List Oper} {o : Oper} {a : Act} {Q : Exit → Act → World → Prop} (hgd : o.guard = none) (s x : Operand) (t : TypeId)
    (ho : o.op = .call { callee := .builtin .append, args := #[s, x], argTypes := #[t, t] })
    (i : TypeInfo) (z : Value) (bytes : Nat) (ht : P.underlying t = some (.slice E)) (hi : P.info? E = some i) (hz : i.zero = some z)
    (hsize : i.size = 4) (hby : i.bytes = bytes) (hzs : z.cells.size = 4) (hs : a.eval s = v) (w : World) (u0 u1 u2 u3 : Value) (h1 : ∀ u ∈ [u0, u1, u2, u3], u.oneCell' = true) (hown : Own4 E base w v rs)
    (hx : a.eval x = .slice (some ⟨w.heap.size, 0, none⟩) 1 1)
    (h63 : rs.length + 1 ≤ maxLen) (hbytes : (rs.length + 1) * bytes ≤ 140737488355328) (hbase : base ≤ w.heap.size)
    (h : ∀ v' w', Own4 E base w' v' (rs ++ [[u0, u1, u2, u3]]) → w.grownBy w' v.ownBlock → (v'.ownBlock = v.ownBlock ∨ ∃ k, v'.ownBlock = some k ∧ w.heap.size ≤ k) → wpList P ops Q rest (a.put o.dst v') w') :
    wpList P ops Q (o :: rest) a (w.alloc (.cells #[u0, u1, u2, u3] E)) := by
  refine wpList_plain hgd fun _ hK => ?_
  obtain ⟨v', w', hrun, h2, h3, _, h5⟩ := run_append_own_at (P := P) (w.alloc (.cells #[u0, u1, u2, u3] E)) base t o.type E i z 4 bytes ht hi hz hsize hby hzs (by omega) v rs.length rs.flatten (hown.2.kept (World.grownBy_alloc _ _ none) (by cases v.ownBlock <;> simp)) ⟨w.heap.size, 0, none⟩ 1 1 [u0, u1, u2, u3] rfl
    (fun j y hy => by
      rw [Addr.add_lit, World.cell?_alloc_new w #[u0, u1, u2, u3] E (0 + j), Nat.zero_add]
      simpa using hy) h1 h63 hbytes (by rw [World.size_alloc]; omega)
  unfold Oper.wp execOp
  simp only [ho, resolve, invoke, builtin, Sem.run_bind, Sem.run_pure, Result.andThen_ok, List.map_toArray, List.map_cons, List.map_nil, hs, hx, hrun]
  refine hK _ _ (h v' w' ⟨fun r hr => ?_, by simpa using h2⟩ (grownBy_trans (World.grownBy_alloc _ _ _) h3) ?_)
  · rcases List.mem_append.1 hr with hr | hr
    · exact hown.1 r hr
    · simp at hr; subst hr; rfl
  · rcases h5 with h5 | h5
    · exact .inl h5
    · exact .inr ⟨_, h5, by simp⟩

/-- A slice that was there is appended whole. -/
theorem wpList_append_all4 {ops : Array Oper} {rest : List Oper} {o : Oper} {a : Act} {Q : Exit → Act → World → Prop} (hgd : o.guard = none) (s x : Operand) (t : TypeId)
    (ho : o.op = .call { callee := .builtin .append, args := #[s, x], argTypes := #[t, t] })
    (i : TypeInfo) (z : Value) (bytes : Nat) (ht : P.underlying t = some (.slice E)) (hi : P.info? E = some i) (hz : i.zero = some z)
    (hsize : i.size = 4) (hby : i.bytes = bytes) (hzs : z.cells.size = 4) (hs : a.eval s = v) (w : World) (hown : Own4 E base w v rs)
    {B : Nat} {A : Option Addr} {c : Nat} {ys : List (List Value)} (hy4 : ∀ r ∈ ys, r.length = 4) (h0 : 0 < ys.length) (hx : a.eval x = .slice A ys.length c) (hr : Rows4 w B A ys) (h1 : ∀ r ∈ ys, ∀ u ∈ r, u.oneCell' = true)
    (h63 : rs.length + ys.length ≤ maxLen) (hbytes : (rs.length + ys.length) * bytes ≤ 140737488355328) (hbase : base ≤ w.heap.size)
    (h : ∀ v' w', Own4 E base w' v' (rs ++ ys) → w.grownBy w' v.ownBlock → (v'.ownBlock = v.ownBlock ∨ ∃ k, v'.ownBlock = some k ∧ w.heap.size ≤ k) → wpList P ops Q rest (a.put o.dst v') w') :
    wpList P ops Q (o :: rest) a w := by
  refine wpList_plain hgd fun _ hK => ?_
  obtain ⟨ad, rfl, _, hc⟩ := hr h0
  obtain ⟨v', w', hrun, h2, h3, _, h5⟩ := run_append_own_at (P := P) w base t o.type E i z 4 bytes ht hi hz hsize hby hzs (by omega) v rs.length rs.flatten hown.2 ad ys.length c ys.flatten (len_flat hy4)
    (fun j u hu => by
      have hj : j < ys.length * 4 := by rw [← len_flat hy4]; exact (List.getElem?_eq_some_iff.1 hu).1
      have hi : j / 4 < ys.length := by omega
      have e := flat4 (i := j / 4) hy4 (List.getElem?_eq_getElem hi) (j := j % 4) (by omega)
      have ej : j / 4 * 4 + j % 4 = j := by omega
      rw [ej] at e
      have := hc (j / 4) _ (List.getElem?_eq_getElem hi) (j % 4) u (by rw [← e]; exact hu)
      rwa [ej] at this)
    (fun u hu => by
      obtain ⟨r, hr, hur⟩ := List.mem_flatten.1 hu
      exact h1 r hr u hur) h63 hbytes hbase
  unfold Oper.wp execOp
  simp only [ho, resolve, invoke, builtin, Sem.run_bind, Sem.run_pure, Result.andThen_ok, List.map_toArray, List.map_cons, List.map_nil, hs, hx, hrun]
  refine hK _ _ (h v' w' ⟨fun r hr => ?_, by rw [List.length_append, List.flatten_append]; exact h2⟩ h3 ?_)
  · rcases List.mem_append.1 hr with hr | hr
    · exact hown.1 r hr
    · exact hy4 r hr
  · rcases h5 with h5 | h5
    · exact .inl h5
    · exact .inr ⟨_, h5, Nat.le_refl _⟩
end
end Go.Proofs.Ytnjacobimndnbaa
