/- Rows of the call's own, of elements of m cells: what append makes of them, and a store into one cell. -/
import Derived.Test.YtglnofdncglmnaaOwn
import Derived.Test.YtglnofdncglmnaaRowsN
namespace Go.Proofs.Ytglnofdncglmnaa
open Go.RowKit
set_option linter.unusedVariables false

section
variable {m : Nat} {l : List (List Value)}
theorem flatN (h : ∀ r ∈ l, r.length = m) {i : Nat} {r : List Value} (hi : l[i]? = some r) {j : Nat} (hj : j < m) : l.flatten[i * m + j]? = r[j]? := by
  induction l generalizing i with
  | nil => simp at hi
  | cons a l ih =>
    have ha : a.length = m := h a (List.mem_cons_self ..)
    rw [List.flatten_cons]
    cases i with
    | zero =>
      simp at hi
      subst hi
      rw [Nat.zero_mul, Nat.zero_add, List.getElem?_append_left (by omega)]
    | succ i =>
      rw [List.getElem?_append_right (by rw [ha, Nat.succ_mul]; omega), ha, show (i + 1) * m + j - m = i * m + j by rw [Nat.succ_mul]; omega]
      exact ih (fun r hr => h r (List.mem_cons_of_mem _ hr)) (by simpa using hi)
theorem lenN (h : ∀ r ∈ l, r.length = m) : l.flatten.length = l.length * m := by
  induction l with
  | nil => simp
  | cons a l ih =>
    rw [List.flatten_cons, List.length_append, ih fun r hr => h r (List.mem_cons_of_mem _ hr), h a (List.mem_cons_self ..), List.length_cons, Nat.succ_mul]
    omega
theorem flat_setN (h4 : ∀ r ∈ l, r.length = m) {k j : Nat} (hk : k < l.length) (hj : j < m) (u : Value) : (l.set k (l[k].set j u)).flatten = l.flatten.set (k * m + j) u := by
  induction l generalizing k with
  | nil => simp at hk
  | cons a l ih =>
    have ha : a.length = m := h4 a (List.mem_cons_self ..)
    cases k with
    | zero =>
      simp only [List.set_cons_zero, List.flatten_cons, List.getElem_cons_zero, Nat.zero_mul, Nat.zero_add]
      rw [List.set_append_left _ _ (by omega)]
    | succ k =>
      simp only [List.set_cons_succ, List.flatten_cons, List.getElem_cons_succ]
      rw [ih (fun r hr => h4 r (List.mem_cons_of_mem _ hr)) (by simpa using hk), List.set_append_right _ _ (by rw [ha, Nat.succ_mul]; omega), ha]
      congr 2
      rw [Nat.succ_mul]
      omega
end

/-- The slice v, made from block 'base' on, holds just these elements, of m cells each. -/
def OwnN (m E base : Nat) (w : World) (v : Value) (rs : List (List Value)) : Prop := (∀ r ∈ rs, r.length = m) ∧ w.ownsRow base E m v rs.length rs.flatten
section
variable {m : Nat} {P : Program} {w w' : World} {E base : Nat} {v : Value} {rs : List (List Value)}
theorem OwnN.slice (h : OwnN m E base w v rs) : ∃ A c, v = .slice A rs.length c ∧ rs.length ≤ c ∧ c ≤ maxLen := by
  rcases h.2.2 with ⟨rfl, hn⟩ | ⟨g, cap, cur, rfl, _, _, h1, h2, _⟩
  · exact ⟨none, 0, by rw [hn], by omega, by simp [maxLen]⟩
  · exact ⟨_, _, rfl, h1, h2⟩
theorem OwnN.rows {A : Option Addr} {n c : Nat} (h : OwnN m E base w (.slice A n c) rs) : RowsN m w w.heap.size A rs := fun hn => by
  rcases h.2.2 with ⟨hv, h0⟩ | ⟨g, cap, cur, hv, _, hh, h1, h2, h3, h4⟩
  · omega
  · injection hv with hA
    subst hA
    refine ⟨_, rfl, block_lt hh, fun i r hr j u hu => ?_⟩
    rw [Addr.add_lit, Nat.zero_add, block_cell hh]
    have hj : j < m := by
      rw [← h.1 r (List.mem_of_getElem? hr)]
      exact (List.getElem?_eq_some_iff.1 hu).1
    have hf := (flatN h.1 hr hj).trans hu
    rw [← h4] at hf
    have hlt : i * m + j < rs.length * m := by
      have h5 := (List.getElem?_eq_some_iff.1 hr).1
      have h6 : (i + 1) * m ≤ rs.length * m := Nat.mul_le_mul_right m h5
      rw [Nat.succ_mul] at h6
      omega
    rw [List.getElem?_take_of_lt hlt] at hf
    simpa using hf
theorem OwnN.lt (h : OwnN m E base w v rs) : ∀ k, v.ownBlock = some k → base ≤ k ∧ k < w.heap.size := World.ownsRow.lt h.2
theorem OwnN.kept {row : Option Nat} (h : OwnN m E base w v rs) (g : w.grownBy w' row) (hne : v.ownBlock = none ∨ v.ownBlock ≠ row) : OwnN m E base w' v rs := ⟨h.1, World.ownsRow.kept h.2 g hne⟩
theorem OwnN.kept0 (h : OwnN m E base w v rs) (g : w.grownBy w' none) : OwnN m E base w' v rs := h.kept g (by cases v.ownBlock <;> simp)
theorem OwnN.alloc (h : OwnN m E base w v rs) (o : Obj) : OwnN m E base (w.alloc o) v rs := h.kept0 (World.grownBy_alloc _ _ _)
theorem OwnN.empty (hb : base ≤ w.heap.size) : OwnN m E base (w.alloc (.cells #[] E)) (.slice (some ⟨w.heap.size, 0, none⟩) 0 0) [] :=
  ⟨by simp, World.ownsRow_made w #[] 0 hb (by simp [maxLen]) (by simp)⟩
theorem OwnN.nil : OwnN m E base w (.slice none 0 0) [] := ⟨by simp, World.ownsRow_nil _ _ _ _⟩
theorem OwnN.apart {g T : Nat} {cs : Array Value} (h : OwnN m E base w v rs) (hg : w.heap[g]? = some (.cells cs T (0, 0))) (hT : E ≠ T) : v.ownBlock ≠ some g := by
  rcases h.2.2 with ⟨rfl, _⟩ | ⟨g', cap, cur, rfl, _, hh, _⟩
  · simp [Value.ownBlock]
  · intro he
    have e : g' = g := by simpa [Value.ownBlock] using he
    subst e
    have := hh.symm.trans hg
    simp at this
    exact hT this.2
theorem OwnN.blockAt {n c : Nat} {A : Option Addr} (h : OwnN m E base w (.slice A n c) rs) (hn : 0 < rs.length) : ∃ g cur, A = some ⟨g, 0, none⟩ ∧ base ≤ g ∧ w.heap[g]? = some (.cells cur E (0, 0)) ∧ cur.toList.take (rs.length * m) = rs.flatten := by
  rcases h.2.2 with ⟨hv, h0⟩ | ⟨g, cap, cur, hv, hb, hh, h1, h2, h3, h5⟩
  · omega
  · cases hv
    exact ⟨g, cur, rfl, hb, hh, h5⟩
theorem OwnN.setAt {g n cap k j : Nat} (h : OwnN m E base w (.slice (some ⟨g, 0, none⟩) n cap) rs) (hk : k < rs.length) (hj : j < m) (u : Value) :
    OwnN m E base (w.setCell ⟨g, k * m + j, none⟩ u) (.slice (some ⟨g, 0, none⟩) n cap) (rs.set k (rs[k].set j u)) := by
  obtain ⟨h4, hlen, h⟩ := h
  rcases h with ⟨hv, _⟩ | ⟨g', cap', cur, hv, hb, hh, h1, h2, h3, h5⟩
  · cases hv
  · cases hv
    refine ⟨fun r hr => ?_, by rw [flat_setN h4 hk hj, List.length_set, List.length_set]; exact hlen, .inr ⟨g, cap, _, by rw [List.length_set], hb, block_setCell hh u, by rw [List.length_set]; exact h1, h2, by simpa using h3, ?_⟩⟩
    · rcases List.mem_or_eq_of_mem_set hr with hr | rfl
      · exact h4 r hr
      · rw [List.length_set]
        exact h4 _ (List.getElem_mem hk)
    · rw [flat_setN h4 hk hj, List.length_set, ← h5, Array.toList_setIfInBounds, List.take_set]

/-- An element more: what was made in a new block of its own is appended. -/
theorem wpList_append_oneN {ops : Array Oper} {rest : List Oper} {o : Oper} {a : Act} {Q : Exit → Act → World → Prop} (hgd : o.guard = none) (s x : Operand) (t : TypeId)
    (ho : o.op = .call { callee := .builtin .append, args := #[s, x], argTypes := #[t, t] })
    (i : TypeInfo) (z : Value) (bytes : Nat) (ht : P.underlying t = some (.slice E)) (hi : P.info? E = some i ∧ i.zero = some z ∧ i.size = m ∧ i.bytes = bytes) (hzs : z.cells.size = m) (hm : 0 < m) (hs : a.eval s = v) (w : World) (us : List Value) (hul : us.length = m) (h1 : ∀ u ∈ us, u.oneCell' = true) (hown : OwnN m E base w v rs)
    (hx : a.eval x = .slice (some ⟨w.heap.size, 0, none⟩) 1 1)
    (h63 : rs.length + 1 ≤ maxLen) (hbytes : (rs.length + 1) * bytes ≤ 140737488355328) (hbase : base ≤ w.heap.size)
    (h : ∀ v' w', OwnN m E base w' v' (rs ++ [us]) → w.grownBy w' v.ownBlock → wpList P ops Q rest (a.put o.dst v') w') :
    wpList P ops Q (o :: rest) a (w.alloc (.cells us.toArray E)) := by
  refine wpList_plain hgd fun _ hK => ?_
  obtain ⟨hi, hz, hsize, hby⟩ := hi
  obtain ⟨v', w', hrun, h2, h3, _, h5⟩ := run_append_own_at (P := P) (w.alloc (.cells us.toArray E)) base t o.type E i z m bytes ht hi hz hsize hby hzs hm v rs.length rs.flatten (hown.2.kept (World.grownBy_alloc _ _ none) (by cases v.ownBlock <;> simp)) ⟨w.heap.size, 0, none⟩ 1 1 us (by omega)
    (fun j y hy => by
      rw [Addr.add_lit, World.cell?_alloc_new w us.toArray E (0 + j), Nat.zero_add]
      simpa using hy) h1 h63 hbytes (by rw [World.size_alloc]; omega)
  unfold Oper.wp execOp
  simp only [ho, resolve, invoke, builtin, Sem.run_bind, Sem.run_pure, Result.andThen_ok, List.map_toArray, List.map_cons, List.map_nil, hs, hx, hrun]
  refine hK _ _ (h v' w' ⟨fun r hr => ?_, by simpa using h2⟩ (grownBy_trans (World.grownBy_alloc _ _ _) h3))
  rcases List.mem_append.1 hr with hr | hr
  · exact hown.1 r hr
  · simp at hr; subst hr; exact hul
end
end Go.Proofs.Ytglnofdncglmnaa
