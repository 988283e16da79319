/- shard.New, copied, Add of the program: rows that make makes, each in the block behind the one before. -/
import Derived.Test.YtbbcgcinpodhkaaFwis
import Derived.Laws.CopyOwn
namespace Go.Proofs.Ytbbcgcinpodhkaa
open Go.RowKit
set_option linter.unusedVariables false
set_option linter.unusedSimpArgs false
set_option maxRecDepth 100000

/-- make([]T, n): the new block, said outright. -/
theorem wpList_make_alloc {P : Program} (w : World) {ops : Array Oper} {rest : List Oper} {o : Oper} {a : Act} {Q : Exit → Act → World → Prop}
    (hg : o.guard = none) (l c : Operand) (t : TypeId) (hop : o.op = Op.makeSlice t l c)
    (e : TypeId) (i : TypeInfo) (z : Value) (h1 : P.underlying t = some (.slice e)) (h2 : P.info? e = some i) (h3 : i.zero = some z) (h4 : i.size = 1) (h5 : z.cells = #[z])
    (kl kc : IntKind) (n : Nat) (hl : a.eval l = .int kl (n : Int)) (hc : a.eval c = .int kc (n : Int)) (b2 : i.bytes * n ≤ 281474976710656) (b3 : n ≤ maxLen)
    (hK : wpList P ops Q rest (a.put o.dst (.slice (some ⟨w.heap.size, 0, none⟩) n n)) (w.alloc (.cells (List.replicate n z).toArray e))) :
    wpList P ops Q (o :: rest) a w := by
  refine wpList_plain hg fun K hK' => ?_
  have h63' : (n : Int) ≤ 9223372036854775807 := by
    have h := b3
    simp [maxLen] at h
    omega
  have hb' : (i.bytes : Int) * (n : Int) ≤ 281474976710656 := by
    have h : ((i.bytes * n : Nat) : Int) ≤ 281474976710656 := by omega
    rwa [Int.natCast_mul] at h
  have hr := run_make (P := P) w t e i z h1 h2 h3 kl kc n n (by omega) (Int.le_refl _) hb' h63'
  simp only [Int.toNat_natCast] at hr
  have hm : madeCells z.cells (n * i.size) = (List.replicate n z).toArray := by
    rw [h4, h5, Nat.mul_one]
    refine Array.ext (by simp [madeCells]) fun j h1 h2 => ?_
    simp [madeCells, Nat.mod_one]
  rw [hm] at hr
  unfold Oper.wp
  simp [execOp, hop, hl, hc, hr, Result.andThen]
  exact hK' _ _ (by simpa using hK)

/-- The outer row: k rows are there, each in the block behind the one before. -/
def outC (H k T : Nat) : List Value := (List.range T).map fun i => if i < k then .slice (some ⟨H + 1 + i, 0, none⟩) 6 6 else .slice none 0 0
theorem outC_at (H k T i : Nat) : (outC H k T)[i]? = if i < T then some (if i < k then .slice (some ⟨H + 1 + i, 0, none⟩) 6 6 else .slice none 0 0) else none := by
  unfold outC
  rw [List.getElem?_map]
  by_cases h : i < T
  · rw [List.getElem?_range h, if_pos h]; rfl
  · rw [if_neg h, List.getElem?_eq_none (by simp; omega)]; rfl
theorem outC_zero (H T : Nat) : List.replicate T (.slice none 0 0) = outC H 0 T := by
  refine List.ext_getElem? fun i => ?_
  rw [outC_at, List.getElem?_replicate]
  by_cases h : i < T
  · rw [if_pos h, if_pos h, if_neg (Nat.not_lt_zero i)]
  · rw [if_neg h, if_neg h]
theorem outC_len (H k T : Nat) : (outC H k T).length = T := by simp [outC]
theorem outC_set (H T : Nat) {k : Nat} (hk : k < T) : (outC H k T).set k (.slice (some ⟨H + 1 + k, 0, none⟩) 6 6) = outC H (k + 1) T := by
  refine List.ext_getElem? fun i => ?_
  rw [List.getElem?_set, outC_len, outC_at, outC_at]
  by_cases h : k = i
  · subst h
    rw [if_pos rfl, if_pos hk, if_pos hk, if_pos (by omega)]
  · rw [if_neg h]
    by_cases h2 : i < k
    · rw [if_pos h2, if_pos (show i < k + 1 by omega)]
    · rw [if_neg h2, if_neg (show ¬ i < k + 1 by omega)]

/-- Rows that a call has made since w: the outer one in the first new block, row i in the block i + 1 behind it. -/
structure Laid (w wi : World) (T : Nat) (ls : List (List Int)) : Prop where
  b : Below w.heap.size w wi
  sz : wi.heap.size = w.heap.size + 1 + ls.length
  out : wi.heap[w.heap.size]? = some (.cells (outC w.heap.size ls.length T).toArray 39 (0, 0))
  row : ∀ i l, ls[i]? = some l → wi.heap[w.heap.size + 1 + i]? = some (.cells (l.map (Value.int .u64)).toArray 27 (0, 0))
  six : ∀ l ∈ ls, l.length = 6 ∧ ∀ x ∈ l, U64 x
def rwsAt (H : Nat) (ls : List (List Int)) : List Rw := ls.mapIdx fun i l => ⟨some ⟨H + 1 + i, 0, none⟩, 6, l⟩
theorem rws_vals (H : Nat) (ls : List (List Int)) : valsOf (rwsAt H ls) = ls := by
  unfold valsOf rwsAt
  refine List.ext_getElem? fun i => ?_
  rw [List.getElem?_map, List.getElem?_mapIdx]
  rcases ls[i]? with _ | x <;> rfl
theorem rws_len (H : Nat) (ls : List (List Int)) : (rwsAt H ls).length = ls.length := by unfold rwsAt; rw [List.length_mapIdx]
section
variable {w wi : World} {T : Nat} {ls : List (List Int)}
theorem Laid.start (w : World) (T : Nat) : Laid w (w.alloc (.cells (List.replicate T (.slice none 0 0)).toArray 39)) T [] :=
  ⟨boxed _ _, by simp, by rw [outC_zero w.heap.size T]; exact heap_alloc_new _ _, fun i l h => (by cases h), fun l h => (by cases h)⟩
theorem Laid.cellO (h : Laid w wi T ls) (i : Nat) : wi.cell? ⟨w.heap.size, i, none⟩ = if i < T then some (if i < ls.length then .slice (some ⟨w.heap.size + 1 + i, 0, none⟩) 6 6 else .slice none 0 0) else none := by
  rw [block_cell h.out]
  simp [outC_at]
theorem Laid.freeO (h : Laid w wi T ls) (i : Nat) : wi.frozen? ⟨w.heap.size, i, none⟩ = false := block_free h.out _
/-- A row more. -/
theorem Laid.next (h : Laid w wi T ls) {l : List Int} (hk : ls.length < T) (h6 : l.length = 6 ∧ ∀ x ∈ l, U64 x) :
    Laid w ((wi.alloc (.cells (l.map (Value.int .u64)).toArray 27)).setCell ⟨w.heap.size, ls.length, none⟩ (.slice (some ⟨wi.heap.size, 0, none⟩) 6 6)) T (ls ++ [l]) := by
  have hsz := h.sz
  have h0 : (wi.alloc (.cells (l.map (Value.int .u64)).toArray 27)).heap[w.heap.size]? = some (.cells (outC w.heap.size ls.length T).toArray 39 (0, 0)) := by
    rw [Below.heap_alloc _ _ _ (by omega)]; exact h.out
  refine ⟨(h.b.trans ((boxed wi _).mono h.b.size)).setCell (by simp) _, by simp [World.setCell]; omega, ?_, fun i x hx => ?_, fun x hx => ?_⟩
  · rw [block_setCell h0, List.length_append, List.length_singleton, ← outC_set _ _ hk, hsz]
    congr 2
    simp
  · rw [Below.heap_setCell _ _ _ _ (by show w.heap.size + 1 + i ≠ w.heap.size; omega)]
    by_cases hi : i < ls.length
    · rw [List.getElem?_append_left hi] at hx
      rw [Below.heap_alloc _ _ _ (by omega)]
      exact h.row i x hx
    · rw [List.getElem?_append_right (by omega)] at hx
      obtain ⟨h1, h2⟩ := List.getElem?_eq_some_iff.1 hx
      simp only [List.length_singleton] at h1
      obtain rfl : i = ls.length := by omega
      simp at h2
      subst h2
      rw [← hsz]
      exact heap_alloc_new _ _
  · rcases List.mem_append.1 hx with h1 | h1
    · exact h.six x h1
    · rw [List.mem_singleton] at h1; subst h1; exact h6
/-- The last row is written over. -/
theorem Laid.over {z l : List Int} (h : Laid w wi T (ls ++ [z])) (h6 : l.length = 6 ∧ ∀ x ∈ l, U64 x) :
    Laid w (wi.setRow (w.heap.size + 1 + ls.length) (l.map (Value.int .u64)).toArray) T (ls ++ [l]) := by
  have hrow := h.row ls.length z (by simp)
  refine ⟨below_setRow h.b (by omega) _, by rw [show (wi.setRow (w.heap.size + 1 + ls.length) (l.map (Value.int .u64)).toArray).heap.size = wi.heap.size by simp [World.setRow], h.sz]; simp, ?_, fun i x hx => ?_, fun x hx => ?_⟩
  · rw [setRow_other _ _ _ _ (by omega)]
    have := h.out
    simpa using this
  · by_cases hi : i < ls.length
    · rw [setRow_other _ _ _ _ (by omega)]
      rw [List.getElem?_append_left hi] at hx
      exact h.row i x (by rw [List.getElem?_append_left hi]; exact hx)
    · rw [List.getElem?_append_right (by omega)] at hx
      obtain ⟨h1, h2⟩ := List.getElem?_eq_some_iff.1 hx
      simp only [List.length_singleton] at h1
      obtain rfl : i = ls.length := by omega
      simp at h2
      subst h2
      exact setRow_heap _ _ _ _ _ _ hrow
  · rcases List.mem_append.1 hx with h1 | h1
    · exact h.six x (List.mem_append_left _ h1)
    · rw [List.mem_singleton] at h1; subst h1; exact h6
/-- One number more in one row. -/
theorem Laid.add (h : Laid w wi T ls) {t k : Nat} {l : List Int} {x : Int} (ht : ls[t]? = some l) (hk : l[k]? = some x) :
    Laid w (wi.setCell ⟨w.heap.size + 1 + t, k, none⟩ (.int .u64 (bump x))) T (addV ls t k) := by
  have hlen := addV_len ls t k
  refine ⟨h.b.setCell (by show w.heap.size ≤ w.heap.size + 1 + t; omega) _, by rw [hlen, ← h.sz]; simp [World.setCell], ?_, fun i y hy => ?_, fun y hy => ?_⟩
  · rw [Below.heap_setCell _ _ _ _ (by show w.heap.size ≠ w.heap.size + 1 + t; omega), hlen]; exact h.out
  · rw [addV_at] at hy
    obtain ⟨y0, hy0, rfl⟩ := Option.map_eq_some_iff.1 hy
    by_cases hti : t = i
    · subst hti
      rw [ht] at hy0
      cases hy0
      rw [if_pos rfl, block_setCell (h.row t l ht)]
      congr 2
      obtain ⟨hkl, hkx⟩ := List.getElem?_eq_some_iff.1 hk
      refine Array.ext (by simp) fun j h1 h2 => ?_
      simp [List.getElem_modify, Array.getElem_setIfInBounds]
      by_cases hkj : k = j
      · subst hkj; simp [hkx]
      · simp [hkj]
    · rw [if_neg hti, Below.heap_setCell _ _ _ _ (by show w.heap.size + 1 + i ≠ w.heap.size + 1 + t; omega)]
      exact h.row i y0 hy0
  · have h6 := addV_rows (t := t) (k := k) (fun r hr => (h.six r hr).1) y hy
    refine ⟨h6, fun x' hx' => ?_⟩
    obtain ⟨i, hi⟩ := List.mem_iff_getElem?.1 hy
    rw [addV_at] at hi
    obtain ⟨y0, hy0, rfl⟩ := Option.map_eq_some_iff.1 hi
    have hu := (h.six y0 (List.mem_of_getElem? hy0)).2
    by_cases hti : t = i
    · rw [if_pos hti] at hx'
      obtain ⟨j, hj⟩ := List.mem_iff_getElem?.1 hx'
      rw [List.getElem?_modify] at hj
      obtain ⟨v, hv, rfl⟩ := Option.map_eq_some_iff.1 hj
      have huv := hu v (List.mem_of_getElem? hv)
      split
      · unfold bump U64; omega
      · exact huv
    · rw [if_neg hti] at hx'; exact hu x' hx'
theorem Laid.told (h : Laid w wi ls.length ls) (hm : ls.length ≤ maxLen) {S : Nat → Prop} : GridS S w (ls, 0) (.returned (.tuple #[.slice (some ⟨w.heap.size, 0, none⟩) ls.length ls.length, .int .i64 0])) wi := by
  have hcells : (rwsAt w.heap.size ls).map Rw.cell = outC w.heap.size ls.length ls.length := by
    refine List.ext_getElem? fun i => ?_
    rw [outC_at, List.getElem?_map]
    unfold rwsAt
    rw [List.getElem?_mapIdx]
    rcases hx : ls[i]? with _ | x
    · rw [if_neg (by have := List.getElem?_eq_none_iff.1 hx; omega)]; rfl
    · have hi := (List.getElem?_eq_some_iff.1 hx).1
      rw [if_pos hi, if_pos hi]
      have h6 := (h.six x (List.mem_of_getElem? hx)).1
      show some (Value.slice _ x.length 6) = _
      rw [h6]
  refine ⟨h.b, some ⟨w.heap.size, 0, none⟩, ls.length, rwsAt w.heap.size ls, by rw [rws_len], ⟨?_, by rw [rws_len]; exact Nat.le_refl _, hm, fun r hr => ?_⟩, rws_vals _ _, fun b hb _ => ⟨fun _ ad e => ?_, fun r hr _ ad e => ?_⟩⟩
  · rw [hcells]
    intro hn
    refine ⟨_, rfl, by have := h.sz; show w.heap.size < wi.heap.size; omega, fun i v hv => ?_⟩
    rw [show (⟨w.heap.size, 0, none⟩ : Addr).add i = ⟨w.heap.size, i, none⟩ by unfold Addr.add; split <;> simp_all]
    rw [block_cell h.out]
    simpa using hv
  · obtain ⟨i, hi⟩ := List.mem_iff_getElem?.1 hr
    unfold rwsAt at hi
    rw [List.getElem?_mapIdx] at hi
    obtain ⟨l, hl, rfl⟩ := Option.map_eq_some_iff.1 hi
    have h6 := h.six l (List.mem_of_getElem? hl)
    have hil := (List.getElem?_eq_some_iff.1 hl).1
    refine ⟨fun hn => ⟨_, rfl, by have := h.sz; show w.heap.size + 1 + i < wi.heap.size; omega, fun j v hv => ?_⟩, by show l.length ≤ 6; omega, by simp [maxLen], fun x hx => u64_wf.2 (h6.2 x hx)⟩
    rw [show (⟨w.heap.size + 1 + i, 0, none⟩ : Addr).add j = ⟨w.heap.size + 1 + i, j, none⟩ by unfold Addr.add; split <;> simp_all]
    rw [block_cell (h.row i l hl)]
    simpa using hv
  · cases e
    show w.heap.size ≠ b
    omega
  · obtain ⟨i, hi⟩ := List.mem_iff_getElem?.1 hr
    unfold rwsAt at hi
    rw [List.getElem?_mapIdx] at hi
    obtain ⟨l, hl, rfl⟩ := Option.map_eq_some_iff.1 hi
    cases e
    show w.heap.size + 1 + i ≠ b
    omega
end
theorem gridS_no {S : Nat → Prop} {w w' : World} (h : Below w.heap.size w w') : GridS S w ([], 1) (.returned (.tuple #[.slice none 0 0, .int .i64 1])) w' :=
  ⟨h, none, 0, [], rfl, GridIn.nil, rfl, fun b _ _ => ⟨fun hn => absurd hn (by simp), fun r hr => by cases hr⟩⟩
end Go.Proofs.Ytbbcgcinpodhkaa
