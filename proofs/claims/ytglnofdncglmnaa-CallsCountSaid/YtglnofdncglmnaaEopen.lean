/- Events and calls that came in, read as plain data. -/
import Derived.Test.YtglnofdncglmnaaEin
import Derived.Test.YtglnofdncglmnaaRows
import Derived.Lib.SmallJoins
import Derived.Deep.Slices
import Derived.Deep.Fields
import Derived.ChangeSame
import Derived.OpenShut
import Derived.SizedLaws
namespace Go.Proofs.Ytglnofdncglmnaa
open Go.Joins Go.ChangeShapes Go.WideShapes Go.RowKit Go.Deep
set_option linter.unusedVariables false
set_option linter.unusedSimpArgs false
set_option maxRecDepth 100000

section
variable {H : Type} {enc : TypeId × Value → H} {w : World}
theorem field_at10 {P : Program} {fs : Array Field} {n : Nat} {cs : List Value} {xs : List (DataW H × List MemPlace)} (hx : xs.length = fs.size)
    (hf : ∀ (i : Nat) (f : Field), fs[i]? = some f → DataW.trod enc P w 0 (fun _ => true) true n f.type ((cs.drop f.offset).take (P.cellsOf f.type)) = xs[i]?) (i : Nat) (f : Field) (h : fs[i]? = some f) {k : Nat} (hk : P.cellsOf f.type = k) :
    ∃ y, DataW.trod enc P w 0 (fun _ => true) true n f.type ((cs.drop f.offset).take k) = some y := by
  have h1 := hf i f h
  rw [hk] at h1
  have hi : i < xs.length := by rw [hx]; exact (Array.getElem?_eq_some_iff.1 h).1
  exact ⟨_, h1.trans (List.getElem?_eq_getElem hi)⟩

theorem an_cells {fuel : Nat} {cs : List Value} {x : DataW H × List MemPlace} (h : DataW.trod enc Try.prog w 0 (fun _ => true) true fuel 38 cs = some x) : ∃ a : An, cs = a.cells := by
  obtain ⟨xs, n, rfl, _, hl, hx, hf⟩ := DataW.trod_struct Try.underlying38 h
  have hl3 : cs.length = 13 := hl.trans (by kernel_rfl)
  obtain ⟨v0, v1, v2, v3, v4, v5, v6, v7, v8, v9, v10, v11, v12, rfl⟩ : ∃ a b c d e f g h i j k l m, cs = [a, b, c, d, e, f, g, h, i, j, k, l, m] := by
    match cs, hl3 with
    | [a, b, c, d, e, f, g, h, i, j, k, l, m], _ => exact ⟨a, b, c, d, e, f, g, h, i, j, k, l, m, rfl⟩
  obtain ⟨y0, t0⟩ := field_at10 hx hf 0 _ rfl (k := 1) (by kernel_rfl)
  obtain ⟨y1, t1⟩ := field_at10 hx hf 1 _ rfl (k := 1) (by kernel_rfl)
  obtain ⟨y2, t2⟩ := field_at10 hx hf 2 _ rfl (k := 1) (by kernel_rfl)
  obtain ⟨y3, t3⟩ := field_at10 hx hf 3 _ rfl (k := 1) (by kernel_rfl)
  obtain ⟨y4, t4⟩ := field_at10 hx hf 4 _ rfl (k := 1) (by kernel_rfl)
  obtain ⟨y5, t5⟩ := field_at10 hx hf 5 _ rfl (k := 1) (by kernel_rfl)
  obtain ⟨y6, t6⟩ := field_at10 hx hf 6 _ rfl (k := 1) (by kernel_rfl)
  obtain ⟨y7, t7⟩ := field_at10 hx hf 7 _ rfl (k := 6) (by kernel_rfl)
  replace t0 : DataW.trod enc Try.prog w 0 (fun _ => true) true n 3 [v0] = some y0 := t0
  replace t1 : DataW.trod enc Try.prog w 0 (fun _ => true) true n 3 [v1] = some y1 := t1
  replace t2 : DataW.trod enc Try.prog w 0 (fun _ => true) true n 3 [v2] = some y2 := t2
  replace t3 : DataW.trod enc Try.prog w 0 (fun _ => true) true n 3 [v3] = some y3 := t3
  replace t4 : DataW.trod enc Try.prog w 0 (fun _ => true) true n 3 [v4] = some y4 := t4
  replace t5 : DataW.trod enc Try.prog w 0 (fun _ => true) true n 3 [v5] = some y5 := t5
  replace t6 : DataW.trod enc Try.prog w 0 (fun _ => true) true n 3 [v6] = some y6 := t6
  replace t7 : DataW.trod enc Try.prog w 0 (fun _ => true) true n 36 [v7, v8, v9, v10, v11, v12] = some y7 := t7
  obtain ⟨s0, e0, _, _⟩ := DataW.trod_int Try.underlying3 t0
  obtain ⟨s1, e1, _, _⟩ := DataW.trod_int Try.underlying3 t1
  obtain ⟨s2, e2, _, _⟩ := DataW.trod_int Try.underlying3 t2
  obtain ⟨s3, e3, _, _⟩ := DataW.trod_int Try.underlying3 t3
  obtain ⟨s4, e4, _, _⟩ := DataW.trod_int Try.underlying3 t4
  obtain ⟨s5, e5, _, _⟩ := DataW.trod_int Try.underlying3 t5
  obtain ⟨s6, e6, _, _⟩ := DataW.trod_int Try.underlying3 t6
  obtain ⟨zs, m, rfl, _, _, hz, hq⟩ := DataW.trod_array Try.underlying36 t7
  have hc1 : (Try.prog).cellsOf 35 = 1 := by kernel_rfl
  rw [hc1] at hq
  have hu : ∀ i, i < 6 → ∃ z : Int, (([v7, v8, v9, v10, v11, v12] : List Value).drop (i * 1)).take 1 = [.int .u64 z] := fun i hi => by
    have h1 := hq i hi
    rw [List.getElem?_eq_getElem (by omega)] at h1
    obtain ⟨z, e, _, _⟩ := DataW.trod_int Try.underlying35 h1
    exact ⟨z, e⟩
  obtain ⟨q0, f0⟩ := hu 0 (by omega)
  obtain ⟨q1, f1⟩ := hu 1 (by omega)
  obtain ⟨q2, f2⟩ := hu 2 (by omega)
  obtain ⟨q3, f3⟩ := hu 3 (by omega)
  obtain ⟨q4, f4⟩ := hu 4 (by omega)
  obtain ⟨q5, f5⟩ := hu 5 (by omega)
  cases e0; cases e1; cases e2; cases e3; cases e4; cases e5; cases e6; cases f0; cases f1; cases f2; cases f3; cases f4; cases f5
  exact ⟨⟨s0, s1, s2, s3, s4, s5, s6, q0, q1, q2, q3, q4, q5⟩, rfl⟩

theorem len23 {cs : List Value} (h : cs.length = 23) : ∃ v0 v1 v2 v3 v4 v5 v6 v7 v8 v9 r, cs = v0 :: v1 :: v2 :: v3 :: v4 :: v5 :: v6 :: v7 :: v8 :: v9 :: r ∧ r.length = 13 := by
  match cs, h with
  | v0 :: v1 :: v2 :: v3 :: v4 :: v5 :: v6 :: v7 :: v8 :: v9 :: r, h => exact ⟨v0, v1, v2, v3, v4, v5, v6, v7, v8, v9, r, rfl, by simpa using h⟩
theorem ev_cells {fuel : Nat} {cs : List Value} {x : DataW H × List MemPlace} (h : DataW.trod enc Try.prog w 0 (fun _ => true) true fuel 43 cs = some x) : ∃ e : Ev, cs = e.cells ∧ e.wf := by
  obtain ⟨xs, n, rfl, _, hl, hx, hf⟩ := DataW.trod_struct Try.underlying43 h
  have hl3 : cs.length = 23 := hl.trans (by kernel_rfl)
  obtain ⟨v0, v1, v2, v3, v4, v5, v6, v7, v8, v9, r, rfl, hr⟩ := len23 hl3
  obtain ⟨y0, t0⟩ := field_at10 hx hf 0 _ rfl (k := 1) (by kernel_rfl)
  obtain ⟨y1, t1⟩ := field_at10 hx hf 1 _ rfl (k := 1) (by kernel_rfl)
  obtain ⟨y2, t2⟩ := field_at10 hx hf 2 _ rfl (k := 1) (by kernel_rfl)
  obtain ⟨y3, t3⟩ := field_at10 hx hf 3 _ rfl (k := 1) (by kernel_rfl)
  obtain ⟨y4, t4⟩ := field_at10 hx hf 4 _ rfl (k := 1) (by kernel_rfl)
  obtain ⟨y5, t5⟩ := field_at10 hx hf 5 _ rfl (k := 1) (by kernel_rfl)
  obtain ⟨y6, t6⟩ := field_at10 hx hf 6 _ rfl (k := 1) (by kernel_rfl)
  obtain ⟨y7, t7⟩ := field_at10 hx hf 7 _ rfl (k := 1) (by kernel_rfl)
  obtain ⟨y8, t8⟩ := field_at10 hx hf 8 _ rfl (k := 1) (by kernel_rfl)
  obtain ⟨y9, t9⟩ := field_at10 hx hf 9 _ rfl (k := 1) (by kernel_rfl)
  obtain ⟨y10, t10⟩ := field_at10 hx hf 10 _ rfl (k := 13) (by kernel_rfl)
  replace t0 : DataW.trod enc Try.prog w 0 (fun _ => true) true n 3 [v0] = some y0 := t0
  replace t1 : DataW.trod enc Try.prog w 0 (fun _ => true) true n 3 [v1] = some y1 := t1
  replace t2 : DataW.trod enc Try.prog w 0 (fun _ => true) true n 3 [v2] = some y2 := t2
  replace t3 : DataW.trod enc Try.prog w 0 (fun _ => true) true n 3 [v3] = some y3 := t3
  replace t4 : DataW.trod enc Try.prog w 0 (fun _ => true) true n 3 [v4] = some y4 := t4
  replace t5 : DataW.trod enc Try.prog w 0 (fun _ => true) true n 4 [v5] = some y5 := t5
  replace t6 : DataW.trod enc Try.prog w 0 (fun _ => true) true n 3 [v6] = some y6 := t6
  replace t7 : DataW.trod enc Try.prog w 0 (fun _ => true) true n 4 [v7] = some y7 := t7
  replace t8 : DataW.trod enc Try.prog w 0 (fun _ => true) true n 4 [v8] = some y8 := t8
  replace t9 : DataW.trod enc Try.prog w 0 (fun _ => true) true n 4 [v9] = some y9 := t9
  replace t10 : DataW.trod enc Try.prog w 0 (fun _ => true) true n 38 (r.take 13) = some y10 := t10
  rw [List.take_of_length_le (by omega)] at t10
  obtain ⟨s0, e0, _, w0⟩ := DataW.trod_int Try.underlying3 t0
  obtain ⟨s1, e1, _, w1⟩ := DataW.trod_int Try.underlying3 t1
  obtain ⟨s2, e2, _, _⟩ := DataW.trod_int Try.underlying3 t2
  obtain ⟨s3, e3, _, _⟩ := DataW.trod_int Try.underlying3 t3
  obtain ⟨s4, e4, _, _⟩ := DataW.trod_int Try.underlying3 t4
  obtain ⟨s5, e5, _⟩ := DataW.trod_bool Try.underlying4 t5
  obtain ⟨s6, e6, _, _⟩ := DataW.trod_int Try.underlying3 t6
  obtain ⟨s7, e7, _⟩ := DataW.trod_bool Try.underlying4 t7
  obtain ⟨s8, e8, _⟩ := DataW.trod_bool Try.underlying4 t8
  obtain ⟨s9, e9, _⟩ := DataW.trod_bool Try.underlying4 t9
  obtain ⟨a, rfl⟩ := an_cells t10
  cases e0; cases e1; cases e2; cases e3; cases e4; cases e5; cases e6; cases e7; cases e8; cases e9
  exact ⟨⟨s0, s1, s2, s3, s4, s5, s6, s7, s8, s9, a⟩, rfl, i64_of w0, i64_of w1⟩
theorem len18 {cs : List Value} (h : cs.length = 18) : ∃ v0 v1 v2 v3 v4 r, cs = v0 :: v1 :: v2 :: v3 :: v4 :: r ∧ r.length = 13 := by
  match cs, h with
  | v0 :: v1 :: v2 :: v3 :: v4 :: r, h => exact ⟨v0, v1, v2, v3, v4, r, rfl, by simpa using h⟩
theorem cal_cells {fuel : Nat} {cs : List Value} {x : DataW H × List MemPlace} (h : DataW.trod enc Try.prog w 0 (fun _ => true) true fuel 40 cs = some x) : ∃ e : Cal, cs = e.cells := by
  obtain ⟨xs, n, rfl, _, hl, hx, hf⟩ := DataW.trod_struct Try.underlying40 h
  have hl3 : cs.length = 18 := hl.trans (by kernel_rfl)
  obtain ⟨v0, v1, v2, v3, v4, r, rfl, hr⟩ := len18 hl3
  obtain ⟨y0, t0⟩ := field_at10 hx hf 0 _ rfl (k := 1) (by kernel_rfl)
  obtain ⟨y1, t1⟩ := field_at10 hx hf 1 _ rfl (k := 1) (by kernel_rfl)
  obtain ⟨y2, t2⟩ := field_at10 hx hf 2 _ rfl (k := 1) (by kernel_rfl)
  obtain ⟨y3, t3⟩ := field_at10 hx hf 3 _ rfl (k := 1) (by kernel_rfl)
  obtain ⟨y4, t4⟩ := field_at10 hx hf 4 _ rfl (k := 1) (by kernel_rfl)
  obtain ⟨y5, t5⟩ := field_at10 hx hf 5 _ rfl (k := 13) (by kernel_rfl)
  replace t0 : DataW.trod enc Try.prog w 0 (fun _ => true) true n 3 [v0] = some y0 := t0
  replace t1 : DataW.trod enc Try.prog w 0 (fun _ => true) true n 3 [v1] = some y1 := t1
  replace t2 : DataW.trod enc Try.prog w 0 (fun _ => true) true n 3 [v2] = some y2 := t2
  replace t3 : DataW.trod enc Try.prog w 0 (fun _ => true) true n 3 [v3] = some y3 := t3
  replace t4 : DataW.trod enc Try.prog w 0 (fun _ => true) true n 3 [v4] = some y4 := t4
  replace t5 : DataW.trod enc Try.prog w 0 (fun _ => true) true n 38 (r.take 13) = some y5 := t5
  rw [List.take_of_length_le (by omega)] at t5
  obtain ⟨s0, e0, _, _⟩ := DataW.trod_int Try.underlying3 t0
  obtain ⟨s1, e1, _, _⟩ := DataW.trod_int Try.underlying3 t1
  obtain ⟨s2, e2, _, _⟩ := DataW.trod_int Try.underlying3 t2
  obtain ⟨s3, e3, _, _⟩ := DataW.trod_int Try.underlying3 t3
  obtain ⟨s4, e4, _, _⟩ := DataW.trod_int Try.underlying3 t4
  obtain ⟨a, rfl⟩ := an_cells t5
  cases e0; cases e1; cases e2; cases e3; cases e4
  exact ⟨⟨s0, s1, s2, s3, s4, a⟩, rfl⟩

/-- A slice of structs of k cells: its elements, one by one; the data says how many there are. -/
theorem rowsN_cells {α : Type} {f : α → List Value} {T : α → Prop} {t e k : Nat} {fuel : Nat} {v : Value} {x : DataW H × List MemPlace} (ht : Try.prog.underlying t = some (.slice e)) (hC : Try.prog.cellsOf e = k) (hk : 0 < k) (hfk : ∀ r, (f r).length = k)
    (hel : ∀ (fuel : Nat) (cs : List Value) (x : DataW H × List MemPlace), DataW.trod enc Try.prog w 0 (fun _ => true) true fuel e cs = some x → ∃ r : α, cs = f r ∧ T r)
    (h : DataW.trod enc Try.prog w 0 (fun _ => true) true fuel t [v] = some x) :
    ∃ (A : Option Addr) (c : Nat) (l : List α), v = .slice A l.length c ∧ RowsN k w w.heap.size A (l.map f) ∧ l.length ≤ c ∧ c ≤ maxLen ∧ (∀ r ∈ l, T r) ∧ (l = [] ∨ ∃ es sp, x.1 = .slice es sp ∧ es.length = l.length) := by
  rcases open_slice ht h with ⟨h0, _⟩ | ⟨a, len, cap, m, n, D, Pl, h0, _, hl, hm, hmm, hx, hi⟩
  · cases h0
    exact ⟨none, 0, [], rfl, fun hn => absurd hn (by simp), Nat.le_refl _, by simp [maxLen], fun o ho => (by cases ho), .inl rfl⟩
  · cases h0
    rw [if_pos rfl] at hmm
    obtain ⟨l, hlen, hq⟩ := list_of (Q := fun i (o : α) => (∀ j u, (f o)[j]? = some u → w.cell? (a.add (i * k + j)) = some u) ∧ T o) len fun i hi' => by
      obtain ⟨cs', hc, ht⟩ := hi i (by omega)
      rw [hC] at hc
      obtain ⟨o, rfl, ho⟩ := hel _ _ _ ht
      obtain ⟨_, hcl, hat⟩ := World.cells?_some hc
      refine ⟨o, fun j u hu => ?_, ho⟩
      have hj : j < k := by rw [← hfk o]; exact (List.getElem?_eq_some_iff.1 hu).1
      rw [← Go.Deep.add_add, hat j hj]
      exact hu
    refine ⟨some a, cap, l, by rw [hlen], fun hn => ⟨a, rfl, ?_, fun i r hr j u hu => ?_⟩, by omega, hm, fun o ho => ?_, .inr ⟨_, _, by rw [hx], by simp [hlen]⟩⟩
    · rw [List.length_map] at hn
      have hlt : 0 < len := by omega
      have h0l : 0 < (f l[0]).length := by rw [hfk]; exact hk
      obtain ⟨u, hu⟩ : ∃ u, (f l[0])[0]? = some u := ⟨_, List.getElem?_eq_getElem h0l⟩
      have hz := (hq 0 _ (List.getElem?_eq_getElem hn)).1 0 _ hu
      have := World.block_lt_of_cell? w _ hz
      rwa [block_of_add] at this
    · rw [List.getElem?_map] at hr
      obtain ⟨z, hz, rfl⟩ := Option.map_eq_some_iff.1 hr
      exact (hq i z hz).1 j u hu
    · obtain ⟨i, hi, rfl⟩ := List.getElem_of_mem ho
      exact (hq i _ (List.getElem?_eq_getElem hi)).2
end

theorem evs_of {H : Type} {enc : TypeId × Value → H} {w : World} {r : Reach} {b0 : Nat} {v : Value} {d : DataW H} {p : List MemPlace} (hv : Value.okWide Try.prog w r b0 22 v)
    (h : DataW.Trod enc Try.prog w 0 (fun _ => true) true 22 v d p) : ∃ (A : Option Addr) (c : Nat) (l : List Ev), v = .slice A l.length c ∧ EvsIn w A c l ∧ (l = [] ∨ ∃ es sp, d = .slice es sp ∧ es.length = l.length) := by
  obtain ⟨A0, len0, c0, rfl⟩ := okWide_slice Try.underlying22 hv
  obtain ⟨fuel, hf⟩ := h
  obtain ⟨A, c, l, e, h1, h2, h3, h4, h5⟩ := rowsN_cells (α := Ev) (f := Ev.cells) (T := Ev.wf) (k := 23) Try.underlying22 (by kernel_rfl) (by omega) (fun _ => rfl) (fun _ _ _ h => ev_cells h) hf
  exact ⟨A, c, l, e, ⟨h1, h2, h3, h4⟩, h5⟩
theorem cals_of {H : Type} {enc : TypeId × Value → H} {w : World} {r : Reach} {b0 : Nat} {v : Value} {d : DataW H} {p : List MemPlace} (hv : Value.okWide Try.prog w r b0 23 v)
    (h : DataW.Trod enc Try.prog w 0 (fun _ => true) true 23 v d p) : ∃ (A : Option Addr) (c : Nat) (l : List Cal), v = .slice A l.length c ∧ CalsIn w A c l := by
  obtain ⟨A0, len0, c0, rfl⟩ := okWide_slice Try.underlying23 hv
  obtain ⟨fuel, hf⟩ := h
  obtain ⟨A, c, l, e, h1, h2, h3, h4, h5⟩ := rowsN_cells (α := Cal) (f := Cal.cells) (T := fun _ => True) (k := 18) Try.underlying23 (by kernel_rfl) (by omega) (fun _ => rfl) (fun _ _ _ h => by obtain ⟨e, he⟩ := cal_cells h; exact ⟨e, he, trivial⟩) hf
  exact ⟨A, c, l, e, h1, h2, h3⟩
theorem ev_bytes : Try.prog.bytesOf 43 = 168 := by kernel_rfl
/-- What the sizes of the data say of the number of events. -/
theorem evs_sized {H : Type} {ts : List TypeId} {ds : List (DataW H)} (hsz : (DataW.weightsEach Try.prog ts ds).all (· ≤ reachBytes) = true) {j : Nat} {d : DataW H} (ht : ts[j]? = some 22) (hd : ds[j]? = some d) {l : List Ev} (h : l = [] ∨ ∃ es sp, d = .slice es sp ∧ es.length = l.length) : l.length * 168 ≤ 140737488351232 := by
  rcases h with rfl | ⟨es, sp, rfl, he⟩
  · simp
  · have := sized_slice hsz ht hd Try.underlying22
    rw [ev_bytes, he, Nat.add_mul] at this
    simp only [reachBytes] at this
    omega
end Go.Proofs.Ytglnofdncglmnaa
