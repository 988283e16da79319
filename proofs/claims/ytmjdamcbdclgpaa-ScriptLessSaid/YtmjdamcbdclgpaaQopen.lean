/- A script that came in, read as plain data. -/
import Derived.Test.YtmjdamcbdclgpaaM3
import Derived.Test.YtmjdamcbdclgpaaRows
import Derived.Lib.SmallJoins
import Derived.Deep.Slices
import Derived.Deep.Fields
import Derived.ChangeSame
namespace Go.Proofs.Ytmjdamcbdclgpaa
open Go.Joins Go.ChangeShapes Go.WideShapes Go.RowKit Go.Deep
set_option linter.unusedVariables false
set_option linter.unusedSimpArgs false
set_option maxRecDepth 100000

section
variable {H : Type} {enc : TypeId × Value → H} {w : World}
/-- One field of a struct's cells. -/
theorem field_at {P : Program} {fs : Array Field} {n : Nat} {cs : List Value} {xs : List (DataW H × List MemPlace)} (hx : xs.length = fs.size)
    (hf : ∀ (i : Nat) (f : Field), fs[i]? = some f → DataW.trod enc P w 0 (fun _ => true) true n f.type ((cs.drop f.offset).take (P.cellsOf f.type)) = xs[i]?) (i : Nat) (f : Field) (h : fs[i]? = some f) {k : Nat} (hk : P.cellsOf f.type = k) :
    ∃ y, DataW.trod enc P w 0 (fun _ => true) true n f.type ((cs.drop f.offset).take k) = some y := by
  have h1 := hf i f h
  rw [hk] at h1
  have hi : i < xs.length := by rw [hx]; exact (Array.getElem?_eq_some_iff.1 h).1
  exact ⟨_, h1.trans (List.getElem?_eq_getElem hi)⟩

/-- A slice of texts, with their sizes. -/
theorem strs_cells8 {P : Program} {spare : Nat → Bool} {held : Bool} {t e : TypeId} {fuel : Nat} {v : Value} {x : DataW H × List MemPlace} (ht : P.underlying t = some (.slice e)) (he : P.underlying e = some .string) (hc : P.cellsOf e = 1) (hs : ∀ k, spare k = true)
    (h : DataW.trod enc P w 0 spare held fuel t [v] = some x) : ∃ (A : Option Addr) (c : Nat) (xs : List ByteArray), v = .slice A xs.length c ∧ Reads w w.heap.size A (xs.map Value.string) ∧ xs.length ≤ c ∧ c ≤ maxLen ∧ ∀ y ∈ xs, y.size ≤ maxLen := by
  rcases open_slice1 ht hc h with ⟨h0, _⟩ | ⟨a, len, cap, m, n, V, D, Pl, h0, _, hl, hm, hmm, _, hi⟩
  · simp at h0
    exact ⟨none, 0, [], h0, fun hn => by simp at hn, by simp, by simp [maxLen], fun y hy => by cases hy⟩
  · simp at h0
    rw [hs, if_pos rfl] at hmm
    obtain ⟨l, hlen, hq⟩ := list_of (Q := fun i (s : ByteArray) => w.cell? (a.add i) = some (.string s) ∧ s.size ≤ maxLen) len fun i hi' => by
      obtain ⟨hcell, ht'⟩ := hi i (by omega)
      obtain ⟨s, e1, _, h4⟩ := DataW.trod_string he ht'
      simp at e1
      exact ⟨s, by rw [hcell, e1], h4⟩
    refine ⟨some a, cap, l, by rw [h0, hlen], fun hn => ⟨a, rfl, ?_, fun j u hu => ?_⟩, by omega, hm, fun y hy => ?_⟩
    · have hlt : 0 < len := by simp at hn; omega
      obtain ⟨hcell, _⟩ := hi 0 (by omega)
      have := World.block_lt_of_cell? w _ hcell
      rwa [block_of_add] at this
    · rw [List.getElem?_map] at hu
      obtain ⟨z, hz, rfl⟩ := Option.map_eq_some_iff.1 hu
      exact (hq j z hz).1
    · obtain ⟨i, hi, rfl⟩ := List.getElem_of_mem hy
      exact (hq i _ (List.getElem?_eq_getElem hi)).2
theorem cfg_cells {fuel : Nat} {cs : List Value} {x : DataW H × List MemPlace} (h : DataW.trod enc Try.prog w 0 (fun _ => true) true fuel 26 cs = some x) :
    ∃ c : Cfg, cs = [.slice c.la c.ls.length c.lc, .slice c.ra c.rs.length c.rc, .slice c.ca c.cs.length c.cc] ∧ CfgIn w w.heap.size c ∧ ∀ x ∈ c.ls, x.size ≤ maxLen := by
  obtain ⟨xs, n, rfl, _, hl, hx, hf⟩ := DataW.trod_struct Try.underlying26 h
  have hl3 : cs.length = 3 := hl.trans (by kernel_rfl)
  obtain ⟨v0, v1, v2, rfl⟩ : ∃ a b c, cs = [a, b, c] := by
    match cs, hl3 with
    | [a, b, c], _ => exact ⟨a, b, c, rfl⟩
  obtain ⟨y0, t0⟩ := field_at hx hf 0 _ rfl (k := 1) (by kernel_rfl)
  obtain ⟨y1, t1⟩ := field_at hx hf 1 _ rfl (k := 1) (by kernel_rfl)
  obtain ⟨y2, t2⟩ := field_at hx hf 2 _ rfl (k := 1) (by kernel_rfl)
  replace t0 : DataW.trod enc Try.prog w 0 (fun _ => true) true n 22 [v0] = some y0 := t0
  replace t1 : DataW.trod enc Try.prog w 0 (fun _ => true) true n 23 [v1] = some y1 := t1
  replace t2 : DataW.trod enc Try.prog w 0 (fun _ => true) true n 24 [v2] = some y2 := t2
  obtain ⟨la, lc, ls, rfl, l1, l2, l3, l4⟩ := strs_cells8 Try.underlying22 Try.underlying9 (by kernel_rfl) (fun _ => rfl) t0
  obtain ⟨ra, rc, rs, rfl, r1, r2, r3, _⟩ := rows_cells (α := Rt) (f := Rt.cells) (T := fun _ => True) Try.underlying23 Try.underlying74 (by kernel_rfl) (by kernel_rfl) rfl (fun _ => rfl) (fun q hf => by
    obtain ⟨u0, z0, n0, c0, k0⟩ := hf 0 _ rfl
    obtain ⟨u1, z1, n1, c1, k1⟩ := hf 1 _ rfl
    obtain ⟨u2, z2, n2, c2, k2⟩ := hf 2 _ rfl
    obtain ⟨u3, z3, n3, c3, k3⟩ := hf 3 _ rfl
    obtain ⟨s0, e0, _, _⟩ := DataW.trod_string Try.underlying9 k0
    obtain ⟨s1, e1, _, _⟩ := DataW.trod_string Try.underlying9 k1
    obtain ⟨s2, e2, _, _⟩ := DataW.trod_string Try.underlying9 k2
    obtain ⟨s3, e3, _, _⟩ := DataW.trod_string Try.underlying9 k3
    cases e0; cases e1; cases e2; cases e3
    exact ⟨⟨s0, s1, s2, s3⟩, trivial, at4 (P := fun _ => True) (Q := fun j u => w.cell? (q.add j) = some u) rfl c0 c1 c2 c3⟩) t1
  obtain ⟨ca, cc, cs, rfl, k1, k2, k3, k4⟩ := rows_cells (α := Cl) (f := Cl.cells) (T := Cl.wf) Try.underlying24 Try.underlying72 (by kernel_rfl) (by kernel_rfl) rfl (fun _ => rfl) (fun q hf => by
    obtain ⟨u0, z0, n0, c0, k0⟩ := hf 0 _ rfl
    obtain ⟨u1, z1, n1, c1, k1⟩ := hf 1 _ rfl
    obtain ⟨u2, z2, n2, c2, k2⟩ := hf 2 _ rfl
    obtain ⟨u3, z3, n3, c3, k3⟩ := hf 3 _ rfl
    obtain ⟨s0, e0, _, _⟩ := DataW.trod_string Try.underlying9 k0
    obtain ⟨s1, e1, _, w1⟩ := DataW.trod_int Try.underlying3 k1
    obtain ⟨s2, e2, _, w2⟩ := DataW.trod_int Try.underlying3 k2
    cases e0; cases e1; cases e2
    rcases open_slice1 Try.underlying70 (by kernel_rfl) k3 with ⟨h0, _⟩ | ⟨a, len, cap, m, n, V, D, Pl, h0, _, hl, hm, hmm, _, hi⟩
    · cases h0
      exact ⟨⟨s0, s1, s2, none, 0, 0⟩, ⟨w1, w2, by show 0 ≤ maxLen; simp [maxLen]⟩, at4 (P := fun _ => True) (Q := fun j u => w.cell? (q.add j) = some u) rfl c0 c1 c2 c3⟩
    · cases h0
      exact ⟨⟨s0, s1, s2, some a, len, cap⟩, ⟨w1, w2, Nat.le_trans hl hm⟩, at4 (P := fun _ => True) (Q := fun j u => w.cell? (q.add j) = some u) rfl c0 c1 c2 c3⟩) t2
  exact ⟨⟨la, lc, ls, ra, rc, rs, ca, cc, cs⟩, rfl, ⟨l1, r1, k1, l2, r2, k2, l3, r3, k3, k4⟩, l4⟩

theorem op_cells {fuel : Nat} {cs : List Value} {x : DataW H × List MemPlace} (h : DataW.trod enc Try.prog w 0 (fun _ => true) true fuel 49 cs = some x) :
    ∃ o : Opn, cs = o.cells ∧ CfgIn w w.heap.size o.cfg := by
  obtain ⟨xs, n, rfl, _, hl, hx, hf⟩ := DataW.trod_struct Try.underlying49 h
  have hl3 : cs.length = 10 := hl.trans (by kernel_rfl)
  obtain ⟨v0, v1, v2, v3, v4, v5, v6, v7, v8, v9, rfl⟩ : ∃ a b c d e f g h i j, cs = [a, b, c, d, e, f, g, h, i, j] := by
    match cs, hl3 with
    | [a, b, c, d, e, f, g, h, i, j], _ => exact ⟨a, b, c, d, e, f, g, h, i, j, rfl⟩
  obtain ⟨y0, t0⟩ := field_at hx hf 0 _ rfl (k := 1) (by kernel_rfl)
  obtain ⟨y1, t1⟩ := field_at hx hf 1 _ rfl (k := 1) (by kernel_rfl)
  obtain ⟨y2, t2⟩ := field_at hx hf 2 _ rfl (k := 1) (by kernel_rfl)
  obtain ⟨y3, t3⟩ := field_at hx hf 3 _ rfl (k := 1) (by kernel_rfl)
  obtain ⟨y4, t4⟩ := field_at hx hf 4 _ rfl (k := 1) (by kernel_rfl)
  obtain ⟨y5, t5⟩ := field_at hx hf 5 _ rfl (k := 1) (by kernel_rfl)
  obtain ⟨y6, t6⟩ := field_at hx hf 6 _ rfl (k := 1) (by kernel_rfl)
  obtain ⟨y7, t7⟩ := field_at hx hf 7 _ rfl (k := 3) (by kernel_rfl)
  replace t0 : DataW.trod enc Try.prog w 0 (fun _ => true) true n 3 [v0] = some y0 := t0
  replace t1 : DataW.trod enc Try.prog w 0 (fun _ => true) true n 9 [v1] = some y1 := t1
  replace t2 : DataW.trod enc Try.prog w 0 (fun _ => true) true n 9 [v2] = some y2 := t2
  replace t3 : DataW.trod enc Try.prog w 0 (fun _ => true) true n 9 [v3] = some y3 := t3
  replace t4 : DataW.trod enc Try.prog w 0 (fun _ => true) true n 3 [v4] = some y4 := t4
  replace t5 : DataW.trod enc Try.prog w 0 (fun _ => true) true n 3 [v5] = some y5 := t5
  replace t6 : DataW.trod enc Try.prog w 0 (fun _ => true) true n 3 [v6] = some y6 := t6
  replace t7 : DataW.trod enc Try.prog w 0 (fun _ => true) true n 26 [v7, v8, v9] = some y7 := t7
  obtain ⟨s0, e0, _, _⟩ := DataW.trod_int Try.underlying3 t0
  obtain ⟨s1, e1, _, _⟩ := DataW.trod_string Try.underlying9 t1
  obtain ⟨s2, e2, _, _⟩ := DataW.trod_string Try.underlying9 t2
  obtain ⟨s3, e3, _, _⟩ := DataW.trod_string Try.underlying9 t3
  obtain ⟨s4, e4, _, _⟩ := DataW.trod_int Try.underlying3 t4
  obtain ⟨s5, e5, _, _⟩ := DataW.trod_int Try.underlying3 t5
  obtain ⟨s6, e6, _, _⟩ := DataW.trod_int Try.underlying3 t6
  obtain ⟨c, e7, hc, _⟩ := cfg_cells t7
  cases e0; cases e1; cases e2; cases e3; cases e4; cases e5; cases e6; cases e7
  exact ⟨⟨s0, s1, s2, s3, s4, s5, s6, c⟩, rfl, hc⟩

theorem thr_cells {fuel : Nat} {v : Value} {x : DataW H × List MemPlace} (h : DataW.trod enc Try.prog w 0 (fun _ => true) true fuel 46 [v] = some x) : ∃ t : Thr, v = t.cell ∧ ThrIn w w.heap.size t := by
  rcases open_slice Try.underlying46 h with ⟨h0, _⟩ | ⟨a, len, cap, m, n, D, Pl, h0, _, hl, hm, hmm, _, hi⟩
  · cases h0
    exact ⟨⟨none, 0, []⟩, rfl, fun hn => absurd hn (by simp), Nat.le_refl _, by simp [maxLen], fun o ho => by cases ho⟩
  · cases h0
    rw [if_pos rfl] at hmm
    have h10 : (Try.prog).cellsOf 49 = 10 := by kernel_rfl
    obtain ⟨l, hlen, hq⟩ := list_of (Q := fun i (o : Opn) => (∀ j u, o.cells[j]? = some u → w.cell? (a.add (i * 10 + j)) = some u) ∧ CfgIn w w.heap.size o.cfg) len fun i hi' => by
      obtain ⟨cs', hc, ht⟩ := hi i (by omega)
      rw [h10] at hc
      obtain ⟨o, rfl, ho⟩ := op_cells ht
      obtain ⟨_, hcl, hat⟩ := World.cells?_some hc
      refine ⟨o, fun j u hu => ?_, ho⟩
      have hj : j < 10 := (List.getElem?_eq_some_iff.1 hu).1
      rw [← Go.Deep.add_add, hat j hj]
      exact hu
    refine ⟨⟨some a, cap, l⟩, by rw [Thr.cell, hlen], fun hn => ⟨a, rfl, ?_, fun i r hr j u hu => ?_⟩, by show l.length ≤ cap; omega, hm, fun o ho => ?_⟩
    · have hlt : 0 < len := by
        have h9 : 0 < (l.map Opn.cells).length := hn
        rw [List.length_map] at h9
        omega
      have hz := (hq 0 _ (List.getElem?_eq_getElem (by omega))).1 0 _ rfl
      have := World.block_lt_of_cell? w _ hz
      rwa [block_of_add] at this
    · rw [List.getElem?_map] at hr
      obtain ⟨z, hz, rfl⟩ := Option.map_eq_some_iff.1 hr
      exact (hq i z hz).1 j u hu
    · obtain ⟨i, hi, rfl⟩ := List.getElem_of_mem ho
      exact (hq i _ (List.getElem?_eq_getElem hi)).2

theorem scr_of {r : Reach} {b0 : Nat} {v : Value} {d : DataW H} {p : List MemPlace} (hv : Value.okWide Try.prog w r b0 30 v)
    (h : DataW.Trod enc Try.prog w 0 (fun _ => true) true 30 v d p) : ∃ s : Scr, v = s.val ∧ ScrIn w w.heap.size s := by
  obtain ⟨cs, rfl, hsz⟩ := okWide_struct Try.underlying30 hv
  obtain ⟨fuel, hf⟩ := h
  obtain ⟨xs, n, rfl, _, hl, hx, hf⟩ := DataW.trod_struct Try.underlying30 hf
  have hl3 : cs.size = 5 := hsz.trans (by kernel_rfl)
  obtain ⟨v0, v1, v2, v3, v4, rfl⟩ : ∃ a b c d e, cs = #[a, b, c, d, e] := by
    match cs, hl3 with
    | ⟨[a, b, c, d, e]⟩, _ => exact ⟨a, b, c, d, e, rfl⟩
  obtain ⟨y0, t0⟩ := field_at hx hf 0 _ rfl (k := 3) (by kernel_rfl)
  obtain ⟨y1, t1⟩ := field_at hx hf 1 _ rfl (k := 1) (by kernel_rfl)
  obtain ⟨y2, t2⟩ := field_at hx hf 2 _ rfl (k := 1) (by kernel_rfl)
  replace t0 : DataW.trod enc Try.prog w 0 (fun _ => true) true n 26 [v0, v1, v2] = some y0 := t0
  replace t1 : DataW.trod enc Try.prog w 0 (fun _ => true) true n 27 [v3] = some y1 := t1
  replace t2 : DataW.trod enc Try.prog w 0 (fun _ => true) true n 28 [v4] = some y2 := t2
  obtain ⟨c, e0, hc, hcs⟩ := cfg_cells t0
  cases e0
  obtain ⟨ta, tc, ts, e1, p1, p2, p3, p4⟩ : ∃ (ta : Option Addr) (tc : Nat) (ts : List Thr), v3 = .slice ta ts.length tc ∧ Reads w w.heap.size ta (ts.map Thr.cell) ∧ ts.length ≤ tc ∧ tc ≤ maxLen ∧ ∀ t ∈ ts, ThrIn w w.heap.size t := by
    rcases open_slice1 Try.underlying27 (by kernel_rfl) t1 with ⟨h0, _⟩ | ⟨a, len, cap, m, n, V, D, Pl, h0, _, hl, hm, hmm, _, hi⟩
    · cases h0
      exact ⟨none, 0, [], rfl, fun hn => absurd hn (by simp), Nat.le_refl _, by simp [maxLen], fun t ht => by cases ht⟩
    · cases h0
      rw [if_pos rfl] at hmm
      obtain ⟨l, hlen, hq⟩ := list_of (Q := fun i (t : Thr) => w.cell? (a.add i) = some t.cell ∧ ThrIn w w.heap.size t) len fun i hi' => by
        obtain ⟨hcell, ht⟩ := hi i (by omega)
        obtain ⟨t, e, htt⟩ := thr_cells ht
        exact ⟨t, by rw [hcell, e], htt⟩
      refine ⟨some a, cap, l, by rw [hlen], fun hn => ⟨a, rfl, ?_, fun j u hu => ?_⟩, by omega, hm, fun t ht => ?_⟩
      · have hlt : 0 < len := by rw [List.length_map] at hn; omega
        obtain ⟨hcell, _⟩ := hi 0 (by omega)
        have := World.block_lt_of_cell? w _ hcell
        rwa [block_of_add] at this
      · rw [List.getElem?_map] at hu
        obtain ⟨z, hz, rfl⟩ := Option.map_eq_some_iff.1 hu
        exact (hq j z hz).1
      · obtain ⟨i, hi, rfl⟩ := List.getElem_of_mem ht
        exact (hq i _ (List.getElem?_eq_getElem hi)).2
  obtain ⟨pa, pc, ps, e2, q1, q2, q3⟩ : ∃ (pa : Option Addr) (pc : Nat) (ps : List Int), v4 = .slice pa ps.length pc ∧ Reads w w.heap.size pa (ps.map (Value.int .i64)) ∧ ps.length ≤ pc ∧ pc ≤ maxLen := by
    rcases open_slice1 Try.underlying28 (by kernel_rfl) t2 with ⟨h0, _⟩ | ⟨a, len, cap, m, n, V, D, Pl, h0, _, hl, hm, hmm, _, hi⟩
    · cases h0
      exact ⟨none, 0, [], rfl, fun hn => absurd hn (by simp), Nat.le_refl _, by simp [maxLen]⟩
    · cases h0
      rw [if_pos rfl] at hmm
      obtain ⟨l, hlen, hq⟩ := list_of (Q := fun i (x : Int) => w.cell? (a.add i) = some (.int .i64 x)) len fun i hi' => by
        obtain ⟨hcell, ht⟩ := hi i (by omega)
        obtain ⟨x, e, _, _⟩ := DataW.trod_int Try.underlying3 ht
        simp at e
        exact ⟨x, by rw [hcell, e]⟩
      refine ⟨some a, cap, l, by rw [hlen], fun hn => ⟨a, rfl, ?_, fun j u hu => ?_⟩, by omega, hm⟩
      · have hlt : 0 < len := by rw [List.length_map] at hn; omega
        obtain ⟨hcell, _⟩ := hi 0 (by omega)
        have := World.block_lt_of_cell? w _ hcell
        rwa [block_of_add] at this
      · rw [List.getElem?_map] at hu
        obtain ⟨z, hz, rfl⟩ := Option.map_eq_some_iff.1 hu
        exact hq j z hz
  subst e1
  subst e2
  exact ⟨⟨c, ta, tc, ts, pa, pc, ps⟩, rfl, hc, p1, p2, p3, p4, q1, q2, q3, hcs⟩
end
end Go.Proofs.Ytmjdamcbdclgpaa
