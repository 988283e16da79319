/- A configuration that came in, read as three lists. -/
import Derived.Test.YtlaibkinkopkiaaCin
import Derived.Test.YtlaibkinkopkiaaRows
import Derived.Lib.SmallJoins
import Derived.Deep.Slices
import Derived.Deep.Fields
import Derived.ChangeSame
namespace Go.Proofs.Ytlaibkinkopkiaa
open Go.Joins Go.ChangeShapes Go.WideShapes Go.RowKit Go.Deep
set_option linter.unusedVariables false
set_option linter.unusedSimpArgs false
set_option maxRecDepth 100000

theorem list_of {α : Type} {Q : Nat → α → Prop} (n : Nat) (h : ∀ i, i < n → ∃ r, Q i r) : ∃ l : List α, l.length = n ∧ ∀ i r, l[i]? = some r → Q i r := by
  induction n with
  | zero => exact ⟨[], rfl, fun i r hi => by simp at hi⟩
  | succ n ih =>
    obtain ⟨l, hl, hq⟩ := ih fun i hi => h i (by omega)
    obtain ⟨r, hr⟩ := h n (by omega)
    refine ⟨l ++ [r], by simp [hl], fun i x hx => ?_⟩
    by_cases e : i < l.length
    · rw [List.getElem?_append_left e] at hx
      exact hq i x hx
    · have hi : i = n := by
        have := (List.getElem?_eq_some_iff.1 hx).1
        simp at this
        omega
      subst hi
      rw [List.getElem?_append_right (by omega), hl, Nat.sub_self] at hx
      simp at hx
      subst hx
      exact hr

section
variable {H : Type} {enc : TypeId × Value → H} {P : Program} {w : World} {spare : Nat → Bool} {held : Bool}

theorem strs_cells {t e : TypeId} {fuel : Nat} {v : Value} {x : DataW H × List MemPlace} (ht : P.underlying t = some (.slice e)) (he : P.underlying e = some .string) (hc : P.cellsOf e = 1) (hs : ∀ k, spare k = true)
    (h : DataW.trod enc P w 0 spare held fuel t [v] = some x) : ∃ (A : Option Addr) (c : Nat) (xs : List ByteArray), v = .slice A xs.length c ∧ Reads w w.heap.size A (xs.map Value.string) ∧ xs.length ≤ c ∧ c ≤ maxLen := by
  rcases open_slice1 ht hc h with ⟨h0, _⟩ | ⟨a, len, cap, m, n, V, D, Pl, h0, _, hl, hm, hmm, _, hi⟩
  · simp at h0
    exact ⟨none, 0, [], h0, fun hn => by simp at hn, by simp, by simp [maxLen]⟩
  · simp at h0
    rw [hs, if_pos rfl] at hmm
    obtain ⟨l, hlen, hq⟩ := list_of (Q := fun i (s : ByteArray) => w.cell? (a.add i) = some (.string s)) len fun i hi' => by
      obtain ⟨hcell, ht'⟩ := hi i (by omega)
      obtain ⟨s, e1, _, _⟩ := DataW.trod_string he ht'
      simp at e1
      exact ⟨s, by rw [hcell, e1]⟩
    refine ⟨some a, cap, l, by rw [h0, hlen], fun hn => ⟨a, rfl, ?_, fun j u hu => ?_⟩, by omega, hm⟩
    · have hlt : 0 < len := by simp at hn; omega
      obtain ⟨hcell, _⟩ := hi 0 (by omega)
      have := World.block_lt_of_cell? w _ hcell
      rwa [block_of_add] at this
    · rw [List.getElem?_map] at hu
      obtain ⟨z, hz, rfl⟩ := Option.map_eq_some_iff.1 hu
      exact hq j z hz

/-- A slice of structs of four fields of one cell: its elements, one by one. -/
theorem rows_cells {α : Type} {f : α → List Value} {t e : TypeId} {fs : Array Field} {fuel : Nat} {v : Value} {x : DataW H × List MemPlace} (ht : P.underlying t = some (.slice e)) (he : P.underlying e = some (.struct fs))
    (hone : oneCellFields P fs = true) (hC : P.cellsOf e = 4) (h4 : fs.size = 4) (hs : ∀ k, spare k = true) {T : α → Prop}
    (hel : ∀ (p : Addr), (∀ (j : Nat) (g : Field), fs[j]? = some g → ∃ (u : Value) (y : DataW H × List MemPlace) (n : Nat), w.cell? (p.add j) = some u ∧ DataW.trod enc P w 0 spare held n g.type [u] = some y) →
      ∃ r : α, T r ∧ ∀ (j : Nat) (u : Value), (f r)[j]? = some u → w.cell? (p.add j) = some u)
    (h : DataW.trod enc P w 0 spare held fuel t [v] = some x) :
    ∃ (A : Option Addr) (c : Nat) (rs : List α), v = .slice A rs.length c ∧ Rows4 w w.heap.size A (rs.map f) ∧ rs.length ≤ c ∧ c ≤ maxLen ∧ ∀ r ∈ rs, T r := by
  rcases open_slice ht h with ⟨h0, _⟩ | ⟨a, len, cap, m, n, D, Pl, h0, _, hl, hm, hmm, _, hi⟩
  · simp at h0
    exact ⟨none, 0, [], h0, fun hn => by simp at hn, by simp, by simp [maxLen], fun r hr => by simp at hr⟩
  · simp at h0
    rw [hs, if_pos rfl] at hmm
    have hfield : ∀ i, i < len → ∀ (j : Nat) (g : Field), fs[j]? = some g → ∃ (u : Value) (y : DataW H × List MemPlace) (n : Nat), w.cell? ((a.add (i * 4)).add j) = some u ∧ DataW.trod enc P w 0 spare held n g.type [u] = some y := fun i him j g hj => by
      obtain ⟨cs', hc, ht'⟩ := hi i (by omega)
      rw [hC] at hc
      obtain ⟨ys, n', hn', hy, hlen, hyl, hf⟩ := DataW.trod_struct he ht'
      obtain ⟨_, hcl, hat⟩ := World.cells?_some hc
      obtain ⟨ho, hk⟩ := hone_of hone j g hj
      have hjl : j < fs.size := (Array.getElem?_eq_some_iff.1 hj).1
      have hcell := hat j (by omega)
      have h1 := hf j g hj
      rw [ho, hk] at h1
      have hone' : (cs'.drop j).take 1 = [cs'[j]'(by omega)] := by
        rw [List.drop_eq_getElem_cons (by omega)]
        rfl
      rw [hone'] at h1
      have hys : ys[j]? = some (ys[j]'(by omega)) := List.getElem?_eq_getElem (by omega)
      exact ⟨_, _, _, by rw [hcell, List.getElem?_eq_getElem (by omega)], h1.trans hys⟩
    obtain ⟨l, hlen, hq⟩ := list_of (Q := fun i (r : α) => T r ∧ ∀ (j : Nat) (u : Value), (f r)[j]? = some u → w.cell? ((a.add (i * 4)).add j) = some u) len fun i hi' => hel _ (hfield i hi')
    refine ⟨some a, cap, l, by rw [h0, hlen], fun hn => ⟨a, rfl, ?_, fun i r hr j u hu => ?_⟩, by omega, hm, fun r hr => ?_⟩
    · have hlt : 0 < len := by simp at hn; omega
      obtain ⟨g, hg⟩ : ∃ g, fs[0]? = some g := ⟨_, Array.getElem?_eq_getElem (by omega)⟩
      obtain ⟨u, y, n, hcell, _⟩ := hfield 0 hlt 0 g hg
      have := World.block_lt_of_cell? w _ hcell
      rwa [block_of_add, block_of_add] at this
    · rw [List.getElem?_map] at hr
      obtain ⟨z, hz, rfl⟩ := Option.map_eq_some_iff.1 hr
      have := (hq i z hz).2 j u hu
      rwa [Go.Deep.add_add] at this
    · obtain ⟨i, hi, rfl⟩ := List.getElem_of_mem hr
      exact (hq i _ (List.getElem?_eq_getElem hi)).1
end

theorem at4 {α : Type} {P : α → Prop} {a b c d : α} {l : List α} (hl : l = [a, b, c, d]) {Q : Nat → α → Prop} (h0 : Q 0 a) (h1 : Q 1 b) (h2 : Q 2 c) (h3 : Q 3 d) : ∀ (j : Nat) (u : α), l[j]? = some u → Q j u := by
  subst hl
  intro j u hu
  match j, hu with
  | 0, hu => cases hu; exact h0
  | 1, hu => cases hu; exact h1
  | 2, hu => cases hu; exact h2
  | 3, hu => cases hu; exact h3
  | j + 4, hu => simp at hu

theorem cfg_of {H : Type} {enc : TypeId × Value → H} {w : World} {r : Reach} {b0 : Nat} {v : Value} {d : DataW H} {p : List MemPlace} (hv : Value.okWide Try.prog w r b0 26 v)
    (h : DataW.Trod enc Try.prog w 0 (fun _ => true) true 26 v d p) : ∃ c : Cfg, v = c.val ∧ CfgIn w w.heap.size c := by
  obtain ⟨v0, v1, v2, y0, y1, y2, n, rfl, _, _, t0, t1, t2⟩ := open_agg3 Try.underlying26 (by kernel_rfl) (by kernel_rfl) hv h
  obtain ⟨la, lc, ls, rfl, l1, l2, l3⟩ := strs_cells Try.underlying22 Try.underlying9 (by kernel_rfl) (fun _ => rfl) t0
  obtain ⟨ra, rc, rs, rfl, r1, r2, r3, _⟩ := rows_cells (α := Rt) (f := Rt.cells) (T := fun _ => True) Try.underlying23 Try.underlying36 (by kernel_rfl) (by kernel_rfl) rfl (fun _ => rfl) (fun q hf => by
    obtain ⟨u0, z0, n0, c0, k0⟩ := hf 0 _ rfl
    obtain ⟨u1, z1, n1, c1, k1⟩ := hf 1 _ rfl
    obtain ⟨u2, z2, n2, c2, k2⟩ := hf 2 _ rfl
    obtain ⟨u3, z3, n3, c3, k3⟩ := hf 3 _ rfl
    obtain ⟨s0, e0, _, _⟩ := DataW.trod_string Try.underlying9 k0
    obtain ⟨s1, e1, _, _⟩ := DataW.trod_string Try.underlying9 k1
    obtain ⟨s2, e2, _, _⟩ := DataW.trod_string Try.underlying9 k2
    obtain ⟨s3, e3, _, _⟩ := DataW.trod_string Try.underlying9 k3
    cases e0; cases e1; cases e2; cases e3
    exact ⟨⟨s0, s1, s2, s3⟩, trivial, at4 (P := fun _ => True) (Q := fun j u => w.cell? (q.add j) = some u) rfl c0 c1 c2 c3⟩) t1
  obtain ⟨ca, cc, cs, rfl, k1, k2, k3, k4⟩ := rows_cells (α := Cl) (f := Cl.cells) (T := Cl.wf) Try.underlying24 Try.underlying34 (by kernel_rfl) (by kernel_rfl) rfl (fun _ => rfl) (fun q hf => by
    obtain ⟨u0, z0, n0, c0, k0⟩ := hf 0 _ rfl
    obtain ⟨u1, z1, n1, c1, k1⟩ := hf 1 _ rfl
    obtain ⟨u2, z2, n2, c2, k2⟩ := hf 2 _ rfl
    obtain ⟨u3, z3, n3, c3, k3⟩ := hf 3 _ rfl
    obtain ⟨s0, e0, _, _⟩ := DataW.trod_string Try.underlying9 k0
    obtain ⟨s1, e1, _, w1⟩ := DataW.trod_int Try.underlying3 k1
    obtain ⟨s2, e2, _, w2⟩ := DataW.trod_int Try.underlying3 k2
    obtain ⟨ha, hn, hc, e3, h3⟩ : ∃ (ha : Option Addr) (hn hc : Nat), u3 = .slice ha hn hc ∧ hn ≤ maxLen := by
      rcases open_slice Try.underlying32 k3 with ⟨h0, _⟩ | ⟨a, len, cap, m, n, D, Pl, h0, _, hl, hm, _⟩
      · simp at h0
        exact ⟨none, 0, 0, h0, by simp [maxLen]⟩
      · simp at h0
        exact ⟨some a, len, cap, h0, by omega⟩
    cases e0; cases e1; cases e2; cases e3
    exact ⟨⟨s0, s1, s2, ha, hn, hc⟩, ⟨w1, w2, h3⟩, at4 (P := fun _ => True) (Q := fun j u => w.cell? (q.add j) = some u) rfl c0 c1 c2 c3⟩) t2
  exact ⟨⟨la, lc, ls, ra, rc, rs, ca, cc, cs⟩, rfl, ⟨l1, r1, k1, l2, r2, k2, l3, r3, k3, k4⟩⟩
end Go.Proofs.Ytlaibkinkopkiaa
