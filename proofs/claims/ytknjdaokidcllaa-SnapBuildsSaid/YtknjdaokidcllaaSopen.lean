/- Configurations and snapshots that came in, with what their Health lists hold. -/
import Derived.Test.YtknjdaokidcllaaM3
import Derived.Test.YtknjdaokidcllaaRows
namespace Go.Proofs.Ytknjdaokidcllaa
open Go.Joins Go.ChangeShapes Go.WideShapes Go.RowKit Go.Deep
set_option linter.unusedVariables false
set_option linter.unusedSimpArgs false
set_option maxRecDepth 100000

section
variable {H : Type} {enc : TypeId × Value → H} {P : Program} {w : World} {spare : Nat → Bool} {held : Bool}
theorem bools_cells {t e : TypeId} {fuel : Nat} {v : Value} {x : DataW H × List MemPlace} (ht : P.underlying t = some (.slice e)) (he : P.underlying e = some .bool) (hc : P.cellsOf e = 1) (hs : ∀ k, spare k = true)
    (h : DataW.trod enc P w 0 spare held fuel t [v] = some x) : ∃ (A : Option Addr) (c : Nat) (xs : List Bool), v = .slice A xs.length c ∧ Reads w w.heap.size A (xs.map Value.bool) ∧ xs.length ≤ c ∧ c ≤ maxLen := by
  rcases open_slice1 ht hc h with ⟨h0, _⟩ | ⟨a, len, cap, m, n, V, D, Pl, h0, _, hl, hm, hmm, _, hi⟩
  · simp at h0
    exact ⟨none, 0, [], h0, fun hn => by simp at hn, by simp, by simp [maxLen]⟩
  · simp at h0
    rw [hs, if_pos rfl] at hmm
    obtain ⟨l, hlen, hq⟩ := list_of (Q := fun i (s : Bool) => w.cell? (a.add i) = some (.bool s)) len fun i hi' => by
      obtain ⟨hcell, ht'⟩ := hi i (by omega)
      obtain ⟨s, e1, _⟩ := DataW.trod_bool he ht'
      simp at e1
      exact ⟨s, by rw [hcell, e1]⟩
    refine ⟨some a, cap, l, by rw [h0, hlen], fun hn => ⟨a, rfl, ?_, fun j u hu => ?_⟩, by omega, hm⟩
    · have hlt : 0 < len := by simp at hn; omega
      obtain ⟨hcell, _⟩ := hi 0 (by omega)
      have := World.block_lt_of_cell? w _ hcell
      rwa [block_of_add] at this
    · rw [List.getElem?_map] at hu
      obtain ⟨z, hz, rfl⟩ := Option.map_eq_some_iff.1 hu
      exact hq j z hz
end

/-- A cluster's Health list lies in memory. -/
def Cl.sound (w : World) (x : Cl) : Prop := x.wf ∧ ∃ hl : List Bool, hl.length = x.hn ∧ Reads w w.heap.size x.ha (hl.map Value.bool)
theorem health_of {w : World} {cs : List Cl} (h : ∀ x ∈ cs, Cl.sound w x) : ∃ hs, HealthIn w w.heap.size cs hs := by
  obtain ⟨hs, h1, h2⟩ := list_of (Q := fun i (hl : List Bool) => ∀ hi : i < cs.length, hl.length = cs[i].hn ∧ Reads w w.heap.size cs[i].ha (hl.map Value.bool)) cs.length fun i hi => by
    obtain ⟨_, hl, h3, h4⟩ := h _ (List.getElem_mem hi)
    exact ⟨hl, fun _ => ⟨h3, h4⟩⟩
  exact ⟨hs, h1, fun i hi hi' => h2 i hs[i] (List.getElem?_eq_getElem hi') hi⟩

theorem clusters_cells {H : Type} {enc : TypeId × Value → H} {w : World} {fuel : Nat} {v : Value} {x : DataW H × List MemPlace} (h : DataW.trod enc Try.prog w 0 (fun _ => true) true fuel 24 [v] = some x) :
    ∃ (A : Option Addr) (c : Nat) (cs : List Cl), v = .slice A cs.length c ∧ Rows4 w w.heap.size A (cs.map Cl.cells) ∧ cs.length ≤ c ∧ c ≤ maxLen ∧ ∀ r ∈ cs, Cl.sound w r :=
  rows_cells (α := Cl) (f := Cl.cells) (T := Cl.sound w) Try.underlying24 Try.underlying46 (by kernel_rfl) (by kernel_rfl) rfl (fun _ => rfl) (fun q hf => by
    obtain ⟨u0, z0, n0, c0, k0⟩ := hf 0 _ rfl
    obtain ⟨u1, z1, n1, c1, k1⟩ := hf 1 _ rfl
    obtain ⟨u2, z2, n2, c2, k2⟩ := hf 2 _ rfl
    obtain ⟨u3, z3, n3, c3, k3⟩ := hf 3 _ rfl
    obtain ⟨s0, e0, _, _⟩ := DataW.trod_string Try.underlying9 k0
    obtain ⟨s1, e1, _, w1⟩ := DataW.trod_int Try.underlying3 k1
    obtain ⟨s2, e2, _, w2⟩ := DataW.trod_int Try.underlying3 k2
    obtain ⟨ha, hc, hl, rfl, r1, r2, r3⟩ := bools_cells Try.underlying44 Try.underlying4 (by kernel_rfl) (fun _ => rfl) k3
    cases e0; cases e1; cases e2
    exact ⟨⟨s0, s1, s2, ha, hl.length, hc⟩, ⟨⟨w1, w2, Nat.le_trans r2 r3⟩, hl, rfl, r1⟩, at4 (P := fun _ => True) (Q := fun j u => w.cell? (q.add j) = some u) rfl c0 c1 c2 c3⟩) h

theorem cfgH_of {H : Type} {enc : TypeId × Value → H} {w : World} {r : Reach} {b0 : Nat} {v : Value} {d : DataW H} {p : List MemPlace} (hv : Value.okWide Try.prog w r b0 26 v)
    (h : DataW.Trod enc Try.prog w 0 (fun _ => true) true 26 v d p) : ∃ (c : Cfg) (hs : List (List Bool)), v = c.val ∧ CfgIn w w.heap.size c ∧ HealthIn w w.heap.size c.cs hs := by
  obtain ⟨v0, v1, v2, y0, y1, y2, n, rfl, _, _, t0, t1, t2⟩ := open_agg3 Try.underlying26 (by kernel_rfl) (by kernel_rfl) hv h
  obtain ⟨la, lc, ls, rfl, l1, l2, l3⟩ := strs_cells Try.underlying22 Try.underlying9 (by kernel_rfl) (fun _ => rfl) t0
  obtain ⟨ra, rc, rs, rfl, r1, r2, r3, _⟩ := rows_cells (α := Rt) (f := Rt.cells) (T := fun _ => True) Try.underlying23 Try.underlying48 (by kernel_rfl) (by kernel_rfl) rfl (fun _ => rfl) (fun q hf => by
    obtain ⟨u0, z0, n0, c0, k0⟩ := hf 0 _ rfl
    obtain ⟨u1, z1, n1, c1, k1⟩ := hf 1 _ rfl
    obtain ⟨u2, z2, n2, c2, k2⟩ := hf 2 _ rfl
    obtain ⟨u3, z3, n3, c3, k3⟩ := hf 3 _ rfl
    obtain ⟨s0, e0, _, _⟩ := DataW.trod_string Try.underlying9 k0
    obtain ⟨s1, e1, _, _⟩ := DataW.trod_string Try.underlying9 k1
    obtain ⟨s2, e2, _, _⟩ := DataW.trod_string Try.underlying9 k2
    obtain ⟨s3, e3, _, _⟩ := DataW.trod_string Try.underlying9 k3
    cases e0; cases e1; cases e2; cases e3
    exact ⟨⟨s0, s1, s2, s3⟩, trivial, at4 (P := fun _ => True) (Q := fun j u => w.cell? (q.add j) = some u) rfl c0 c1 c2 c3⟩) t1
  obtain ⟨ca, cc, cs, rfl, k1, k2, k3, k4⟩ := clusters_cells t2
  obtain ⟨hs, hh⟩ := health_of k4
  exact ⟨⟨la, lc, ls, ra, rc, rs, ca, cc, cs⟩, hs, rfl, ⟨l1, r1, k1, l2, r2, k2, l3, r3, k3, fun x hx => (k4 x hx).1⟩, hh⟩

theorem snap_of {H : Type} {enc : TypeId × Value → H} {w : World} {r : Reach} {b0 : Nat} {v : Value} {d : DataW H} {p : List MemPlace} (hv : Value.okWide Try.prog w r b0 30 v)
    (h : DataW.Trod enc Try.prog w 0 (fun _ => true) true 30 v d p) : ∃ (s : Sn) (hs : List (List Bool)), v = s.val ∧ SnIn w w.heap.size s ∧ HealthIn w w.heap.size s.cs hs := by
  obtain ⟨v0, v1, v2, y0, y1, y2, n, rfl, _, _, t0, t1, t2⟩ := open_agg3 Try.underlying30 (by kernel_rfl) (by kernel_rfl) hv h
  obtain ⟨la, lc, ls, rfl, l1, l2, l3⟩ := strs_cells Try.underlying22 Try.underlying9 (by kernel_rfl) (fun _ => rfl) t0
  obtain ⟨ra, rc, rs, rfl, r1, r2, r3, _⟩ := rows_cells (α := Rl) (f := Rl.cells) (T := fun _ => True) Try.underlying28 Try.underlying54 (by kernel_rfl) (by kernel_rfl) rfl (fun _ => rfl) (fun q hf => by
    obtain ⟨u0, z0, n0, c0, k0⟩ := hf 0 _ rfl
    obtain ⟨u1, z1, n1, c1, k1⟩ := hf 1 _ rfl
    obtain ⟨u2, z2, n2, c2, k2⟩ := hf 2 _ rfl
    obtain ⟨u3, z3, n3, c3, k3⟩ := hf 3 _ rfl
    obtain ⟨s0, e0, _, _⟩ := DataW.trod_int Try.underlying3 k0
    obtain ⟨s1, e1, _, _⟩ := DataW.trod_string Try.underlying9 k1
    obtain ⟨s2, e2, _, _⟩ := DataW.trod_string Try.underlying9 k2
    obtain ⟨s3, e3, _, _⟩ := DataW.trod_int Try.underlying3 k3
    cases e0; cases e1; cases e2; cases e3
    exact ⟨⟨s0, s1, s2, s3⟩, trivial, at4 (P := fun _ => True) (Q := fun j u => w.cell? (q.add j) = some u) rfl c0 c1 c2 c3⟩) t1
  obtain ⟨ca, cc, cs, rfl, k1, k2, k3, k4⟩ := clusters_cells t2
  obtain ⟨hs, hh⟩ := health_of k4
  exact ⟨⟨la, lc, ls, ra, rc, rs, ca, cc, cs⟩, hs, rfl, ⟨l1, r1, k1, l2, r2, k2, l3, r3, k3, fun x hx => (k4 x hx).1⟩, hh⟩
end Go.Proofs.Ytknjdaokidcllaa
