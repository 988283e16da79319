/- The law's own configuration of layer 7, in memory. -/
import Derived.Test.YtknjdaokidcllaaSwords
namespace Go.Proofs.Ytknjdaokidcllaa
open Go.RowKit
set_option linter.unusedVariables false
set_option linter.unusedSimpArgs false
set_option maxRecDepth 100000

def pIn : ByteArray := ⟨#[105, 110]⟩
def pA : ByteArray := ⟨#[97]⟩
def pB : ByteArray := ⟨#[98]⟩
def pC : ByteArray := ⟨#[99]⟩
def pX : ByteArray := ⟨#[120]⟩
def pStar : ByteArray := ⟨#[42]⟩
def pSl : ByteArray := ⟨#[47]⟩
def pCl1 (h : Addr) : Cl := ⟨pA, 1, 1, some h, 1, 1⟩
def pCl2 (h : Addr) : Cl := ⟨pB, 2, 4, some h, 2, 2⟩
def pR1 : Rt := ⟨pIn, pStar, pSl, pA⟩
def pR2 (cl : ByteArray) : Rt := ⟨pIn, pX, pSl, cl⟩
def pCfg (nl nc nr n1 n2 : Nat) (cl : ByteArray) : Cfg := ⟨some ⟨nl, 0, none⟩, 1, [pIn], some ⟨nr, 0, none⟩, 2, [pR1, pR2 cl], some ⟨nc, 0, none⟩, 2, [pCl1 ⟨n1, 0, none⟩, pCl2 ⟨n2, 0, none⟩]⟩
/-- Its five blocks. -/
structure PlainLies (W : World) (nl nc nr n1 n2 : Nat) (cl : ByteArray) : Prop where
  l : W.heap[nl]? = some (.cells #[.string pIn] 9 (0, 0))
  c : W.heap[nc]? = some (.cells (([pCl1 ⟨n1, 0, none⟩, pCl2 ⟨n2, 0, none⟩].map Cl.cells).flatten.toArray) 46 (0, 0))
  r : W.heap[nr]? = some (.cells (([pR1, pR2 cl].map Rt.cells).flatten.toArray) 48 (0, 0))
  h1 : W.heap[n1]? = some (.cells #[.bool true] 4 (0, 0))
  h2 : W.heap[n2]? = some (.cells #[.bool false, .bool true] 4 (0, 0))
section
variable {w W W' : World} {nl nc nr n1 n2 : Nat} {cl : ByteArray}
theorem PlainLies.below (h : PlainLies W nl nc nr n1 n2 cl) (hb : Below W.heap.size W W') : PlainLies W' nl nc nr n1 n2 cl :=
  ⟨(hb.block _ (block_lt h.l)).trans h.l, (hb.block _ (block_lt h.c)).trans h.c, (hb.block _ (block_lt h.r)).trans h.r, (hb.block _ (block_lt h.h1)).trans h.h1, (hb.block _ (block_lt h.h2)).trans h.h2⟩
theorem four4 {α : Type} (f : α → List Value) (hf : ∀ x, (f x).length = 4) (l : List α) : ∀ r ∈ l.map f, r.length = 4 := fun r hr => by
  obtain ⟨x, _, rfl⟩ := List.mem_map.1 hr
  exact hf x
theorem pcl_wf (h1 h2 : Addr) : ∀ x ∈ [pCl1 h1, pCl2 h2], x.wf := fun x hx => by
  simp at hx
  rcases hx with rfl | rfl
  · exact ⟨by show (Lit.int .i64 1).wf = true; decide, by show (Lit.int .i64 1).wf = true; decide, by show 1 ≤ maxLen; simp [maxLen]⟩
  · exact ⟨by show (Lit.int .i64 2).wf = true; decide, by show (Lit.int .i64 4).wf = true; decide, by show 2 ≤ maxLen; simp [maxLen]⟩
theorem PlainLies.cfg (h : PlainLies W nl nc nr n1 n2 cl) : CfgIn W W.heap.size (pCfg nl nc nr n1 n2 cl) :=
  ⟨reads_block (l := [.string pIn]) h.l, rows4_block (four4 Rt.cells (fun _ => rfl) _) h.r, rows4_block (four4 Cl.cells (fun _ => rfl) _) h.c, Nat.le_refl _, Nat.le_refl _, Nat.le_refl _,
    by show 1 ≤ maxLen; simp [maxLen], by show 2 ≤ maxLen; simp [maxLen], by show 2 ≤ maxLen; simp [maxLen], pcl_wf _ _⟩
theorem PlainLies.health (h : PlainLies W nl nc nr n1 n2 cl) : HealthIn W W.heap.size (pCfg nl nc nr n1 n2 cl).cs [[true], [false, true]] :=
  ⟨rfl, fun i hi hi' => by
    match i, hi, hi' with
    | 0, hi, hi' => exact ⟨rfl, reads_block (l := [.bool true]) h.h1⟩
    | 1, hi, hi' => exact ⟨rfl, reads_block (l := [.bool false, .bool true]) h.h2⟩
    | i + 2, hi, _ => exact absurd hi (by simp [pCfg])⟩
/-- The second route's cluster is written. -/
theorem PlainLies.set (h : PlainLies W nl nc nr n1 n2 cl) (u : ByteArray) : PlainLies (W.setCell ⟨nr, 7, none⟩ (.string u)) nl nc nr n1 n2 u :=
  ⟨(Below.heap_setCell _ _ _ _ (by rintro rfl; have := h.r.symm.trans h.l; simp at this)).trans h.l,
   (Below.heap_setCell _ _ _ _ (by rintro rfl; have := h.r.symm.trans h.c; simp at this)).trans h.c,
   block_setCell h.r (.string u),
   (Below.heap_setCell _ _ _ _ (by rintro rfl; have := h.r.symm.trans h.h1; simp at this)).trans h.h1,
   (Below.heap_setCell _ _ _ _ (by rintro rfl; have := h.r.symm.trans h.h2; simp at this)).trans h.h2⟩
end
theorem six_allocs (w : World) (o0 o1 o2 o3 o4 o5 : Obj) (W : World) (hW : W = (((((w.alloc o0).alloc o1).alloc o2).alloc o3).alloc o4).alloc o5) :
    W.heap[w.heap.size + 1]? = some o1 ∧ W.heap[w.heap.size + 1 + 1]? = some o2 ∧ W.heap[w.heap.size + 1 + 1 + 1]? = some o3 ∧ W.heap[w.heap.size + 1 + 1 + 1 + 1]? = some o4 ∧ W.heap[w.heap.size + 1 + 1 + 1 + 1 + 1]? = some o5 ∧ Below w.heap.size w W := by
  have a1 := one_alloc (w.alloc o0) o1
  have a2 := one_alloc ((w.alloc o0).alloc o1) o2
  have a3 := one_alloc (((w.alloc o0).alloc o1).alloc o2) o3
  have a4 := one_alloc ((((w.alloc o0).alloc o1).alloc o2).alloc o3) o4
  have a5 := one_alloc (((((w.alloc o0).alloc o1).alloc o2).alloc o3).alloc o4) o5
  simp only [World.size_alloc] at a1 a2 a3 a4 a5
  subst hW
  exact ⟨kept_alloc (kept_alloc (kept_alloc (kept_alloc a1))), kept_alloc (kept_alloc (kept_alloc a2)), kept_alloc (kept_alloc a3), kept_alloc a4, a5,
    below_alloc (below_alloc (below_alloc (below_alloc (below_alloc (boxed w _) (Nat.le_refl _)) (Nat.le_refl _)) (Nat.le_refl _)) (Nat.le_refl _)) (Nat.le_refl _)⟩
def Plain7 (w : World) (e : Ending) (w' : World) : Prop := ∃ nl nc nr n1 n2, e = .returned (pCfg nl nc nr n1 n2 pB).val ∧ PlainLies w' nl nc nr n1 n2 pB ∧ w.heap.size ≤ nr ∧ nl ≠ nr ∧ nc ≠ nr ∧ Below w.heap.size w w'
set_option maxHeartbeats 1000000 in
theorem plain7_is (w : World) : Calls Try.prog 25 #[] w (Plain7 w) := by
  go_enter Try.func25, Try.ntmps25
  go_wp2
  obtain ⟨a1, a2, a3, a4, a5, B⟩ := six_allocs w _ _ _ _ _ _ _ rfl
  refine bodyPost_ret (v := (pCfg (w.heap.size + 1) (w.heap.size + 1 + 1 + 1 + 1) (w.heap.size + 1 + 1 + 1 + 1 + 1) (w.heap.size + 1 + 1) (w.heap.size + 1 + 1 + 1) pB).val) ?_ rfl
    ⟨w.heap.size + 1, w.heap.size + 1 + 1 + 1 + 1, w.heap.size + 1 + 1 + 1 + 1 + 1, w.heap.size + 1 + 1, w.heap.size + 1 + 1 + 1, rfl, ⟨a1, a4, a5, a2, a3⟩, by omega, by omega, by omega, B⟩
  simp [results, Try.results25, go_sem, Cfg.val, pCfg]
end Go.Proofs.Ytknjdaokidcllaa
