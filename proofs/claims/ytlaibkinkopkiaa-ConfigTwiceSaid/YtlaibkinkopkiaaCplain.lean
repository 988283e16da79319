/- The law's own configurations: plain. -/
import Derived.Test.YtlaibkinkopkiaaCmain2
import Derived.Test.YtlaibkinkopkiaaPtr
namespace Go.Proofs.Ytlaibkinkopkiaa
open Go.RowKit
set_option linter.unusedVariables false
set_option linter.unusedSimpArgs false
set_option maxRecDepth 100000

theorem flat4 {l : List (List Value)} (h : ∀ r ∈ l, r.length = 4) {i : Nat} {r : List Value} (hi : l[i]? = some r) {j : Nat} (hj : j < 4) : l.flatten[i * 4 + j]? = r[j]? := by
  induction l generalizing i with
  | nil => simp at hi
  | cons a l ih =>
    have ha : a.length = 4 := h a (List.mem_cons_self ..)
    rw [List.flatten_cons]
    cases i with
    | zero =>
      simp at hi
      subst hi
      rw [Nat.zero_mul, Nat.zero_add, List.getElem?_append_left (by omega)]
    | succ i =>
      rw [List.getElem?_append_right (by rw [ha]; omega), ha, show (i + 1) * 4 + j - 4 = i * 4 + j by omega]
      exact ih (fun r hr => h r (List.mem_cons_of_mem _ hr)) (by simpa using hi)

theorem rows4_block {w : World} {n : Nat} {l : List (List Value)} {t : TypeId} (h4 : ∀ r ∈ l, r.length = 4) (h : w.heap[n]? = some (.cells l.flatten.toArray t (0, 0))) : Rows4 w w.heap.size (some ⟨n, 0, none⟩) l := fun hp => by
  refine ⟨_, rfl, block_lt h, fun i r hr j v hv => ?_⟩
  rw [Addr.add_lit, Nat.zero_add, block_cell h, List.getElem?_toArray]
  have hj : j < 4 := by
    rw [← h4 r (List.mem_of_getElem? hr)]
    exact (List.getElem?_eq_some_iff.1 hv).1
  rw [flat4 h4 hr hj]
  exact hv
theorem reads_block {w : World} {n : Nat} {l : List Value} {t : TypeId} (h : w.heap[n]? = some (.cells l.toArray t (0, 0))) : Reads w w.heap.size (some ⟨n, 0, none⟩) l := fun hp => by
  refine ⟨_, rfl, block_lt h, fun j v hv => ?_⟩
  rw [Addr.add_lit, Nat.zero_add, block_cell h, List.getElem?_toArray]
  exact hv


theorem kept_alloc {w : World} {o x : Obj} {g : Nat} (h : w.heap[g]? = some x) : (w.alloc o).heap[g]? = some x := (Below.heap_alloc w o g (block_lt h)).trans h

def inS : ByteArray := ⟨#[105, 110]⟩
def aS : ByteArray := ⟨#[97]⟩
def bS : ByteArray := ⟨#[98]⟩
def starT : ByteArray := ⟨#[42]⟩
def slashT : ByteArray := ⟨#[47]⟩
def xS : ByteArray := ⟨#[120]⟩
def clA (h : Addr) : Cl := ⟨aS, 1, 1, some h, 1, 1⟩
def clB (n : ByteArray) (h : Addr) : Cl := ⟨n, 2, 4, some h, 2, 2⟩
def rtA : Rt := ⟨inS, starT, slashT, aS⟩
def rtB (host cl : ByteArray) : Rt := ⟨inS, host, slashT, cl⟩
def cArr (l : List Cl) : Array Value := (l.map Cl.cells).flatten.toArray
def rArr (l : List Rt) : Array Value := (l.map Rt.cells).flatten.toArray

/-- Rows of clusters and of routes, made since w. -/
structure Parts (w wr : World) (nc nr : Nat) (cs : List Cl) (rs : List Rt) : Prop where
  base : Below w.heap.size w wr
  bc : w.heap.size ≤ nc
  br : w.heap.size ≤ nr
  c : wr.heap[nc]? = some (.cells (cArr cs) 34 (0, 0))
  r : wr.heap[nr]? = some (.cells (rArr rs) 36 (0, 0))
def PlainTell (w : World) (e : Ending) (w' : World) : Prop :=
  ∃ nl nc nr h1 h2, e = .returned (.agg #[.slice (some ⟨nl, 0, none⟩) 1 1, .slice (some ⟨nr, 0, none⟩) 2 2, .slice (some ⟨nc, 0, none⟩) 2 2]) ∧ w.heap.size ≤ nl ∧
    w'.heap[nl]? = some (.cells #[.string inS] 9 (0, 0)) ∧ Parts w w' nc nr [clA h1, clB bS h2] [rtA, rtB xS bS]

theorem plain_is (w : World) : Calls Try.prog 23 #[] w (PlainTell w) := by
  go_enter Try.func23, Try.ntmps23
  go_wp2
  have s1 := fun (o : Obj) => World.size_alloc w o
  refine bodyPost_ret (v := .agg #[.slice (some ⟨w.heap.size + 1, 0, none⟩) 1 1, .slice (some ⟨w.heap.size + 1 + 1 + 1 + 1 + 1, 0, none⟩) 2 2, .slice (some ⟨w.heap.size + 1 + 1 + 1 + 1, 0, none⟩) 2 2]) (by simp [results, Try.results23, go_sem]) rfl
    ⟨w.heap.size + 1, w.heap.size + 1 + 1 + 1 + 1, w.heap.size + 1 + 1 + 1 + 1 + 1, ⟨w.heap.size + 1 + 1, 0, none⟩, ⟨w.heap.size + 1 + 1 + 1, 0, none⟩, rfl, by omega, ?_, ?_, by omega, by omega, ?_, ?_⟩
  · refine kept_alloc (kept_alloc (kept_alloc (kept_alloc ?_)))
    have h := one_alloc (w.alloc (.cells #[.slice (some ⟨w.heap.size + 1, 0, none⟩) 1 1, .slice (some ⟨w.heap.size + 1 + 1 + 1 + 1 + 1, 0, none⟩) 2 2, .slice (some ⟨w.heap.size + 1 + 1 + 1 + 1, 0, none⟩) 2 2] 26)) (.cells #[.string inS] 9)
    simp only [World.size_alloc] at h
    exact h
  · exact below_alloc (below_alloc (below_alloc (below_alloc (below_alloc (boxed w _) (Nat.le_refl _)) (Nat.le_refl _)) (Nat.le_refl _)) (Nat.le_refl _)) (Nat.le_refl _)
  · refine kept_alloc ?_
    have h := one_alloc ((((w.alloc (.cells #[.slice (some ⟨w.heap.size + 1, 0, none⟩) 1 1, .slice (some ⟨w.heap.size + 1 + 1 + 1 + 1 + 1, 0, none⟩) 2 2, .slice (some ⟨w.heap.size + 1 + 1 + 1 + 1, 0, none⟩) 2 2] 26)).alloc
      (.cells #[.string inS] 9)).alloc (.cells #[.bool true] 4)).alloc (.cells #[.bool false, .bool true] 4))
      (.cells (cArr [clA ⟨w.heap.size + 1 + 1, 0, none⟩, clB bS ⟨w.heap.size + 1 + 1 + 1, 0, none⟩]) 34)
    simp only [World.size_alloc] at h
    exact h
  · have h := one_alloc (((((w.alloc (.cells #[.slice (some ⟨w.heap.size + 1, 0, none⟩) 1 1, .slice (some ⟨w.heap.size + 1 + 1 + 1 + 1 + 1, 0, none⟩) 2 2, .slice (some ⟨w.heap.size + 1 + 1 + 1 + 1, 0, none⟩) 2 2] 26)).alloc
      (.cells #[.string inS] 9)).alloc (.cells #[.bool true] 4)).alloc (.cells #[.bool false, .bool true] 4)).alloc
      (.cells (cArr [clA ⟨w.heap.size + 1 + 1, 0, none⟩, clB bS ⟨w.heap.size + 1 + 1 + 1, 0, none⟩]) 34)) (.cells (rArr [rtA, rtB xS bS]) 36)
    simp only [World.size_alloc] at h
    exact h
end Go.Proofs.Ytlaibkinkopkiaa
