/- Laws of atomic pointers in the run of one goroutine, whatever the program; blocks of cells behind a store. -/
import Derived.WalkKit
import Derived.ProofKit
import Derived.Lib.Hide
import Derived.Lib.Builder
import Derived.OneCell
namespace Go.Proofs.Ytbbcgcinpodhkaa
open Go.RowKit
set_option linter.unusedVariables false
section
variable {P : Program} {f : FuncId} {fn : Func}

theorem run_call_loadp (hf : P.funcs[f]? = some fn) (hname : (fn.name == "runtime.NumGoroutine") = false) (hb : fn.body.isNone = true) (hn : Extern.findNext fn = none)
    (he : Extern.find fn = some (Extern.Atomic.loadT .ptr)) {a : Addr} {x : Option Addr} {w : World} (hc : w.cell? a = some (.pointer x)) :
    (callFunc f #[.pointer (some a)]).run P w = .ok (.value (.pointer x)) w := by
  rw [run_callFunc_extern hf hname hb hn he]
  change (Sem.run P (do Extern.Atomic.read .ptr (← asAddr (.pointer (some a)))) w).andThen _ = _
  simp [Extern.Atomic.read, asAddr, hc, Result.andThen]

theorem run_call_storep (hf : P.funcs[f]? = some fn) (hname : (fn.name == "runtime.NumGoroutine") = false) (hb : fn.body.isNone = true) (hn : Extern.findNext fn = none)
    (he : Extern.find fn = some Extern.Atomic.storeT) {a : Addr} {y : Option Addr} {u : Value} {w : World} (hc : w.cell? a = some u) (hz : w.frozen? a = false) :
    (callFunc f #[.pointer (some a), .pointer y]).run P w = .ok (.value (.tuple #[])) (w.setCell a (.pointer y)) := by
  rw [run_callFunc_extern hf hname hb hn he]
  change (Sem.run P (do
    store (← asAddr (.pointer (some a))) (.pointer y) .atomic
    pure Extern.Atomic.none_) w).andThen _ = _
  simp [asAddr, hc, hz, run_store P w a (.pointer y) .atomic rfl, Result.andThen, Extern.Atomic.none_]

theorem run_call_swapp (hf : P.funcs[f]? = some fn) (hname : (fn.name == "runtime.NumGoroutine") = false) (hb : fn.body.isNone = true) (hn : Extern.findNext fn = none)
    (he : Extern.find fn = some (Extern.Atomic.swapT .ptr)) {a : Addr} {x y : Option Addr} {w : World} (hc : w.cell? a = some (.pointer x)) (hz : w.frozen? a = false) :
    (callFunc f #[.pointer (some a), .pointer y]).run P w = .ok (.value (.pointer x)) (w.setCell a (.pointer y)) := by
  rw [run_callFunc_extern hf hname hb hn he]
  change (Sem.run P (do
    let a' ← asAddr (.pointer (some a))
    let old ← Extern.Atomic.read .ptr a'
    store a' (.pointer y) .atomic
    pure old) w).andThen _ = _
  simp [Extern.Atomic.read, asAddr, hc, hz, run_store P w a (.pointer y) .atomic rfl, Result.andThen]

theorem run_call_casp_hit (hf : P.funcs[f]? = some fn) (hname : (fn.name == "runtime.NumGoroutine") = false) (hb : fn.body.isNone = true) (hn : Extern.findNext fn = none)
    (he : Extern.find fn = some (Extern.Atomic.casT .ptr)) {a p : Addr} {y : Option Addr} {w : World} (hc : w.cell? a = some (.pointer (some p))) (hz : w.frozen? a = false) :
    (callFunc f #[.pointer (some a), .pointer (some p), .pointer y]).run P w = .ok (.value (.bool true)) (w.setCell a (.pointer y)) := by
  rw [run_callFunc_extern hf hname hb hn he]
  change (Sem.run P (do
    let a' ← asAddr (.pointer (some a))
    if ← Extern.Atomic.touchesFrozen a' then unsupported (.unsafePointer "a write to bytes that a string shares")
    let eq ← match Extern.Atomic.T.ptr, ← Extern.Atomic.read .ptr a', Value.pointer (some p) with
      | _, .int _ x, .int _ y => pure (x == y)
      | .ptr, .pointer x, .pointer y => samePointer x y
      | .int _, .pointer (some _), .int _ 0 | .int _, .int _ 0, .pointer (some _) => pure false
      | .int _, .pointer (some _), _ | .int _, _, .pointer (some _) => unsupported .addressObserved
      | _, _, _ => stuck "atomic.CompareAndSwap: old is no T"
    if eq then store a' (.pointer y) .atomic
    pure (Value.bool eq)) w).andThen _ = _
  simp [Extern.Atomic.touchesFrozen, Extern.Atomic.read, asAddr, viewAt, World.shape?_isSome_of_cell? hc, hc, hz, samePointer, run_sameAddr_same, run_store P w a (.pointer y) .atomic rfl, Result.andThen]
end

/-! Blocks. -/
theorem block_setCell {w : World} {b o : Nat} {c : Array Value} {t : TypeId} {r : Nat × Nat} (h : w.heap[b]? = some (.cells c t r)) (u : Value) :
    (w.setCell ⟨b, o, none⟩ u).heap[b]? = some (.cells (c.setIfInBounds o u) t r) := by
  simp [World.setCell, Array.getElem?_modify, h]
theorem block_cell {w : World} {b : Nat} {c : Array Value} {t : TypeId} {r : Nat × Nat} (h : w.heap[b]? = some (.cells c t r)) (o : Nat) : w.cell? ⟨b, o, none⟩ = c[o]? := by
  simp [World.cell?, h]
theorem block_free {w : World} {b : Nat} {c : Array Value} {t : TypeId} (h : w.heap[b]? = some (.cells c t (0, 0))) (o : Nat) : w.frozen? ⟨b, o, none⟩ = false := by
  simp [World.frozen?, h]
theorem block_shape {w : World} {b : Nat} {c : Array Value} {t : TypeId} {r : Nat × Nat} (h : w.heap[b]? = some (.cells c t r)) : w.shape? b = some (t, c.size) := by
  simp [World.shape?, h]
theorem block_lt {w : World} {b : Nat} {o : Obj} (h : w.heap[b]? = some o) : b < w.heap.size := lt_of_block h

/-- A cell of type T (a pointer to what it has, and a count) in block B has v, of type E, and has been come to n times. -/
def Held (T E : TypeId) (w : World) (B : Nat) (v : Value) (n : Int) : Prop :=
  ∃ p, w.heap[B]? = some (.cells #[.pointer (some ⟨p, 0, none⟩), .int .i64 n] T (0, 0)) ∧ w.heap[p]? = some (.cells #[v] E (0, 0))

theorem Held.lt {T E : TypeId} {w : World} {B : Nat} {v : Value} {n : Int} (h : Held T E w B v n) : B < w.heap.size := by
  obtain ⟨p, h, _⟩ := h; exact block_lt h

theorem Held.kept {T E : TypeId} {w w' : World} {B C : Nat} {v : Value} {n : Int} (h : Held T E w B v n) (g : w.grownBy w' (some C)) (hne : B ≠ C) (hp : ∀ p, w.heap[B]? = some (.cells #[.pointer (some ⟨p, 0, none⟩), .int .i64 n] T (0, 0)) → p ≠ C) : Held T E w' B v n := by
  obtain ⟨p, h1, h2⟩ := h
  have := hp p h1
  exact ⟨p, by rw [g.block B (block_lt h1) (by simpa using hne)]; exact h1, by rw [g.block p (block_lt h2) (by simpa using this)]; exact h2⟩

/-- What another cell's step leaves: two cells, each a block of two. -/
theorem Held.beside {T E T' E' : TypeId} {w w' : World} {B C : Nat} {v v' : Value} {n n' : Int} (h : Held T E w B v n) (k : Held T' E' w C v' n') (g : w.grownBy w' (some C)) (hne : B ≠ C) : Held T E w' B v n := by
  refine h.kept g hne (fun p hp => ?_)
  obtain ⟨p', h1, h2⟩ := h
  obtain ⟨q, k1, k2⟩ := k
  rintro rfl
  have e : p' = p := by
    have := h1.symm.trans hp
    simpa using this
  subst e
  have := h2.symm.trans k1
  simp at this

theorem Held.grown0 {T E : TypeId} {w w' : World} {B : Nat} {v : Value} {n : Int} (h : Held T E w B v n) (g : w.grownBy w' none) : Held T E w' B v n := by
  obtain ⟨p, h1, h2⟩ := h
  exact ⟨p, by rw [g.block B (block_lt h1) (by simp)]; exact h1, by rw [g.block p (block_lt h2) (by simp)]; exact h2⟩

/-- What a call that comes to the cell in block B answers and leaves: the cell has v then, n accesses; nothing else that was there has turned. -/
def Comes (T E : TypeId) (w : World) (B : Nat) (v : Value) (n : Int) (r : Value) (e : Ending) (w' : World) : Prop :=
  e = .returned r ∧ Held T E w' B v n ∧ w.grownBy w' (some B)

theorem grownBy_trans {a b c : World} {r : Option Nat} (h : a.grownBy b r) (k : b.grownBy c r) : a.grownBy c r :=
  ⟨k.os.trans h.os, k.tape.trans h.tape, k.output.trans h.output, Nat.le_trans h.size k.size, fun i hi hne => (k.block i (Nat.lt_of_lt_of_le hi h.size) hne).trans (h.block i hi hne)⟩
theorem grownBy_row {a b : World} (h : a.grownBy b none) (r : Option Nat) : a.grownBy b r :=
  ⟨h.os, h.tape, h.output, h.size, fun i hi _ => h.block i hi (by simp)⟩
theorem grownBy_store (w : World) (B o : Nat) (u : Value) : w.grownBy (w.setCell ⟨B, o, none⟩ u) (some B) :=
  ⟨rfl, rfl, rfl, by simp, fun i hi hne => Below.heap_setCell _ _ _ _ (by simpa using hne)⟩
theorem grownBy_below {a b : World} (h : Below a.heap.size a b) : a.grownBy b none :=
  ⟨h.os, h.tape, h.output, h.size, fun i hi _ => h.block i hi⟩
theorem below_grownBy {B : Nat} {a b : World} {r : Option Nat} (h : a.grownBy b r) (hB : B ≤ a.heap.size) (hr : ∀ k, r = some k → B ≤ k) : Below B a b :=
  ⟨h.os, h.tape, h.output, h.size, fun i hi => h.block i (by omega) (by rintro he; have := hr i he.symm; omega)⟩
/-- What a step on a cell that the call made leaves of what was there before the call made it. -/
theorem grownBy_over {a b c : World} {k : Nat} (h : a.grownBy b none) (g : b.grownBy c (some k)) (hk : a.heap.size ≤ k) : a.grownBy c none :=
  ⟨g.os.trans h.os, g.tape.trans h.tape, g.output.trans h.output, Nat.le_trans h.size g.size, fun i hi _ => (g.block i (Nat.lt_of_lt_of_le hi h.size) (by simp; omega)).trans (h.block i hi (by simp))⟩
theorem two_ne {w : World} {B p : Nat} {x y z : Value} {T E : TypeId} (h : w.heap[B]? = some (.cells #[x, y] T (0, 0))) (hp : w.heap[p]? = some (.cells #[z] E (0, 0))) : p ≠ B := by
  rintro rfl
  have := h.symm.trans hp
  simp at this

theorem one_alloc (w : World) (a : Obj) : (w.alloc a).heap[w.heap.size]? = some a := heap_alloc_new w a
theorem two_allocs (w : World) (a b : Obj) : ((w.alloc a).alloc b).heap[w.heap.size + 1]? = some b ∧ ((w.alloc a).alloc b).heap[w.heap.size]? = some a := by
  constructor
  · have := heap_alloc_new (w.alloc a) b
    rwa [World.size_alloc] at this
  · rw [Below.heap_alloc _ _ _ (by simp)]; exact heap_alloc_new w a

/-- What the cell in block B leads to behind the call is new, or what it led to ahead of it. -/
def Moves (T : TypeId) (w : World) (B : Nat) (w' : World) : Prop :=
  ∀ p m, w'.heap[B]? = some (.cells #[.pointer (some ⟨p, 0, none⟩), m] T (0, 0)) → w.heap.size ≤ p ∨ ∃ m', w.heap[B]? = some (.cells #[.pointer (some ⟨p, 0, none⟩), m'] T (0, 0))
theorem moves_same {T : TypeId} {w w' : World} {B p : Nat} {n n' : Value} (h : w.heap[B]? = some (.cells #[.pointer (some ⟨p, 0, none⟩), n] T (0, 0))) (h' : w'.heap[B]? = some (.cells #[.pointer (some ⟨p, 0, none⟩), n'] T (0, 0))) : Moves T w B w' := by
  intro q m hq
  have e := h'.symm.trans hq
  have : p = q := by simp at e; exact e.1
  subst this
  exact Or.inr ⟨_, h⟩
theorem moves_new {T : TypeId} {w w' : World} {B p : Nat} {n' : Value} (h' : w'.heap[B]? = some (.cells #[.pointer (some ⟨p, 0, none⟩), n'] T (0, 0))) (hp : w.heap.size ≤ p) : Moves T w B w' := by
  intro q m hq
  have e := h'.symm.trans hq
  have : p = q := by simp at e; exact e.1
  subst this
  exact Or.inl hp
/-- Comes, and what the cell leads to. -/
def Goes (T E : TypeId) (w : World) (B : Nat) (v : Value) (n : Int) (r : Value) (e : Ending) (w' : World) : Prop := Comes T E w B v n r e w' ∧ Moves T w B w'
end Go.Proofs.Ytbbcgcinpodhkaa
