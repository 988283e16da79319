/- Rows of rows of numbers in memory. -/
import Derived.Test.YtbbcgcinpodhkaaFpure
import Derived.Test.YtbbcgcinpodhkaaNsay
import Derived.Test.YtbbcgcinpodhkaaOuts
import Derived.Test.YtbbcgcinpodhkaaFlat
namespace Go.Proofs.Ytbbcgcinpodhkaa
open Go.RowKit
set_option linter.unusedVariables false
set_option linter.unusedSimpArgs false
set_option maxRecDepth 100000

/-- A row: where it lies, what it has room for, its numbers. -/
structure Rw where
  a : Option Addr
  c : Nat
  l : List Int
def Rw.cell (r : Rw) : Value := .slice r.a r.l.length r.c
def valsOf (rs : List Rw) : List (List Int) := rs.map Rw.l
theorem vals_len (rs : List Rw) : (valsOf rs).length = rs.length := by simp [valsOf]
/-- Each row lies in memory, below block B; its numbers are of kind q. -/
structure RwIn (q : IntKind) (w : World) (B : Nat) (r : Rw) : Prop where
  rd : Reads w B r.a (r.l.map (Value.int q))
  lc : r.l.length ≤ r.c
  cm : r.c ≤ maxLen
  wf : ∀ x ∈ r.l, (Lit.int q x).wf = true
structure GridIn (q : IntKind) (w : World) (A : Option Addr) (c : Nat) (rs : List Rw) : Prop where
  r : Reads w w.heap.size A (rs.map Rw.cell)
  lc : rs.length ≤ c
  cm : c ≤ maxLen
  each : ∀ r ∈ rs, RwIn q w w.heap.size r
section
variable {q : IntKind} {w w' : World} {B : Nat} {A : Option Addr} {c : Nat} {rs : List Rw}
theorem RwIn.below {r : Rw} (h : RwIn q w B r) {B' : Nat} (hb : Below B w w') (hB : B ≤ B') : RwIn q w' B' r := ⟨(h.rd.below hb).more hB, h.lc, h.cm, h.wf⟩
theorem GridIn.below (h : GridIn q w A c rs) (hb : Below w.heap.size w w') : GridIn q w' A c rs :=
  ⟨(h.r.below hb).more hb.size, h.lc, h.cm, fun r hr => (h.each r hr).below hb hb.size⟩
theorem GridIn.nil : GridIn q w none 0 [] := ⟨fun hn => absurd hn (by simp), Nat.le_refl _, by simp [maxLen], fun r hr => by cases hr⟩
/-- The row numbered k: its cell, and itself. -/
theorem GridIn.row (h : GridIn q w A c rs) {k : Nat} (hk : k < rs.length) : ∃ ad, A = some ad ∧ ad.block < w.heap.size ∧ w.cell? (ad.add k) = some (.slice rs[k].a rs[k].l.length rs[k].c) ∧ RwIn q w w.heap.size rs[k] := by
  obtain ⟨ad, e, hb, hc⟩ := h.r.at_ (k := k) (by rw [List.length_map]; exact hk)
  rw [List.getElem_map] at hc
  exact ⟨ad, e, hb, hc, h.each _ (List.getElem_mem hk)⟩
end
theorem u64_wf {x : Int} : (Lit.int .u64 x).wf = true ↔ U64 x := by
  have hm : IntKind.u64.min = 0 := by decide
  have hx : IntKind.u64.max = 18446744073709551615 := by decide
  unfold U64
  simp only [Lit.wf, hm, hx, Bool.and_eq_true, decide_eq_true_eq]
  omega
/-- The call answers counts, and an error's number. -/
def Grid11 (w : World) (p : List (List Int) × Int) (e : Ending) (w' : World) : Prop :=
  Below w.heap.size w w' ∧ ∃ A c rs, e = .returned (.tuple #[.slice A rs.length c, .int .i64 p.2]) ∧ GridIn .u64 w' A c rs ∧ valsOf rs = p.1
theorem grid_all {w w' : World} {p : List (List Int) × Int} {e : Ending} (h : Grid11 w p e w') : ∃ A c rs, e = .returned (.tuple #[.slice A rs.length c, .int .i64 p.2]) ∧ GridIn .u64 w' A c rs ∧ valsOf rs = p.1 ∧ Below w.heap.size w w' := by
  obtain ⟨hb, A, c, rs, rfl, hg, hv⟩ := h
  exact ⟨A, c, rs, rfl, hg, hv, hb⟩
/-- Nothing of these rows lies in block b. -/
def Sep (b : Nat) (A : Option Addr) (rs : List Rw) : Prop := (0 < rs.length → ∀ ad, A = some ad → ad.block ≠ b) ∧ ∀ r ∈ rs, 0 < r.l.length → ∀ ad, r.a = some ad → ad.block ≠ b
/-- The call answers counts, and an error's number; the counts lie in no block that was there, but those that may be. -/
def GridS (S : Nat → Prop) (w : World) (p : List (List Int) × Int) (e : Ending) (w' : World) : Prop :=
  Below w.heap.size w w' ∧ ∃ A c rs, e = .returned (.tuple #[.slice A rs.length c, .int .i64 p.2]) ∧ GridIn .u64 w' A c rs ∧ valsOf rs = p.1 ∧ ∀ b, b < w.heap.size → S b → Sep b A rs
theorem GridS.grid {S : Nat → Prop} {w w' : World} {p : List (List Int) × Int} {e : Ending} (h : GridS S w p e w') : Grid11 w p e w' := by
  obtain ⟨hb, A, c, rs, he, hg, hv, _⟩ := h
  exact ⟨hb, A, c, rs, he, hg, hv⟩
theorem gridS_all {S : Nat → Prop} {w w' : World} {p : List (List Int) × Int} {e : Ending} (h : GridS S w p e w') : ∃ A c rs, e = .returned (.tuple #[.slice A rs.length c, .int .i64 p.2]) ∧ GridIn .u64 w' A c rs ∧ valsOf rs = p.1 ∧ (∀ b, b < w.heap.size → S b → Sep b A rs) ∧ Below w.heap.size w w' := by
  obtain ⟨hb, A, c, rs, rfl, hg, hv, hs⟩ := h
  exact ⟨A, c, rs, rfl, hg, hv, hs, hb⟩
theorem GridIn.sep {q : IntKind} {w : World} {A : Option Addr} {c : Nat} {rs : List Rw} (h : GridIn q w A c rs) : Sep w.heap.size A rs := by
  refine ⟨fun hn ad e => ?_, fun r hr hn ad e => ?_⟩
  · obtain ⟨ad', e', hb, _⟩ := h.r (by rw [List.length_map]; exact hn)
    rw [e] at e'
    cases e'
    exact Nat.ne_of_lt hb
  · obtain ⟨ad', e', hb, _⟩ := (h.each r hr).rd (by rw [List.length_map]; exact hn)
    rw [e] at e'
    cases e'
    exact Nat.ne_of_lt hb
theorem Reads.store {w : World} {B b j : Nat} {A : Option Addr} {xs : List Value} {u : Value} (h : Reads w B A xs) (hs : 0 < xs.length → ∀ ad, A = some ad → ad.block ≠ b) (hB : B ≤ w.heap.size) : Reads (w.setCell ⟨b, j, none⟩ u) (w.setCell ⟨b, j, none⟩ u).heap.size A xs := fun hn => by
  obtain ⟨ad, e, hb, hc⟩ := h hn
  refine ⟨ad, e, by simp [World.setCell]; omega, fun k v hv => ?_⟩
  rw [World.cell?_of_block (w := w) (Below.heap_setCell _ _ _ _ (by rw [block_of_add]; exact hs hn ad e))]
  exact hc k v hv
theorem GridIn.store {q : IntKind} {w : World} {A : Option Addr} {c b j : Nat} {rs : List Rw} {u : Value} (h : GridIn q w A c rs) (hs : Sep b A rs) : GridIn q (w.setCell ⟨b, j, none⟩ u) A c rs :=
  ⟨h.r.store (fun hn => hs.1 (by rwa [List.length_map] at hn)) (Nat.le_refl _), h.lc, h.cm, fun r hr => ⟨(h.each r hr).rd.store (fun hn => hs.2 r hr (by rwa [List.length_map] at hn)) (Nat.le_refl _), (h.each r hr).lc, (h.each r hr).cm, (h.each r hr).wf⟩⟩
/-- Six numbers, as one value. -/
def six (l : List Int) : Value := .agg (l.map (Value.int .u64)).toArray
/-- The call answers six sums, and an error's number. -/
def Sum11 (w : World) (p : List Int × Int) (e : Ending) (w' : World) : Prop := e = .returned (.tuple #[six p.1, .int .i64 p.2]) ∧ Below w.heap.size w w'
structure Words11 : Prop where
  new : ∀ (t : Int) (w : World), I64 t → Calls Try.prog 12 #[.int .i64 t] w (GridS (fun _ => True) w (newC t))
  is : ∀ (A : Option Addr) (c : Nat) (rs : List Rw) (w : World), GridIn .u64 w A c rs → Calls Try.prog 16 #[.slice A rs.length c] w (Says w (isC (valsOf rs)))
  add : ∀ (A : Option Addr) (c : Nat) (rs : List Rw) (t k : Int) (w : World), GridIn .u64 w A c rs → I64 t → I64 k → Calls Try.prog 8 #[.slice A rs.length c, .int .i64 t, .int .i64 k] w (GridS (fun b => Sep b A rs) w (addC (valsOf rs) t k))
  sum : ∀ (A : Option Addr) (c : Nat) (rs : List Rw) (w : World), GridIn .u64 w A c rs → Calls Try.prog 10 #[.slice A rs.length c] w (Sum11 w (sumC (valsOf rs)))
theorem Words11.newG (K : Words11) (t : Int) (w : World) (ht : I64 t) : Calls Try.prog 12 #[.int .i64 t] w (Grid11 w (newC t)) := (K.new t w ht).mono fun _ _ h => h.grid
theorem Words11.addG (K : Words11) (A : Option Addr) (c : Nat) (rs : List Rw) (t k : Int) (w : World) (h : GridIn .u64 w A c rs) (ht : I64 t) (hk : I64 k) : Calls Try.prog 8 #[.slice A rs.length c, .int .i64 t, .int .i64 k] w (Grid11 w (addC (valsOf rs) t k)) := (K.add A c rs t k w h ht hk).mono fun _ _ h => h.grid
end Go.Proofs.Ytbbcgcinpodhkaa
