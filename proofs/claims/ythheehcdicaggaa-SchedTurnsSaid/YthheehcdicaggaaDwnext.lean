/- The program's cycle: a closure that tells what is alive, one by one, again and again. -/
import Derived.Test.YthheehcdicaggaaDwords
import Derived.Test.YthheehcdicaggaaFlat
import Derived.OneCell
namespace Go.Proofs.Ythheehcdicaggaa
open Go.RowKit
set_option linter.unusedVariables false
set_option linter.unusedSimpArgs false
set_option maxRecDepth 100000

/-- The two boxes of such a closure: the list, that lies below block B, and a place in it. -/
structure Cyc (B p q : Nat) (A : Option Addr) (c : Nat) (l : List Int) (k : Nat) (w : World) : Prop where
  np : p ≠ q
  bb : B ≤ q
  bp : w.heap[p]? = some (.cells #[.slice A l.length c] 22 (0, 0))
  bq : w.heap[q]? = some (.cells #[.int .i64 (k : Int)] 3 (0, 0))
  r : Reads w B A (l.map (Value.int .i64))
  lt : k < l.length

theorem Cyc.kept {B p q : Nat} {A : Option Addr} {c : Nat} {l : List Int} {k : Nat} {w w' : World} (h : Cyc B p q A c l k w) {row : Option Nat} (g : w.grownBy w' row) (hr : ∀ b, row = some b → p < b ∧ q < b ∧ B ≤ b) : Cyc B p q A c l k w' :=
  ⟨h.np, h.bb, by rw [g.block p (lt_of_block h.bp) (fun e => by have := hr p e.symm; omega)]; exact h.bp, by rw [g.block q (lt_of_block h.bq) (fun e => by have := hr q e.symm; omega)]; exact h.bq,
    fun hn => by
      obtain ⟨ad, e, hb, hc⟩ := h.r hn
      exact ⟨ad, e, hb, fun j u hu => g.cell (hc j u hu) (fun e => by have := hr _ e.symm; rw [block_of_add] at this; omega)⟩, h.lt⟩
theorem Cyc.step {B p q : Nat} {A : Option Addr} {c : Nat} {l : List Int} {k : Nat} {w : World} (h : Cyc B p q A c l k w) {k' : Nat} (hk : k' < l.length) : Cyc B p q A c l k' (w.setCell ⟨q, 0, none⟩ (.int .i64 (k' : Int))) :=
  ⟨h.np, h.bb, by rw [Below.heap_setCell _ _ _ _ h.np]; exact h.bp, one_setCell h.bq, h.r.keep fun a ha => World.cell?_of_block (w := w) (Below.heap_setCell _ _ _ _ (by have := h.bb; show a.block ≠ q; omega)), hk⟩
theorem grown_setCell (w : World) (q : Nat) (u : Value) : w.grownBy (w.setCell ⟨q, 0, none⟩ u) (some q) :=
  ⟨rfl, rfl, rfl, by simp [World.setCell], fun k _ hk => Below.heap_setCell _ _ _ _ (fun e => hk (by simp [e]))⟩
theorem Cyc.drew {B p q : Nat} {A : Option Addr} {c : Nat} {l : List Int} {k : Nat} {w : World} (h : Cyc B p q A c l k w) : Cyc B p q A c l k w.drew :=
  ⟨h.np, h.bb, h.bp, h.bq, h.r, h.lt⟩

theorem next_is (B p q : Nat) (A : Option Addr) (c : Nat) (l : List Int) (k : Nat) (x : Int) (w : World) (h : Cyc B p q A c l k w) (hl : l.length ≤ 1000) (hx : l[k]? = some x) :
    Calls Try.prog 22 #[.pointer (some ⟨p, 0, none⟩), .pointer (some ⟨q, 0, none⟩)] w fun e w' => e = .returned (.int .i64 x) ∧ Cyc B p q A c l ((k + 1) % l.length) w' ∧ w.grownBy w' (some q) := by
  have hk := h.lt
  obtain ⟨ad, rfl, _, f0⟩ := h.r.int hk
  have cp := cell_of_one h.bp
  have cq := cell_of_one h.bq
  have fq := free_of_one h.bq
  have hm := Nat.mod_lt (k + 1) (show 0 < l.length by omega)
  have hmi : ((k : Int) + 1) % (l.length : Int) = (((k + 1) % l.length : Nat) : Int) := by rw [Int.natCast_emod, Int.natCast_add]; rfl
  rw [List.getElem?_eq_getElem hk] at hx
  injection hx with hx
  rw [hx] at f0
  have HS := Lib.hid (h.step hm)
  have H := Lib.hid h
  obtain ⟨j, hj⟩ : ∃ j, (k + 1) % l.length = j := ⟨_, rfl⟩
  rw [hj] at hm hmi HS ⊢
  clear h hx hj
  go_enter Try.func22, Try.ntmps22
  go_wp2_with fail
  go_ret
  exact ⟨rfl, HS.out, grown_setCell _ _ _⟩

/-- A closure of cycle, made of boxes of the call's own. -/
def IsCyc (B : Nat) (A : Option Addr) (c : Nat) (l : List Int) (k : Nat) (f : Value) (p q : Nat) (w : World) : Prop :=
  f = .func (.func 22) #[] #[.pointer (some ⟨p, 0, none⟩), .pointer (some ⟨q, 0, none⟩)] ∧ Cyc B p q A c l k w
theorem cycle_is (A : Option Addr) (c : Nat) (l : List Int) (k : Nat) (w : World) (hr : Reads w w.heap.size A (l.map (Value.int .i64))) (hk : k < l.length) :
    Calls Try.prog 18 #[.slice A l.length c, .int .i64 k] w fun e w' => ∃ f, e = .returned f ∧ IsCyc w.heap.size A c l k f w.heap.size (w.heap.size + 1) w' ∧ w.grownBy w' none ∧ w'.heap.size = w.heap.size + 2 := by
  have hmf : ∀ (fn : Fn) (first cap : Array Value) (w : World), (Instr.makeFunc fn first cap).run Try.prog w = .ok (.func fn first cap) w := fun _ _ _ _ => rfl
  have HC : Hid (Cyc w.heap.size w.heap.size (w.heap.size + 1) A c l k ((w.alloc (.cells #[.slice A l.length c] 22)).alloc (.cells #[.int .i64 (k : Int)] 3))) := Lib.hid ⟨by omega, by omega, by rw [Below.heap_alloc _ _ _ (by simp)]; exact heap_alloc_new _ _, by have := heap_alloc_new (w.alloc (.cells #[.slice A l.length c] 22)) (.cells #[.int .i64 (k : Int)] 3); rwa [World.size_alloc] at this, hr.keep fun a ha => by
    have h1 := (boxed w (.cells #[.slice A l.length c] 22)).cell (p := a) ha
    have h2 := (boxed (w.alloc (.cells #[.slice A l.length c] 22)) (.cells #[.int .i64 (k : Int)] 3)).cell (p := a) (by simp; omega)
    exact h2.trans h1, hk⟩
  clear hr hk
  go_enter Try.func18, Try.ntmps18
  go_wp2_with fail
  go_ret
  refine ⟨_, rfl, ⟨rfl, ?_⟩, grownBy_trans (World.grownBy_alloc _ _ _) (World.grownBy_alloc _ _ _), by simp⟩
  simpa using HC.out
end Go.Proofs.Ythheehcdicaggaa
