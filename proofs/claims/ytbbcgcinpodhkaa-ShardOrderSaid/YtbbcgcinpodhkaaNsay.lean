/- Worlds behind a call, kinds of bytes and texts: plain words that name no function of the program. -/
import Derived.WalkKit
import Derived.ProofKit
import Derived.Below
import Derived.Lib.Hide
import Derived.LoopTactic
import Derived.BigQuiet
import Derived.Deep.QuietTactic
namespace Go.Proofs.Ytbbcgcinpodhkaa
open Go.RowKit
set_option linter.unusedVariables false

/-- The call answers b, and nothing that was there has turned. -/
def Says (w : World) (b : Bool) (e : Ending) (w' : World) : Prop := e = .returned (.bool b) ∧ Below w.heap.size w w'
theorem says_below {w w' : World} {b : Bool} {e : Ending} (h : Says w b e w') : e = .returned (.bool b) ∧ Below w.heap.size w w' := h
theorem Says.of {w w' : World} {b c : Bool} {e : Ending} (h : Says w b e w') (hc : b = c) : Says w c e w' := hc ▸ h
theorem below_next {w w1 w2 : World} (h : Below w.heap.size w w1) (k : Below w1.heap.size w1 w2) : Below w.heap.size w w2 := h.trans (k.mono h.size)
theorem below_drewN {B : Nat} {a w : World} (h : Below B a w) (n : Nat) : Below B a (w.drewN n) := ⟨h.os, h.tape, h.output, h.size, h.block⟩
theorem ret_bool {a b : Bool} (h : a = b) : Ending.returned (.bool a) = .returned (.bool b) := by rw [h]

section
variable {P : Program} {f : FuncId} {args : Array Value} {w : World} {v : Value}
/-- A callee that leaves the world alone, met in a region of reads: the first one of a walk, or a later one. -/
theorem still0 {n : Nat} (h : ∀ W, Calls P f args W fun e w' => e = .returned v ∧ W = w') : Calls P f args (w.drewN n) fun e w'' => e = .returned v ∧ ∃ m, w'' = w.drewN m :=
  (h _).mono fun _ _ k => ⟨k.1, n, k.2.symm⟩
theorem still1 {a n : Nat} (h : ∀ W, Calls P f args W fun e w' => e = .returned v ∧ W = w') : Calls P f args (w.drewN (a + n)) fun e w'' => e = .returned v ∧ ∃ m, w'' = w.drewN (a + m) :=
  (h _).mono fun _ _ k => ⟨k.1, n, k.2.symm⟩
end

/-! Bytes. -/
def lowI (n : Int) : Bool := decide (97 ≤ n ∧ n ≤ 122)
def wordI (n : Int) : Bool := lowI n || decide (48 ≤ n ∧ n ≤ 57) || decide (n = 45)
def slashI (n : Int) : Bool := decide (n = 47)
def pathI (n : Int) : Bool := wordI n || slashI n

/-! Texts. -/
def kindL (most : Nat) (f g : Int → Bool) : List UInt8 → Bool
  | [] => false
  | c :: cs => decide (cs.length + 1 ≤ most) && f (c.toNat : Int) && cs.all fun c => g (c.toNat : Int)
def kindB (most : Nat) (f g : Int → Bool) (s : ByteArray) : Bool := kindL most f g s.data.toList
def nameB (s : ByteArray) : Bool := kindB 16 lowI wordI s
def pathB (s : ByteArray) : Bool := kindB 32 slashI pathI s

theorem kindB_iff (most : Nat) (f g : Int → Bool) (s : ByteArray) : kindB most f g s = true ↔ ∃ h : 0 < s.size, s.size ≤ most ∧ f (s[0].toNat : Int) = true ∧ ∀ j (hj : j < s.size), 0 < j → g (s[j].toNat : Int) = true := by
  obtain ⟨⟨l⟩⟩ := s
  cases l with
  | nil => exact ⟨(fun h => (by cases h)), (fun ⟨h, _⟩ => absurd h (by decide))⟩
  | cons c cs =>
    have hs : (ByteArray.mk ⟨c :: cs⟩).size = cs.length + 1 := rfl
    constructor
    · intro h
      simp only [kindB, kindL, Bool.and_eq_true, decide_eq_true_eq, List.all_eq_true] at h
      refine ⟨by rw [hs]; omega, by rw [hs]; exact h.1.1, h.1.2, fun j hj h0 => ?_⟩
      obtain ⟨k, rfl⟩ : ∃ k, j = k + 1 := ⟨j - 1, by omega⟩
      have hk : k < cs.length := by rw [hs] at hj; omega
      exact h.2 cs[k] (List.getElem_mem hk)
    · rintro ⟨h0, h1, h2, h3⟩
      simp only [kindB, kindL, Bool.and_eq_true, decide_eq_true_eq, List.all_eq_true]
      refine ⟨⟨by rw [hs] at h1; exact h1, h2⟩, fun x hx => ?_⟩
      obtain ⟨k, hk, rfl⟩ := List.getElem_of_mem hx
      exact h3 (k + 1) (by rw [hs]; omega) (by omega)

section
variable {most : Nat} {f g : Int → Bool} {s : ByteArray}
theorem kindB_yes (h : 0 < s.size) (h1 : s.size ≤ most) (h2 : f (s[0].toNat : Int) = true) (h3 : ∀ j (hj : j < s.size), 0 < j → g (s[j].toNat : Int) = true) : kindB most f g s = true :=
  (kindB_iff ..).2 ⟨h, h1, h2, h3⟩
theorem kindB_empty (h : s.size = 0) : kindB most f g s = false := by
  rw [Bool.eq_false_iff]; intro hk; obtain ⟨h', _⟩ := (kindB_iff ..).1 hk; omega
theorem kindB_long (h : most < s.size) : kindB most f g s = false := by
  rw [Bool.eq_false_iff]; intro hk; obtain ⟨_, h', _⟩ := (kindB_iff ..).1 hk; omega
theorem kindB_first (h : 0 < s.size) (h2 : f (s[0].toNat : Int) = false) : kindB most f g s = false := by
  rw [Bool.eq_false_iff]; intro hk; obtain ⟨_, _, h', _⟩ := (kindB_iff ..).1 hk; rw [h2] at h'; cases h'
theorem kindB_next {j : Nat} (hj : j < s.size) (h0 : 0 < j) (h2 : g (s[j].toNat : Int) = false) : kindB most f g s = false := by
  rw [Bool.eq_false_iff]; intro hk; obtain ⟨_, _, _, h'⟩ := (kindB_iff ..).1 hk; have := h' j hj h0; rw [h2] at this; cases this
end
end Go.Proofs.Ytbbcgcinpodhkaa
