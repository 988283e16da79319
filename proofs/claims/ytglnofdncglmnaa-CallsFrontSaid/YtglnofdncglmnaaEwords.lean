/- What the program's three calls of package calls are to say: the laws' walks are over these words. -/
import Derived.Test.YtglnofdncglmnaaEof
import Derived.Test.YtglnofdncglmnaaEord
import Derived.Test.YtglnofdncglmnaaEsame
import Derived.Test.YtglnofdncglmnaaSameI
namespace Go.Proofs.Ytglnofdncglmnaa
open Go.RowKit
set_option linter.unusedVariables false
set_option linter.unusedSimpArgs false
set_option maxRecDepth 100000

def errOf (r : Option (List Cal)) : Int := if r.isSome then 0 else 11
/-- The call answers the calls of a trace, and an error's number: no calls with an error. -/
def Told10 (w : World) (r : Option (List Cal)) (e : Ending) (w' : World) : Prop :=
  Below w.heap.size w w' ∧ ∃ A cap, e = .returned (.tuple #[.slice A (r.getD []).length cap, .int .i64 (errOf r)]) ∧ CalsIn w' A cap (r.getD [])
theorem Traced.told {w w' : World} {r : Option (List Cal)} {e : Ending} (h : Traced w r e w') : Told10 w r e w' := by
  obtain ⟨hb, h⟩ := h
  cases r with
  | none => exact ⟨hb, none, 0, h, fun hn => absurd hn (by simp), Nat.le_refl _, by simp [maxLen]⟩
  | some c =>
    obtain ⟨A, cap, rfl, hc⟩ := h
    exact ⟨hb, A, cap, rfl, hc⟩
/-- Words10: a trace of whatever length a slice may have. -/
structure Words10 : Prop where
  of : ∀ (A : Option Addr) (c : Nat) (l : List Ev) (w : World), EvsIn w A c l → l.length * 168 ≤ 140737488351232 → Calls Try.prog 8 #[.slice A l.length c] w (Told10 w (ofL l))
  ahead : ∀ (a b : Cal) (w : World), Calls Try.prog 16 #[a.val, b.val] w (Says w (aheadB a b))
  order : ∀ (A : Option Addr) (c : Nat) (l : List Cal) (w : World), CalsIn w A c l → l.length ≤ 1000 → Calls Try.prog 14 #[.slice A l.length c] w (Row10 w (natI (orderI l)))

/-! The law's own trace. -/
def eP (t : Int) (b p d : Bool) (k : Int) (o : Int) : Ev := ⟨t, o, 0, 0, 0, false, 0, b, p, d, ⟨k, 0, 0, 0, 0, 0, 0, 0, 0, 0, 0, 0, 0⟩⟩
def lP : List Ev := [eP 1 true false false 0 0, eP 0 true true false 0 0, eP 0 false false true 4 0, eP 1 false true false 0 0]
theorem plain10_is (w : World) : Calls Try.prog 20 #[] w fun e w' => e = .returned (.slice (some ⟨w.heap.size, 0, none⟩) 4 4) ∧ w' = w.alloc (.cells (lP.map Ev.cells).flatten.toArray 43) := by
  go_enter Try.func20, Try.ntmps20
  go_wp2_with fail
  go_ret
  exact ⟨rfl, rfl⟩
end Go.Proofs.Ytglnofdncglmnaa
