/- A region that draws its order, all of whose operations yield one value each in whatever world that is as the first one was below a block: one walk of the text's order serves all orders; its calls may make blocks of their own. -/
import Derived.WalkKit
import Derived.Below
import Derived.Deep.Quiet
import Derived.BigQuiet
import Derived.RegionTactic
namespace Go.Proofs.Ytbbcgcinpodhkaa
open Go.RowKit
set_option linter.unusedVariables false
set_option linter.unusedSimpArgs false

/-- A world that is as w was, below block B. -/
structure Far (B : Nat) (w : World) where
  v : World
  p : Below B w v
instance (B : Nat) (w : World) : Nonempty (Far B w) := ⟨⟨w, Below.refl B w⟩⟩

section
variable {P : Program} {ops : Array Oper} {C : World → Prop}
/-- The region's text, in its order; what stands behind it is asked in each such world. -/
theorem wp_region_far {id B : Nat} {Q : Exit → Act → World → Prop} {a : Act} {w : World} {l : List Oper} (hm : P.follows .mixedOrders = true) (hB : Region.lexB .any l.toArray = true)
    (h : wpQuiet P l.toArray (fun w' => ∃ i : Far B w, w' = i.v) (fun a' => ∀ w', (∃ i : Far B w, w' = i.v) → Q .normal a' w') l a) : (Code.region id l.toArray true).wp P Q a w :=
  wp_region_quiet (C := fun w' => ∃ i : Far B w, w' = i.v) hm hB ⟨⟨{ w with drawn := w.drawn + 1 }, ⟨rfl, rfl, rfl, Nat.le_refl _, fun _ _ => rfl⟩⟩, rfl⟩ (by simpa using h)
/-- An operation whose run is known. -/
theorem wpQuiet_run {o : Oper} {rest : List Oper} {Q : Act → Prop} {a : Act} (hw : Region.wanted o (yielded ops a.tmps) = true) (v : Value) (hrun : ∀ w, C w → (execOp a.eval o).run P w = .ok (.value v) w) (h : wpQuiet P ops C Q rest (a.put o.dst v)) : wpQuiet P ops C Q (o :: rest) a := by
  unfold wpQuiet
  rw [if_pos hw]
  exact ⟨v, fun w hC => by unfold Oper.quietAt; rw [hrun w hC]; exact ⟨rfl, rfl⟩, h⟩
section
variable {B : Nat} {w : World}
theorem wpQuiet_load {o : Oper} {rest : List Oper} {Q : Act → Prop} {a : Act} (hw : Region.wanted o (yielded ops a.tmps) = true) (x : Operand) (t : TypeId) (ho : o.op = Op.load t x) (p v : Value) (hx : a.eval x = p) (hrun : ∀ i : Far B w, (Instr.loadAt t p).run P i.v = .ok v i.v)
    (h : wpQuiet P ops (fun w' => ∃ i : Far B w, w' = i.v) Q rest (a.put o.dst v)) : wpQuiet P ops (fun w' => ∃ i : Far B w, w' = i.v) Q (o :: rest) a :=
  wpQuiet_run hw v (fun w' ⟨i, hi⟩ => by subst hi; simp [execOp, ho, hx, hrun, Result.andThen]) h
theorem wpQuiet_bin {o : Oper} {rest : List Oper} {Q : Act → Prop} {a : Act} (hw : Region.wanted o (yielded ops a.tmps) = true) (b : BinOp) (s x : Operand) (t t' : TypeId) (ho : o.op = Op.binOp b t s x t') (vs us r : Value) (hs : a.eval s = vs) (hx : a.eval x = us)
    (hG : ∀ w, (eqGuard b t s x vs us).run P w = .ok () w) (hrun : ∀ w, (binOp b t vs us).run P w = .ok r w)
    (h : wpQuiet P ops (fun w' => ∃ i : Far B w, w' = i.v) Q rest (a.put o.dst r)) : wpQuiet P ops (fun w' => ∃ i : Far B w, w' = i.v) Q (o :: rest) a :=
  wpQuiet_run hw r (fun w' ⟨i, hi⟩ => by subst hi; simp [execOp, ho, hs, hx, hG, hrun, Result.andThen]) h
/-- A call by its contract, met in whatever such world. -/
theorem far_call {f : FuncId} {args : Array Value} {v : Value} (i : Far B w) (h : Calls P f args i.v fun e w' => e = .returned v ∧ Below B i.v w') : Calls P f args i.v fun e w'' => e = .returned v ∧ ∃ j : Far B w, w'' = j.v :=
  h.mono fun e w' ⟨he, hb⟩ => ⟨he, ⟨⟨w', i.p.trans hb⟩, rfl⟩⟩
end
end
end Go.Proofs.Ytbbcgcinpodhkaa
