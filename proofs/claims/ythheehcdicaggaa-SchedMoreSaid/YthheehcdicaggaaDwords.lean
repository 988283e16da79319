/- What the program's four calls of package sched are to say: the laws' walks are over these words. -/
import Derived.Test.YthheehcdicaggaaDref2
import Derived.Test.YthheehcdicaggaaSameI
namespace Go.Proofs.Ythheehcdicaggaa
open Go.RowKit
set_option linter.unusedVariables false
set_option linter.unusedSimpArgs false

/-- A list of numbers that lies in memory. -/
structure NumsIn (w : World) (A : Option Addr) (c : Nat) (l : List Int) : Prop where
  r : Reads w w.heap.size A (l.map (Value.int .i64))
  lc : l.length ≤ c
  cm : c ≤ maxLen
  v : ∀ x ∈ l, I64 x
theorem NumsIn.below {w w' : World} {A : Option Addr} {c : Nat} {l : List Int} (h : NumsIn w A c l) (hb : Below w.heap.size w w') : NumsIn w' A c l := ⟨(h.r.below hb).more hb.size, h.lc, h.cm, h.v⟩
theorem nums_of {w : World} {A : Option Addr} {c : Nat} {l : List Int} (h : IntsIn .i64 w A c l) : NumsIn w A c l := ⟨h.1, h.2.1, h.2.2.1, fun x hx => i64_of (h.2.2.2.1 x hx)⟩
structure Words9 : Prop where
  pick : ∀ (p : Int) (A : Option Addr) (c : Nat) (l : List Int) (w : World), NumsIn w A c l → l.length ≤ 1000 → I64 p → Calls Try.prog 8 #[.int .i64 p, .slice A l.length c] w (Two9 w (pickI p l))
  round : ∀ (t n : Int) (w : World), I64 t → I64 n → Calls Try.prog 10 #[.int .i64 t, .int .i64 n] w (Wrote w .i64 (roundI t n))
  fair : ∀ (A : Option Addr) (c : Nat) (l : List Int) (t b : Int) (w : World), NumsIn w A c l → l.length ≤ 400 → I64 t → t ≤ 20 → I64 b → Calls Try.prog 14 #[.slice A l.length c, .int .i64 t, .int .i64 b] w (Says w (fairI l t b))
  most : ∀ (A : Option Addr) (c : Nat) (l : List Int) (t : Int) (w : World), NumsIn w A c l → l.length ≤ 400 → I64 t → t ≤ 20 → Calls Try.prog 16 #[.slice A l.length c, .int .i64 t] w (One9 w (mostI l t))
end Go.Proofs.Ythheehcdicaggaa
