/- What the program's four calls of package snap are to say: the laws' walks are over these words. -/
import Derived.Test.YtknjdaokidcllaaM3
import Derived.Test.YtknjdaokidcllaaRbest
namespace Go.Proofs.Ytknjdaokidcllaa
open Go.RowKit
set_option linter.unusedVariables false
set_option linter.unusedSimpArgs false

def Sn.nil : Sn := ⟨none, 0, [], none, 0, [], none, 0, []⟩
/-- A snapshot, with its Health lists, all of it new since w. -/
structure SnNew (w w' : World) (s : Sn) (hs : List (List Bool)) : Prop where
  i : SnIn w' w'.heap.size s
  h : HealthIn w' w'.heap.size s.cs hs
  la : Anew w.heap.size s.la
  ra : Anew w.heap.size s.ra
  ca : Anew w.heap.size s.ca
  ha : ∀ x ∈ s.cs, Anew w.heap.size x.ha
/-- What Build answers. -/
def Built (c : Cfg) (hs : List (List Bool)) (w : World) (e : Ending) (w' : World) : Prop :=
  ((checkI c.ls c.rs c.cs).1 = 0 ∧ ∃ s : Sn, e = .returned (.tuple #[s.val, .int .i64 0, .int .i64 0]) ∧ SnNew w w' s hs ∧ s.ls = c.ls ∧ Alike s.cs c.cs ∧ s.rs = rulesI c.ls c.rs c.cs ∧ Below w.heap.size w w') ∨
  ((checkI c.ls c.rs c.cs).1 ≠ 0 ∧ e = .returned (.tuple #[Sn.nil.val, .int .i64 (checkI c.ls c.rs c.cs).1, .int .i64 (checkI c.ls c.rs c.cs).2]) ∧ Below w.heap.size w w')
/-- What Config answers. -/
def Confed (s : Sn) (hs : List (List Bool)) (w : World) (e : Ending) (w' : World) : Prop :=
  ∃ c : Cfg, e = .returned c.val ∧ CfgIn w' w'.heap.size c ∧ HealthIn w' w'.heap.size c.cs hs ∧ c.ls = s.ls ∧ Alike c.cs s.cs ∧ c.rs = routesI s.ls s.rs s.cs ∧ Below w.heap.size w w'
/-- Does a snapshot's configuration pass? -/
def isI (s : Sn) : Bool := (checkI s.ls (routesI s.ls s.rs s.cs) s.cs).1 == 0
/-- What is found. -/
def foundI (l : List Rl) (f : Rl → Bool) : Int × Int :=
  match bestO l f with
  | none => (0, 5)
  | some x => (l[x].cluster, 0)
def findS (s : Sn) (li h p : ByteArray) : Int × Int := bif decide (numL s.ls li < 0) then (0, 3) else foundI s.rs (fitB (numL s.ls li) h p)
/-- There is not too much to be copied. -/
structure Few (s : Sn) : Prop where
  l : s.ls.length ≤ 50
  r : s.rs.length ≤ 50
  c : s.cs.length ≤ 50
  h : ∀ x ∈ s.cs, x.hn ≤ 50
structure Words : Prop where
  build : ∀ (c : Cfg) (hs : List (List Bool)) (w : World), CfgIn w w.heap.size c → HealthIn w w.heap.size c.cs hs → Calls Try.prog 8 #[c.val] w (Built c hs w)
  conf : ∀ (s : Sn) (hs : List (List Bool)) (w : World), SnIn w w.heap.size s → HealthIn w w.heap.size s.cs hs → Few s → Calls Try.prog 15 #[s.val] w (Confed s hs w)
  is : ∀ (s : Sn) (hs : List (List Bool)) (w : World), SnIn w w.heap.size s → HealthIn w w.heap.size s.cs hs → Few s → Calls Try.prog 13 #[s.val] w (Says w (isI s))
  find : ∀ (s : Sn) (w : World) (li h p : ByteArray), SnIn w w.heap.size s → h.size ≤ 2000 → (∀ r ∈ s.rs, r.path.size ≤ 2000) → Calls Try.prog 17 #[s.val, .string li, .string h, .string p] w (Tells2 w (findS s li h p))
end Go.Proofs.Ytknjdaokidcllaa
