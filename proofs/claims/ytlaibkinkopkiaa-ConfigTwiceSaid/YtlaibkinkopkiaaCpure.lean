/- Configurations, as plain data, and what may be said of them: no word of the program. -/
import Derived.Test.YtlaibkinkopkiaaNsay
import Derived.Test.YtlaibkinkopkiaaNparts
import Derived.Test.YtlaibkinkopkiaaNstar
namespace Go.Proofs.Ytlaibkinkopkiaa
open Go.RowKit
set_option linter.unusedVariables false
set_option linter.unusedSimpArgs false

structure Rt where
  listen : ByteArray
  host : ByteArray
  path : ByteArray
  cluster : ByteArray
structure Cl where
  name : ByteArray
  policy : Int
  slots : Int
  ha : Option Addr
  hn : Nat
  hc : Nat

def Rt.none : Rt := ⟨⟨#[]⟩, ⟨#[]⟩, ⟨#[]⟩, ⟨#[]⟩⟩
def Cl.none : Cl := ⟨⟨#[]⟩, 0, 0, Option.none, 0, 0⟩
def Rt.cells (r : Rt) : List Value := [.string r.listen, .string r.host, .string r.path, .string r.cluster]
def Cl.cells (c : Cl) : List Value := [.string c.name, .int .i64 c.policy, .int .i64 c.slots, .slice c.ha c.hn c.hc]

/-- Two texts are one. -/
def eqB (a b : ByteArray) : Bool := a.toList == b.toList

/-! What is asked of a part. -/
def unlessI (b : Bool) (e : Int) : Int := bif b then 0 else e
def withinB (n m : Int) : Bool := decide (1 ≤ n) && decide (n ≤ m)
def lAt (ls : List ByteArray) (i : Nat) : ByteArray := ls.getD i ⟨#[]⟩
def cAt (cs : List Cl) (i : Nat) : Cl := cs.getD i Cl.none
def rAt (rs : List Rt) (i : Nat) : Rt := rs.getD i Rt.none
def hasL (ls : List ByteArray) (s : ByteArray) : Bool := ls.any fun x => eqB s x
def hasC (cs : List Cl) (s : ByteArray) : Bool := cs.any fun x => eqB x.name s
def alikeB (o r : Rt) : Bool := (eqB o.listen r.listen && eqB o.host r.host) && eqB o.path r.path
def hasR (rs : List Rt) (r : Rt) : Bool := rs.any fun o => alikeB o r

def lName (ls : List ByteArray) (i : Nat) : Int := unlessI (nameB (lAt ls i)) 3
def lOnce (ls : List ByteArray) (i : Nat) : Int := unlessI (!hasL (ls.take i) (lAt ls i)) 4
def cName (cs : List Cl) (i : Nat) : Int := unlessI (nameB (cAt cs i).name) 3
def cOnce (cs : List Cl) (i : Nat) : Int := unlessI (!hasC (cs.take i) (cAt cs i).name) 4
def cPolicy (cs : List Cl) (i : Nat) : Int := unlessI ((cAt cs i).policy == 1 || (cAt cs i).policy == 2) 9
def cSlots (cs : List Cl) (i : Nat) : Int := unlessI (withinB (cAt cs i).slots 4) 10
def cHealth (cs : List Cl) (i : Nat) : Int := unlessI (withinB (cAt cs i).hn 4) 6
def rListen (ls : List ByteArray) (rs : List Rt) (i : Nat) : Int := unlessI (hasL ls (rAt rs i).listen) 5
def rHost (rs : List Rt) (i : Nat) : Int := unlessI (patternB (rAt rs i).host) 7
def rPath (rs : List Rt) (i : Nat) : Int := unlessI (pathB (rAt rs i).path) 8
def rCluster (cs : List Cl) (rs : List Rt) (i : Nat) : Int := unlessI (hasC cs (rAt rs i).cluster) 5
def rOnce (rs : List Rt) (i : Nat) : Int := unlessI (!hasR (rs.take i) (rAt rs i)) 4

/-! The first error of one part, and of all. -/
def pickI : List Int → Int
  | [] => 0
  | e :: l => bif e == 0 then pickI l else e
def firstI (E : Nat → Int) : Nat → Nat → Int × Int
  | _, 0 => (0, 0)
  | i, k + 1 => bif E i == 0 then firstI E (i + 1) k else (E i, (i : Int))
def asksL (ls : List ByteArray) : List (Nat → Int) := [lName ls, lOnce ls]
def asksC (cs : List Cl) : List (Nat → Int) := [cName cs, cOnce cs, cPolicy cs, cSlots cs, cHealth cs]
def asksR (ls : List ByteArray) (rs : List Rt) (cs : List Cl) : List (Nat → Int) := [rListen ls rs, rHost rs, rPath rs, rCluster cs rs, rOnce rs]
def errI (asks : List (Nat → Int)) (i : Nat) : Int := pickI (asks.map (· i))
def kindI3 (asks : List (Nat → Int)) (n : Nat) : Int × Int := firstI (errI asks) 0 n
def thenI (a b : Int × Int) : Int × Int := bif a.1 == 0 then b else a
def fitsB (ls : List ByteArray) (rs : List Rt) (cs : List Cl) : Bool := (withinB ls.length 4 && withinB rs.length 8) && withinB cs.length 4
def checkI (ls : List ByteArray) (rs : List Rt) (cs : List Cl) : Int × Int :=
  bif fitsB ls rs cs then thenI (kindI3 (asksL ls) ls.length) (thenI (kindI3 (asksC cs) cs.length) (kindI3 (asksR ls rs cs) rs.length)) else (6, 0)

theorem unlessI_zero {b : Bool} {e : Int} (h : e ≠ 0) : unlessI b e = 0 ↔ b = true := by cases b <;> simp [unlessI, h]

theorem pickI_zero (l : List Int) : pickI l = 0 ↔ ∀ x ∈ l, x = 0 := by
  induction l with
  | nil => simp [pickI]
  | cons e l ih =>
    by_cases h : e = 0
    · subst h; simp [pickI, ih]
    · have : (e == 0) = false := by simpa using h
      simp [pickI, this, h]
theorem pickI_at {l : List Int} {q : Nat} (hq : q < l.length) (h0 : ∀ t (ht : t < l.length), t < q → l[t] = 0) (h : l[q] ≠ 0) : pickI l = l[q] := by
  induction l generalizing q with
  | nil => simp at hq
  | cons e l ih =>
    cases q with
    | zero =>
      have : (e == 0) = false := by simpa using h
      simp [pickI, this]
    | succ q =>
      have e0 : e = 0 := h0 0 (by simp) (by omega)
      subst e0
      simp only [pickI, beq_self_eq_true, cond_true, List.getElem_cons_succ]
      exact ih (by simpa using hq) (fun t ht htq => h0 (t + 1) (by simpa using ht) (by omega)) (by simpa using h)

theorem firstI_none {E : Nat → Int} (i k : Nat) (h : ∀ j, i ≤ j → j < i + k → E j = 0) : firstI E i k = (0, 0) := by
  induction k generalizing i with
  | zero => rfl
  | succ k ih =>
    have := h i (Nat.le_refl _) (by omega)
    simp only [firstI, this, beq_self_eq_true, cond_true]
    exact ih (i + 1) fun j h1 h2 => h j (by omega) (by omega)
theorem firstI_hit {E : Nat → Int} (i k q : Nat) (hq : i ≤ q) (hk : q < i + k) (h : ∀ j, i ≤ j → j < q → E j = 0) (hE : E q ≠ 0) : firstI E i k = (E q, (q : Int)) := by
  induction k generalizing i with
  | zero => omega
  | succ k ih =>
    by_cases e : i = q
    · subst e
      have : (E i == 0) = false := by simpa using hE
      simp [firstI, this]
    · have := h i (Nat.le_refl _) (by omega)
      simp only [firstI, this, beq_self_eq_true, cond_true]
      exact ih (i + 1) (by omega) (by omega) fun j h1 h2 => h j (by omega) h2
theorem firstI_ok {E : Nat → Int} (i k : Nat) : (firstI E i k).1 = 0 ↔ ∀ j, i ≤ j → j < i + k → E j = 0 := by
  induction k generalizing i with
  | zero => exact ⟨fun _ j h1 h2 => by omega, fun _ => rfl⟩
  | succ k ih =>
    by_cases h : E i = 0
    · simp only [firstI, h, beq_self_eq_true, cond_true, ih (i + 1)]
      constructor
      · intro hj j h1 h2
        by_cases e : j = i
        · subst e; exact h
        · exact hj j (by omega) (by omega)
      · exact fun hj j h1 h2 => hj j (by omega) (by omega)
    · have hb : (E i == 0) = false := by simpa using h
      simp only [firstI, hb, cond_false]
      exact ⟨fun h' => absurd h' h, fun h' => h' i (Nat.le_refl _) (by omega)⟩
theorem firstI_zero {E : Nat → Int} (i k : Nat) (h : (firstI E i k).1 = 0) : firstI E i k = (0, 0) := firstI_none i k ((firstI_ok i k).1 h)

theorem kind_none {asks : List (Nat → Int)} {n : Nat} (h : ∀ j, j < n → errI asks j = 0) : kindI3 asks n = (0, 0) := firstI_none 0 n fun j _ hj => h j (by omega)
theorem kind_hit {asks : List (Nat → Int)} {n q : Nat} (hq : q < n) (h : ∀ j, j < q → errI asks j = 0) (hE : errI asks q ≠ 0) : kindI3 asks n = (errI asks q, (q : Int)) :=
  firstI_hit 0 n q (Nat.zero_le _) (by omega) (fun j _ hj => h j hj) hE
theorem kind_ok {asks : List (Nat → Int)} {n : Nat} : (kindI3 asks n).1 = 0 ↔ ∀ j, j < n → errI asks j = 0 :=
  (firstI_ok 0 n).trans ⟨fun h j hj => h j (Nat.zero_le _) (by omega), fun h j _ hj => h j (by omega)⟩
theorem kind_zero {asks : List (Nat → Int)} {n : Nat} (h : (kindI3 asks n).1 = 0) : kindI3 asks n = (0, 0) := firstI_zero 0 n h
theorem errI_zero {asks : List (Nat → Int)} {j : Nat} : errI asks j = 0 ↔ ∀ a ∈ asks, a j = 0 := by
  unfold errI
  rw [pickI_zero]
  simp
theorem thenI_ok {a b : Int × Int} : (thenI a b).1 = 0 ↔ a.1 = 0 ∧ b.1 = 0 := by
  unfold thenI
  by_cases h : a.1 = 0
  · simp [h]
  · have hb : (a.1 == 0) = false := by simpa using h
    rw [hb]
    simp [h]

section
variable {α : Type} {p : α → Bool} {xs : List α} {k : Nat}
theorem any_next (hk : k < xs.length) : (xs.take (k + 1)).any p = ((xs.take k).any p || p xs[k]) := by
  rw [List.take_succ_eq_append_getElem hk, List.any_append]
  simp
theorem any_hit (hk : k < xs.length) (h : p xs[k] = true) : xs.any p = true := List.any_eq_true.2 ⟨_, List.getElem_mem hk, h⟩
theorem any_end (hk : ¬ k < xs.length) (h : (xs.take k).any p = false) : xs.any p = false := by rwa [List.take_of_length_le (by omega)] at h
end
theorem lAt_get {ls : List ByteArray} {i : Nat} (h : i < ls.length) : lAt ls i = ls[i] := by rw [lAt, List.getD, List.getElem?_eq_getElem h]; rfl
theorem cAt_get {ls : List Cl} {i : Nat} (h : i < ls.length) : cAt ls i = ls[i] := by rw [cAt, List.getD, List.getElem?_eq_getElem h]; rfl
theorem rAt_get {ls : List Rt} {i : Nat} (h : i < ls.length) : rAt ls i = ls[i] := by rw [rAt, List.getD, List.getElem?_eq_getElem h]; rfl

/-! Too much to be looked at. -/
def bigC (x : Cl) : Bool := decide (50 < (x.hn : Int)) || decide (100 < (x.name.size : Int))
def bigR (r : Rt) : Bool := decide (100 < (r.host.size : Int)) || decide (100 < (r.path.size : Int))
def big3 (ls : List ByteArray) (rs : List Rt) (cs : List Cl) : Bool := (decide (50 < (ls.length : Int)) || decide (50 < (rs.length : Int))) || decide (50 < (cs.length : Int))
def bigB (ls : List ByteArray) (rs : List Rt) (cs : List Cl) : Bool := (big3 ls rs cs || cs.any bigC) || rs.any bigR
theorem big_host {ls : List ByteArray} {rs : List Rt} {cs : List Cl} (h : bigB ls rs cs = false) {r : Rt} (hr : r ∈ rs) : r.host.size ≤ 100 := by
  unfold bigB at h
  simp only [Bool.or_eq_false_iff] at h
  have := List.any_eq_false.1 h.2 r hr
  simp only [bigR, Bool.or_eq_true, decide_eq_true_eq, not_or] at this
  omega
end Go.Proofs.Ytlaibkinkopkiaa
