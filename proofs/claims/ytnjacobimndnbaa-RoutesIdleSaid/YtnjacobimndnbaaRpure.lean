/- Rules, as plain data: which fit, and which is the best one. No word of the program. -/
import Derived.Test.YtnjacobimndnbaaFlat
import Derived.Test.YtnjacobimndnbaaHsay
namespace Go.Proofs.Ytnjacobimndnbaa
open Go.RowKit
set_option linter.unusedVariables false
set_option linter.unusedSimpArgs false

structure Rl where
  listen : Int
  host : ByteArray
  path : ByteArray
  cluster : Int
def Rl.none : Rl := ⟨0, ⟨#[]⟩, ⟨#[]⟩, 0⟩
def Rl.cells (r : Rl) : List Value := [.int .i64 r.listen, .string r.host, .string r.path, .int .i64 r.cluster]
def Rl.val (r : Rl) : Value := .agg #[.int .i64 r.listen, .string r.host, .string r.path, .int .i64 r.cluster]

def fitsB (n : Int) (h p : ByteArray) (r : Rl) : Bool := (r.listen == n) && matchB r.host h && underB p r.path
def btB (a b : Rl) : Bool := betterB a.host a.path b.host b.path
def rlAt (l : List Rl) (i : Nat) : Rl := l.getD i Rl.none
theorem rlAt_get {l : List Rl} {i : Nat} (h : i < l.length) : rlAt l i = l[i] := by simp [rlAt, h]
theorem rlAt_mem {l : List Rl} {k : Nat} (h : k < l.length) : rlAt l k ∈ l := by rw [rlAt_get h]; exact List.getElem_mem h

/-! Better is by two numbers. -/
theorem bt_iff (a b : Rl) : btB a b = true ↔ weightI b.host < weightI a.host ∨ weightI a.host = weightI b.host ∧ b.path.size < a.path.size := by
  unfold btB betterB
  simp [Bool.or_eq_true, Bool.and_eq_true]
theorem bt_no {a b : Rl} (h : btB a b = false) : ¬ (weightI b.host < weightI a.host ∨ weightI a.host = weightI b.host ∧ b.path.size < a.path.size) := fun e => by
  rw [(bt_iff a b).2 e] at h
  cases h
theorem bt_irrefl (a : Rl) : btB a a = false := by
  rw [Bool.eq_false_iff]
  intro h
  have := (bt_iff a a).1 h
  omega
theorem bt_trans {a b c : Rl} (h : btB a b = true) (k : btB b c = true) : btB a c = true := by
  have h := (bt_iff _ _).1 h
  have k := (bt_iff _ _).1 k
  exact (bt_iff _ _).2 (by omega)
/-- What is better than another one is better than all that are no better than that one. -/
theorem bt_over {a b c : Rl} (h : btB a b = true) (k : btB c b = false) : btB a c = true := by
  have h := (bt_iff _ _).1 h
  have k := bt_no k
  exact (bt_iff _ _).2 (by omega)
theorem bt_asym {a b : Rl} (h : btB a b = true) : btB b a = false := by
  rw [Bool.eq_false_iff]
  intro k
  have := bt_trans h k
  rw [bt_irrefl] at this
  cases this

/-! The best one, as it is looked for. -/
section
variable (l : List Rl) (f : Rl → Bool)
def fitF (k : Nat) : List (Fin l.length) := ((List.finRange l.length).take k).filter fun i => f l[i]
def stepF (b : Option (Fin l.length)) (x : Fin l.length) : Option (Fin l.length) :=
  match b with
  | none => some x
  | some y => bif btB l[x] l[y] then some x else some y
def bestF (ys : List (Fin l.length)) : Option (Fin l.length) := ys.foldl (stepF l) none
def bestO : Option (Fin l.length) := bestF l (fitF l f l.length)
end
def numO {n : Nat} : Option (Fin n) → Int
  | none => 0
  | some x => (x.1 : Int)
def errO {n : Nat} : Option (Fin n) → Int
  | none => 5
  | some _ => 0

section
variable {l : List Rl} {f : Rl → Bool}
theorem fitF_zero : fitF l f 0 = [] := by simp [fitF]
theorem fitF_succ {k : Nat} (h : k < l.length) : fitF l f (k + 1) = fitF l f k ++ (bif f l[k] then [⟨k, h⟩] else []) := by
  have e : (List.finRange l.length).take (k + 1) = (List.finRange l.length).take k ++ [⟨k, h⟩] := by
    rw [List.take_succ_eq_append_getElem (by simpa using h)]
    simp
  unfold fitF
  rw [e, List.filter_append]
  congr 1
theorem fitF_len (k : Nat) : (fitF l f k).length ≤ k := by
  unfold fitF
  refine Nat.le_trans (List.length_filter_le _ _) ?_
  rw [List.length_take]
  exact Nat.min_le_left _ _
theorem fitF_pre {k : Nat} (h : k ≤ l.length) : fitF l f k <+: fitF l f l.length := by
  unfold fitF
  refine List.IsPrefix.filter _ ?_
  rw [List.prefix_take_iff]
  exact ⟨List.take_prefix _ _, by rw [List.length_take]; simp; omega⟩
theorem bestF_snoc (ys : List (Fin l.length)) (x : Fin l.length) : bestF l (ys ++ [x]) = stepF l (bestF l ys) x := by simp [bestF]

/-- What is said of the best one of the first k. -/
def IsBest (l : List Rl) (f : Rl → Bool) (k : Nat) : Option (Fin l.length) → Prop
  | none => ∀ i : Fin l.length, i.1 < k → f l[i] = false
  | some x => x.1 < k ∧ f l[x] = true ∧ (∀ i : Fin l.length, i.1 < k → f l[i] = true → btB l[i] l[x] = false) ∧ ∀ i : Fin l.length, i.1 < x.1 → f l[i] = true → btB l[x] l[i] = true

theorem best_first (k : Nat) (h : k ≤ l.length) : IsBest l f k (bestF l (fitF l f k)) := by
  induction k with
  | zero =>
    rw [fitF_zero]
    exact fun i hi => by omega
  | succ k ih =>
    have ih := ih (by omega)
    have hk : k < l.length := by omega
    rw [fitF_succ hk]
    have lt : ∀ i : Fin l.length, i.1 < k + 1 → i.1 < k ∨ i = ⟨k, hk⟩ := fun i hi => by
      rcases Nat.lt_or_ge i.1 k with h | h
      · exact .inl h
      · exact .inr (Fin.ext (by show i.1 = k; omega))
    rcases hf : f l[k] with _ | _
    · rw [cond_false, List.append_nil]
      generalize bestF l (fitF l f k) = o at ih ⊢
      cases o with
      | none =>
        intro i hi
        rcases lt i hi with h | rfl
        · exact ih i h
        · exact hf
      | some x =>
        refine ⟨by have := ih.1; omega, ih.2.1, fun i hi hfi => ?_, ih.2.2.2⟩
        rcases lt i hi with h | rfl
        · exact ih.2.2.1 i h hfi
        · have hfi' : f l[k] = true := hfi
          rw [hf] at hfi'; cases hfi'
    · rw [cond_true, bestF_snoc]
      generalize bestF l (fitF l f k) = o at ih ⊢
      cases o with
      | none =>
        refine ⟨Nat.lt_succ_self k, hf, fun i hi hfi => ?_, fun i hi hfi => ?_⟩
        · rcases lt i hi with h | rfl
          · rw [ih i h] at hfi; cases hfi
          · exact bt_irrefl _
        · rw [ih i hi] at hfi; cases hfi
      | some x =>
        obtain ⟨h1, h2, h3, h4⟩ := ih
        rcases hb : btB l[(⟨k, hk⟩ : Fin l.length)] l[x] with _ | _
        · have e : stepF l (some x) ⟨k, hk⟩ = some x := by simp only [stepF, hb, cond_false]
          rw [e]
          refine ⟨by omega, h2, fun i hi hfi => ?_, h4⟩
          rcases lt i hi with h | rfl
          · exact h3 i h hfi
          · exact hb
        · have e : stepF l (some x) ⟨k, hk⟩ = some ⟨k, hk⟩ := by simp only [stepF, hb, cond_true]
          rw [e]
          refine ⟨Nat.lt_succ_self k, hf, fun i hi hfi => ?_, fun i hi hfi => ?_⟩
          · rcases lt i hi with h | rfl
            · exact bt_asym (bt_over hb (h3 i h hfi))
            · exact bt_irrefl _
          · exact bt_over hb (h3 i hi hfi)
theorem best_is : IsBest l f l.length (bestO l f) := best_first l.length (Nat.le_refl _)
theorem best_one {a b : Option (Fin l.length)} (ha : IsBest l f l.length a) (hb : IsBest l f l.length b) : a = b := by
  cases a with
  | none =>
    cases b with
    | none => rfl
    | some y =>
      have := ha y y.2
      rw [hb.2.1] at this
      cases this
  | some x =>
    cases b with
    | none =>
      have := hb x x.2
      rw [ha.2.1] at this
      cases this
    | some y =>
      obtain ⟨_, a2, a3, a4⟩ := ha
      obtain ⟨_, b2, b3, b4⟩ := hb
      have h1 : ¬ x.1 < y.1 := fun h => by
        have := b4 x h a2
        rw [a3 y y.2 b2] at this
        cases this
      have h2 : ¬ y.1 < x.1 := fun h => by
        have := a4 y h b2
        rw [b3 x x.2 a2] at this
        cases this
      rw [show x = y from Fin.ext (by omega)]
theorem best_eq {a : Option (Fin l.length)} (ha : IsBest l f l.length a) : bestO l f = a := best_one best_is ha

/-! As the document has it: the first one that fits and is not beaten. -/
def beatB (l : List Rl) (f : Rl → Bool) (r : Rl) : Bool := l.any fun x => f x && btB x r
theorem beat_none {i : Nat} (hi : i < l.length) (h : ∀ j (hj : j < l.length), f l[j] = true → beatB l f l[j] = true) : bestO l f = none := by
  have hb := best_is (l := l) (f := f)
  generalize bestO l f = o at hb ⊢
  cases o with
  | none => rfl
  | some x =>
    obtain ⟨_, h2, h3, _⟩ := hb
    have := h x.1 x.2 h2
    unfold beatB at this
    rw [List.any_eq_true] at this
    obtain ⟨y, hy, hf⟩ := this
    obtain ⟨j, hj, rfl⟩ := List.getElem_of_mem hy
    rw [Bool.and_eq_true] at hf
    have h4 : btB l[j] l[x] = false := h3 ⟨j, hj⟩ hj hf.1
    have h5 : btB l[j] l[x] = true := hf.2
    rw [h4] at h5
    cases h5
theorem beat_none' (h : ∀ j (hj : j < l.length), f l[j] = true → beatB l f l[j] = true) : bestO l f = none := by
  rcases Nat.eq_zero_or_pos l.length with h0 | h0
  · exact best_eq fun i hi => by omega
  · exact beat_none h0 h
theorem beat_some {i : Nat} (hi : i < l.length) (h1 : f l[i] = true) (h2 : beatB l f l[i] = false) (h : ∀ j (hj : j < i), f l[j] = true → beatB l f l[j] = true) : bestO l f = some ⟨i, hi⟩ := by
  refine best_eq ⟨hi, h1, fun j hj hfj => ?_, fun j hj hfj => ?_⟩
  · rw [Bool.eq_false_iff]
    intro hb
    have : beatB l f l[i] = true := List.any_eq_true.2 ⟨_, List.getElem_mem j.2, by rw [Bool.and_eq_true]; exact ⟨hfj, hb⟩⟩
    rw [h2] at this
    cases this
  · -- the best one of all is not beaten, so it is not ahead of i; it is no better than i
    have hB := best_is (l := l) (f := f)
    have no : ∀ x : Fin l.length, f l[x] = true → btB l[x] l[i] = false := fun x hx => by
      rw [Bool.eq_false_iff]
      intro hb
      have : beatB l f l[i] = true := List.any_eq_true.2 ⟨_, List.getElem_mem x.2, by rw [Bool.and_eq_true]; exact ⟨hx, hb⟩⟩
      rw [h2] at this
      cases this
    have hjb := h j.1 hj hfj
    unfold beatB at hjb
    rw [List.any_eq_true] at hjb
    obtain ⟨y, hy, hfy⟩ := hjb
    obtain ⟨k, hk, rfl⟩ := List.getElem_of_mem hy
    rw [Bool.and_eq_true] at hfy
    obtain ⟨h7, h8⟩ := hfy
    have h9 : btB l[k] l[j] = true := h8
    have h10 : btB l[k] l[i] = false := no ⟨k, hk⟩ h7
    have g1 := (bt_iff l[k] l[j]).1 h9
    have g2 := bt_no h10
    exact (bt_iff l[i] l[j]).2 (by omega)
end

/-! Numbers and errors. -/
theorem numO_bd {n : Nat} (o : Option (Fin n)) : 0 ≤ numO o ∧ (numO o < n ∨ n = 0 ∧ numO o = 0) := by
  cases o with
  | none => simp [numO]; omega
  | some x => have := x.2; simp [numO]
end Go.Proofs.Ytnjacobimndnbaa
