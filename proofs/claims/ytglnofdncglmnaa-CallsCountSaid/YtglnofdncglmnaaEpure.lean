/- What a trace tells of its operations, as plain data: calls, their order. No word of the program. -/
import Derived.Test.YtglnofdncglmnaaArgs
namespace Go.Proofs.Ytglnofdncglmnaa
open Go.RowKit
set_option linter.unusedVariables false
set_option linter.unusedSimpArgs false

/-- An answer. -/
structure An where
  kind : Int
  version : Int
  cluster : Int
  fin : Int
  slot : Int
  listen : Int
  n : Int
  q0 : Int
  q1 : Int
  q2 : Int
  q3 : Int
  q4 : Int
  q5 : Int
def An.zero : An := ⟨0, 0, 0, 0, 0, 0, 0, 0, 0, 0, 0, 0, 0⟩
/-- An event. -/
structure Ev where
  thread : Int
  op : Int
  access : Int
  cell : Int
  version : Int
  freed : Bool
  value : Int
  begin : Bool
  point : Bool
  done : Bool
  ans : An
/-- A call. -/
structure Cal where
  thread : Int
  op : Int
  frm : Int
  point : Int
  to : Int
  ans : An
def An.cells (a : An) : List Value := [.int .i64 a.kind, .int .i64 a.version, .int .i64 a.cluster, .int .i64 a.fin, .int .i64 a.slot, .int .i64 a.listen, .int .i64 a.n, .int .u64 a.q0, .int .u64 a.q1, .int .u64 a.q2, .int .u64 a.q3, .int .u64 a.q4, .int .u64 a.q5]
def Ev.cells (e : Ev) : List Value := .int .i64 e.thread :: .int .i64 e.op :: .int .i64 e.access :: .int .i64 e.cell :: .int .i64 e.version :: .bool e.freed :: .int .i64 e.value :: .bool e.begin :: .bool e.point :: .bool e.done :: e.ans.cells
def Cal.cells (c : Cal) : List Value := .int .i64 c.thread :: .int .i64 c.op :: .int .i64 c.frm :: .int .i64 c.point :: .int .i64 c.to :: c.ans.cells

/-- What an event makes of the call that it is of. -/
def Cal.mark (c : Cal) (i : Nat) (e : Ev) : Cal := ⟨c.thread, c.op, c.frm, bif e.point then (i : Int) else c.point, bif e.done then (i : Int) else c.to, bif e.done then e.ans else c.ans⟩
def Cal.new (e : Ev) (i : Nat) : Cal := ⟨e.thread, e.op, i, -1, -1, An.zero⟩
def keyB (t o : Int) (c : Cal) : Bool := (c.thread == t) && (c.op == o)
def openB (t : Int) (c : Cal) : Bool := (c.thread == t) && decide (c.to < 0)
def placeO (out : List Cal) (t o : Int) : Option Nat := out.findIdx? (keyB t o)
def ofStep (out : List Cal) (i : Nat) (e : Ev) : Option (List Cal) :=
  match placeO out e.thread e.op with
  | some k => match out[k]? with
    | none => none
    | some c => if e.begin = true ∨ 0 ≤ c.to then none else some (out.set k (c.mark i e))
  | none => if e.begin = false ∨ out.any (openB e.thread) = true then none else some (out ++ [(Cal.new e i).mark i e])
def ofTo (l : List Ev) : Nat → Option (List Cal)
  | 0 => some []
  | k + 1 => match ofTo l k with
    | none => none
    | some out => match l[k]? with
      | none => some out
      | some e => ofStep out k e
def ofL (l : List Ev) : Option (List Cal) := ofTo l l.length
def aheadB (a b : Cal) : Bool := (a.to != -1) && decide (a.to < b.frm)

theorem place_some {out : List Cal} {t o : Int} {k : Nat} (h : placeO out t o = some k) : ∃ c, out[k]? = some c ∧ c.thread = t ∧ c.op = o := by
  obtain ⟨hk, hp, _⟩ := List.findIdx?_eq_some_iff_getElem.1 h
  refine ⟨out[k], List.getElem?_eq_getElem hk, ?_⟩
  unfold keyB at hp
  simpa using hp
theorem step_cases {out out' : List Cal} {i : Nat} {e : Ev} (h : ofStep out i e = some out') :
    (e.begin = true ∧ placeO out e.thread e.op = none ∧ out.any (openB e.thread) = false ∧ out' = out ++ [(Cal.new e i).mark i e]) ∨
    (e.begin = false ∧ ∃ k c, placeO out e.thread e.op = some k ∧ out[k]? = some c ∧ c.thread = e.thread ∧ c.op = e.op ∧ c.to < 0 ∧ out' = out.set k (c.mark i e)) := by
  unfold ofStep at h
  rcases hp : placeO out e.thread e.op with _ | k
  · rw [hp] at h
    simp only at h
    split at h
    · cases h
    · rename_i hn
      injection h with h
      refine .inl ⟨?_, rfl, ?_, h.symm⟩
      · cases hb : e.begin
        · exact absurd (.inl hb) hn
        · rfl
      · cases hb : out.any (openB e.thread)
        · rfl
        · exact absurd (.inr hb) hn
  · obtain ⟨c, hc, h1, h2⟩ := place_some hp
    rw [hp] at h
    simp only [hc] at h
    split at h
    · cases h
    · rename_i hn
      injection h with h
      refine .inr ⟨?_, k, c, rfl, hc, h1, h2, ?_, h.symm⟩
      · cases hb : e.begin
        · rfl
        · exact absurd (.inl hb) hn
      · exact Int.not_le.1 fun hl => hn (.inr hl)

theorem ofTo_next {l : List Ev} {k : Nat} {out : List Cal} (h : ofTo l k = some out) (hk : k < l.length) : ofTo l (k + 1) = ofStep out k l[k] := by
  rw [ofTo, h, List.getElem?_eq_getElem hk]
theorem ofTo_stop {l : List Ev} {k : Nat} (h : ofTo l k = none) (j : Nat) : ofTo l (k + j) = none := by
  induction j with
  | zero => exact h
  | succ j ih => rw [← Nat.add_assoc, ofTo, ih]
theorem ofTo_some {l : List Ev} {k n : Nat} {c : List Cal} (h : ofTo l n = some c) (hk : k ≤ n) : ∃ d, ofTo l k = some d := by
  rcases hd : ofTo l k with _ | d
  · have := ofTo_stop hd (n - k)
    rw [show k + (n - k) = n by omega, h] at this
    cases this
  · exact ⟨d, rfl⟩
theorem ofTo_take {l : List Ev} {n k : Nat} (hk : k ≤ n) : ofTo (l.take n) k = ofTo l k := by
  induction k with
  | zero => rfl
  | succ k ih => rw [ofTo, ofTo, ih (by omega), List.getElem?_take_of_lt (by omega)]
theorem ofL_take {l : List Ev} {n : Nat} (hn : n ≤ l.length) : ofL (l.take n) = ofTo l n := by
  unfold ofL
  rw [List.length_take, Nat.min_eq_left hn, ofTo_take (Nat.le_refl _)]

/-! What holds of the calls of a trace's first k events. -/
structure Inv (k : Nat) (out : List Cal) : Prop where
  each : ∀ c ∈ out, 0 ≤ c.frm ∧ c.frm < k ∧ (c.point = -1 ∨ (c.frm ≤ c.point ∧ c.point < k)) ∧ (c.to = -1 ∨ (c.frm ≤ c.to ∧ c.to < k ∧ c.point ≤ c.to))
  rise : ∀ (i j : Nat) (a b : Cal), i < j → out[i]? = some a → out[j]? = some b → a.frm < b.frm
  apart : ∀ (i j : Nat) (a b : Cal), i < j → out[i]? = some a → out[j]? = some b → a.thread = b.thread → 0 ≤ a.to ∧ a.to < b.frm
theorem mem_of_get {out : List Cal} {i : Nat} {a : Cal} (h : out[i]? = some a) : a ∈ out := List.mem_of_getElem? h
theorem inv_step {k : Nat} {out out' : List Cal} {e : Ev} (h : Inv k out) (hs : ofStep out k e = some out') : Inv (k + 1) out' := by
  have he : ∀ c ∈ out, 0 ≤ c.frm ∧ c.frm < (k + 1 : Nat) ∧ (c.point = -1 ∨ (c.frm ≤ c.point ∧ c.point < (k + 1 : Nat))) ∧ (c.to = -1 ∨ (c.frm ≤ c.to ∧ c.to < (k + 1 : Nat) ∧ c.point ≤ c.to)) := fun c hc => by
    have := h.each c hc
    omega
  rcases step_cases hs with ⟨hb, _, hop, rfl⟩ | ⟨_, q, c, _, hc, ht, _, hto, rfl⟩
  · have hop : ∀ a ∈ out, a.thread = e.thread → 0 ≤ a.to := fun a ha hth => by
      have := List.any_eq_false.1 hop a ha
      unfold openB at this
      simp only [hth, beq_self_eq_true, Bool.true_and, decide_eq_true_eq] at this
      omega
    have last : ∀ {j : Nat} {b : Cal}, (out ++ [(Cal.new e k).mark k e])[j]? = some b → (j < out.length ∧ out[j]? = some b) ∨ (j = out.length ∧ b = (Cal.new e k).mark k e) := fun {j b} hj => by
      rcases Nat.lt_or_ge j out.length with hl | hl
      · rw [List.getElem?_append_left hl] at hj; exact .inl ⟨hl, hj⟩
      · rw [List.getElem?_append_right hl] at hj
        have h0 : j - out.length = 0 := by
          have := (List.getElem?_eq_some_iff.1 hj).1
          simp at this
          exact this
        rw [h0] at hj
        simp at hj
        exact .inr ⟨by omega, hj.symm⟩
    refine ⟨fun c hc => ?_, fun i j a b hij ha hb' => ?_, fun i j a b hij ha hb' hth => ?_⟩
    · rcases List.mem_append.1 hc with hc | hc
      · exact he c hc
      · rw [List.mem_singleton] at hc
        subst hc
        unfold Cal.mark Cal.new
        cases e.point <;> cases e.done <;> simp <;> omega
    · rcases last hb' with ⟨h1, hb'⟩ | ⟨h1, rfl⟩
      · rcases last ha with ⟨_, ha⟩ | ⟨h2, _⟩
        · exact h.rise i j a b hij ha hb'
        · omega
      · rcases last ha with ⟨_, ha⟩ | ⟨h2, _⟩
        · have := (h.each a (mem_of_get ha)).2.1
          show a.frm < (k : Int)
          exact this
        · omega
    · rcases last hb' with ⟨h1, hb'⟩ | ⟨h1, rfl⟩
      · rcases last ha with ⟨_, ha⟩ | ⟨h2, _⟩
        · exact h.apart i j a b hij ha hb' hth
        · omega
      · rcases last ha with ⟨_, ha⟩ | ⟨h2, _⟩
        · have h1 := hop a (mem_of_get ha) hth
          have h2 := h.each a (mem_of_get ha)
          refine ⟨h1, ?_⟩
          show a.to < (k : Int)
          omega
        · omega
  · have hq := (List.getElem?_eq_some_iff.1 hc).1
    have at_ : ∀ {j : Nat} {b : Cal}, (out.set q (c.mark k e))[j]? = some b → (j ≠ q ∧ out[j]? = some b) ∨ (j = q ∧ b = c.mark k e) := fun {j b} hj => by
      rw [List.getElem?_set] at hj
      by_cases hqj : q = j
      · rw [if_pos hqj, if_pos hq] at hj
        injection hj with hj
        exact .inr ⟨hqj.symm, hj.symm⟩
      · rw [if_neg hqj] at hj
        exact .inl ⟨fun e => hqj e.symm, hj⟩
    have hce := he c (mem_of_get hc)
    refine ⟨fun x hx => ?_, fun i j a b hij ha hb' => ?_, fun i j a b hij ha hb' hth => ?_⟩
    · rcases List.mem_or_eq_of_mem_set hx with hx | rfl
      · exact he x hx
      · have hk := h.each c (mem_of_get hc)
        unfold Cal.mark
        cases e.point <;> cases e.done <;> simp <;> omega
    · rcases at_ ha with ⟨_, ha2⟩ | ⟨rfl, rfl⟩
      · rcases at_ hb' with ⟨_, hb'⟩ | ⟨rfl, rfl⟩
        · exact h.rise i j a b hij ha2 hb'
        · exact h.rise i j a c hij ha2 hc
      · rcases at_ hb' with ⟨_, hb'⟩ | ⟨rfl, rfl⟩
        · exact h.rise i j c b hij hc hb'
        · omega
    · rcases at_ ha with ⟨_, ha2⟩ | ⟨rfl, rfl⟩
      · rcases at_ hb' with ⟨_, hb'⟩ | ⟨rfl, rfl⟩
        · exact h.apart i j a b hij ha2 hb' hth
        · exact h.apart i j a c hij ha2 hc hth
      · rcases at_ hb' with ⟨_, hb'⟩ | ⟨rfl, rfl⟩
        · have := (h.apart i j c b hij hc hb' hth).1
          omega
        · omega
theorem inv_of {l : List Ev} {k : Nat} {out : List Cal} (hk : k ≤ l.length) (h : ofTo l k = some out) : Inv k out := by
  induction k generalizing out with
  | zero =>
    injection h with h
    subst h
    exact ⟨fun c hc => (by cases hc), fun i j a b _ ha => (by simp at ha), fun i j a b _ ha => (by simp at ha)⟩
  | succ k ih =>
    obtain ⟨d, hd⟩ := ofTo_some h (show k ≤ k + 1 by omega)
    rw [ofTo_next hd (by omega)] at h
    exact inv_step (ih (by omega) hd) h

/-! What a trace's beginning has. -/
structure Fore (d c : Cal) : Prop where
  thread : d.thread = c.thread
  op : d.op = c.op
  frm : d.frm = c.frm
  point : d.point ≤ c.point
  same : 0 ≤ d.to → d = c
theorem Fore.refl (d : Cal) : Fore d d := ⟨rfl, rfl, rfl, Int.le_refl _, fun _ => rfl⟩
theorem Fore.trans {a b c : Cal} (h : Fore a b) (k : Fore b c) : Fore a c := ⟨h.thread.trans k.thread, h.op.trans k.op, h.frm.trans k.frm, Int.le_trans h.point k.point, fun ha => by
  have e := h.same ha
  subst e
  exact k.same ha⟩
theorem fore_step {k : Nat} {out out' : List Cal} {e : Ev} (h : Inv k out) (hs : ofStep out k e = some out') : out.length ≤ out'.length ∧ ∀ (i : Nat) (d : Cal), out[i]? = some d → ∃ c, out'[i]? = some c ∧ Fore d c := by
  rcases step_cases hs with ⟨_, _, _, rfl⟩ | ⟨_, q, c, _, hc, ht, hop, hto, rfl⟩
  · refine ⟨by simp, fun i d hd => ⟨d, ?_, Fore.refl d⟩⟩
    rw [List.getElem?_append_left (List.getElem?_eq_some_iff.1 hd).1]
    exact hd
  · refine ⟨by simp, fun i d hd => ?_⟩
    by_cases hq : q = i
    · subst hq
      rw [hc] at hd
      injection hd with hd
      subst hd
      refine ⟨c.mark k e, by rw [List.getElem?_set, if_pos rfl, if_pos (List.getElem?_eq_some_iff.1 hc).1], rfl, rfl, rfl, ?_, fun h0 => by omega⟩
      have := h.each c (mem_of_get hc)
      unfold Cal.mark
      cases e.point <;> simp <;> omega
    · exact ⟨d, by rw [List.getElem?_set, if_neg hq]; exact hd, Fore.refl d⟩
theorem fore_of {l : List Ev} {k n : Nat} {d c : List Cal} (hkn : k ≤ n) (hn : n ≤ l.length) (hd : ofTo l k = some d) (hc : ofTo l n = some c) : d.length ≤ c.length ∧ ∀ (i : Nat) (x : Cal), d[i]? = some x → ∃ y, c[i]? = some y ∧ Fore x y := by
  obtain ⟨j, rfl⟩ : ∃ j, n = k + j := ⟨n - k, by omega⟩
  clear hkn
  induction j generalizing c with
  | zero =>
    rw [Nat.add_zero, hd] at hc
    injection hc with hc
    subst hc
    exact ⟨Nat.le_refl _, fun i x hx => ⟨x, hx, Fore.refl x⟩⟩
  | succ j ih =>
    obtain ⟨b, hb⟩ := ofTo_some hc (show k + j ≤ k + (j + 1) by omega)
    obtain ⟨h1, h2⟩ := ih (by omega) hb
    have hs := hc
    rw [← Nat.add_assoc, ofTo_next hb (by omega)] at hs
    obtain ⟨h3, h4⟩ := fore_step (inv_of (by omega) hb) hs
    refine ⟨Nat.le_trans h1 h3, fun i x hx => ?_⟩
    obtain ⟨y, hy, f1⟩ := h2 i x hx
    obtain ⟨z, hz, f2⟩ := h4 i y hy
    exact ⟨z, hz, f1.trans f2⟩

/-! As many calls as events that begin one, as many that ended as events that are Done. -/
def begun (l : List Ev) : Nat := l.countP Ev.begin
def doneN (l : List Ev) : Nat := l.countP Ev.done
def ended (c : List Cal) : Nat := c.countP fun x => decide (0 ≤ x.to)
theorem count_step {k : Nat} {out out' : List Cal} {e : Ev} (hs : ofStep out k e = some out') : out'.length = out.length + (if e.begin then 1 else 0) ∧ ended out' = ended out + (if e.done then 1 else 0) := by
  rcases step_cases hs with ⟨hb, _, _, rfl⟩ | ⟨hb, q, c, _, hc, _, _, hto, rfl⟩
  · refine ⟨by rw [hb]; simp, ?_⟩
    unfold ended
    rw [List.countP_append, List.countP_singleton]
    congr 1
    unfold Cal.mark Cal.new
    cases e.done <;> simp
  · refine ⟨by rw [hb]; simp, ?_⟩
    obtain ⟨hq, rfl⟩ := List.getElem?_eq_some_iff.1 hc
    unfold ended
    rw [List.countP_set hq, if_neg (by simp; omega), Nat.sub_zero]
    congr 1
    unfold Cal.mark
    cases e.done
    · simp; omega
    · simp
theorem count_of {l : List Ev} {k : Nat} {out : List Cal} (hk : k ≤ l.length) (h : ofTo l k = some out) : out.length = begun (l.take k) ∧ ended out = doneN (l.take k) := by
  induction k generalizing out with
  | zero =>
    injection h with h
    subst h
    exact ⟨rfl, rfl⟩
  | succ k ih =>
    obtain ⟨d, hd⟩ := ofTo_some h (show k ≤ k + 1 by omega)
    rw [ofTo_next hd (by omega)] at h
    obtain ⟨h1, h2⟩ := ih (by omega) hd
    obtain ⟨h3, h4⟩ := count_step h
    unfold begun doneN at *
    rw [List.take_succ_eq_append_getElem (by omega), List.countP_append, List.countP_append, List.countP_singleton, List.countP_singleton, h3, h4, h1, h2]
    exact ⟨rfl, rfl⟩

/-! The order in which calls take effect. -/
def ptAt (l : List Cal) (i : Nat) : Int := ((l[i]?).map Cal.point).getD 0
def insI (l : List Cal) (i : Nat) : List Nat → List Nat
  | [] => [i]
  | k :: r => if ptAt l i < ptAt l k then i :: k :: r else k :: insI l i r
def ordTo (l : List Cal) : Nat → List Nat
  | 0 => []
  | k + 1 => if ptAt l k = -1 then ordTo l k else insI l k (ordTo l k)
def orderI (l : List Cal) : List Nat := ordTo l l.length
theorem ins_mem {l : List Cal} {i x : Nat} {r : List Nat} : x ∈ insI l i r ↔ x = i ∨ x ∈ r := by
  induction r with
  | nil => simp [insI]
  | cons k r ih =>
    rw [insI]
    split
    · simp
    · rw [List.mem_cons, ih, List.mem_cons]
      constructor
      · rintro (h | h | h)
        · exact .inr (.inl h)
        · exact .inl h
        · exact .inr (.inr h)
      · rintro (h | h | h)
        · exact .inr (.inl h)
        · exact .inl h
        · exact .inr (.inr h)
theorem ins_len {l : List Cal} {i : Nat} {r : List Nat} : (insI l i r).length = r.length + 1 := by
  induction r with
  | nil => rfl
  | cons k r ih =>
    rw [insI]
    split
    · rfl
    · rw [List.length_cons, ih, List.length_cons]
theorem ord_mem {l : List Cal} {k x : Nat} : x ∈ ordTo l k ↔ x < k ∧ ptAt l x ≠ -1 := by
  induction k with
  | zero => simp [ordTo]
  | succ k ih =>
    rw [ordTo]
    split
    · rename_i h
      rw [ih]
      refine ⟨fun ⟨a, b⟩ => ⟨by omega, b⟩, fun ⟨a, b⟩ => ⟨?_, b⟩⟩
      rcases Nat.lt_or_ge x k with hx | hx
      · exact hx
      · obtain rfl : x = k := by omega
        exact absurd h b
    · rename_i h
      rw [ins_mem, ih]
      constructor
      · rintro (rfl | ⟨a, b⟩)
        · exact ⟨by omega, h⟩
        · exact ⟨by omega, b⟩
      · rintro ⟨a, b⟩
        rcases Nat.lt_or_ge x k with hx | hx
        · exact .inr ⟨hx, b⟩
        · exact .inl (by omega)
theorem ord_len {l : List Cal} {k : Nat} : (ordTo l k).length ≤ k := by
  induction k with
  | zero => exact Nat.le_refl _
  | succ k ih =>
    rw [ordTo]
    split
    · omega
    · rw [ins_len]; omega
theorem ins_sorted {l : List Cal} {i : Nat} {r : List Nat} (h : r.Pairwise fun a b => ptAt l a ≤ ptAt l b) : (insI l i r).Pairwise fun a b => ptAt l a ≤ ptAt l b := by
  induction r with
  | nil => simp [insI]
  | cons k r ih =>
    rw [List.pairwise_cons] at h
    rw [insI]
    split
    · rename_i hlt
      rw [List.pairwise_cons]
      refine ⟨fun x hx => ?_, List.pairwise_cons.2 h⟩
      rcases List.mem_cons.1 hx with rfl | hx
      · omega
      · have := h.1 x hx; omega
    · rename_i hge
      rw [List.pairwise_cons]
      refine ⟨fun x hx => ?_, ih h.2⟩
      rcases ins_mem.1 hx with rfl | hx
      · omega
      · exact h.1 x hx
theorem ord_sorted {l : List Cal} {k : Nat} : (ordTo l k).Pairwise fun a b => ptAt l a ≤ ptAt l b := by
  induction k with
  | zero => exact List.Pairwise.nil
  | succ k ih =>
    rw [ordTo]
    split
    · exact ih
    · exact ins_sorted ih
theorem pt_get {l : List Cal} {i : Nat} {c : Cal} (h : l[i]? = some c) : ptAt l i = c.point := by unfold ptAt; rw [h]; rfl
/-- In the order of a trace's calls nothing stands behind what it is ahead of. -/
theorem go_order {l : List Ev} {c : List Cal} (h : ofL l = some c) {i k a b : Nat} {x y : Cal} (hki : k < i) (hi : (orderI c)[i]? = some a) (hk : (orderI c)[k]? = some b) (hx : c[a]? = some x) (hy : c[b]? = some y) : aheadB x y = false := by
  have hinv := inv_of (Nat.le_refl _) h
  obtain ⟨hil, hie⟩ := List.getElem?_eq_some_iff.1 hi
  obtain ⟨hkl, hke⟩ := List.getElem?_eq_some_iff.1 hk
  have hs := List.pairwise_iff_getElem.1 (ord_sorted (l := c) (k := c.length)) k i hkl hil hki
  have h1 : (ordTo c c.length)[k] = b := hke
  have h2 : (ordTo c c.length)[i] = a := hie
  rw [h1, h2, pt_get hx, pt_get hy] at hs
  have ma := (ord_mem (l := c) (k := c.length) (x := a)).1 (List.mem_of_getElem? hi)
  have mb := (ord_mem (l := c) (k := c.length) (x := b)).1 (List.mem_of_getElem? hk)
  rw [pt_get hx] at ma
  rw [pt_get hy] at mb
  have ex := hinv.each x (mem_of_get hx)
  have ey := hinv.each y (mem_of_get hy)
  unfold aheadB
  rcases hto : (x.to != -1) with _ | _
  · rfl
  · have : x.to ≠ -1 := by simpa using hto
    rw [Bool.true_and, decide_eq_false_iff_not]
    omega
end Go.Proofs.Ytglnofdncglmnaa
