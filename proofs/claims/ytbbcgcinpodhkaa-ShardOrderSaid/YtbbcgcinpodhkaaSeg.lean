/- A region that draws its order: a stretch of its operations, each of which yields one value in every world of a class, and ahead of all of which nothing behind the stretch may come up: one walk of the text's order serves all orders; what is behind it goes on from there. -/
import Derived.Test.YtbbcgcinpodhkaaStill
import Derived.Deep.RegionHeld
namespace Go.Proofs.Ytbbcgcinpodhkaa
open Go Go.RowKit
set_option linter.unusedVariables false
set_option linter.unusedSimpArgs false

section
variable {P : Program} {ops : Array Oper} {md : Region.Mode} {C : World → Prop}

/-- What may have come up while operation i has not: of the first k. -/
def dn (md : Region.Mode) (ops : Array Oper) (i : Nat) : Nat → List Bool
  | 0 => []
  | k + 1 => dn md ops i k ++ [k != i && (match ops[k]? with
    | none => true
    | some o => o.after.all fun e => !Region.binds md e || (dn md ops i k).getD e.on true)]
theorem dn_len (i k : Nat) : (dn md ops i k).length = k := by
  induction k with
  | zero => rfl
  | succ k ih => rw [dn, List.length_append, ih]; rfl
/-- No operation from n on may come up ahead of one of those from k on that stand ahead of n. -/
def covB (md : Region.Mode) (ops : Array Oper) (k n : Nat) : Bool := (List.range ops.size).all fun s => decide (s < n) || (List.range n).all fun i => decide (i < k) || (match ops[s]? with
  | none => true
  | some o => o.after.any fun e => Region.binds md e && (decide (n ≤ e.on) || !(dn md ops i n).getD e.on true))
/-- Nothing from n on has come up, and whatever has, has come up behind all that it waits for. -/
structure Grew (md : Region.Mode) (ops : Array Oper) (n : Nat) (listed : Array Bool) : Prop where
  un : ∀ s, n ≤ s → listed.getD s false = false
  dc : ∀ k o, ops[k]? = some o → listed.getD k false = true → ∀ e ∈ o.after, Region.binds md e = true → listed.getD e.on false = true
theorem Grew.none (n m : Nat) : Grew md ops n (Array.replicate m false) := by
  have h : ∀ s, (Array.replicate m false).getD s false = false := fun s => by
    rw [Array.getD_eq_getD_getElem?, Array.getElem?_replicate]
    split <;> rfl
  exact ⟨fun s _ => h s, fun k o _ hk => by rw [h k] at hk; cases hk⟩
theorem getD_not {listed : Array Bool} {i : Nat} (h : listed.getD i true = false) : listed.getD i false = false := by
  rw [Array.getD_eq_getD_getElem?] at h ⊢
  rcases hx : listed[i]? with _ | b
  · rw [hx] at h; cases h
  · rw [hx] at h; exact h
theorem getD_set {listed : Array Bool} {i j : Nat} (h : (listed.setIfInBounds i true).getD j false = true) : j = i ∨ listed.getD j false = true := by
  by_cases hij : i = j
  · exact .inl hij.symm
  · rw [getD_set_ne false hij] at h; exact .inr h
theorem Grew.set {n i : Nat} {listed : Array Bool} (h : Grew md ops n listed) (hi : i ∈ Region.ready md ops listed) (hn : i < n) : Grew md ops n (listed.setIfInBounds i true) := by
  refine ⟨fun s hs => by rw [getD_set_ne false (by omega)]; exact h.un s hs, fun k o ho hk e he hb => ?_⟩
  rcases getD_set hk with rfl | hk
  · obtain ⟨_, o', ho', hall⟩ := mem_ready.1 hi
    rw [ho] at ho'
    cases ho'
    exact getD_set_true (hall e he hb)
  · exact getD_set_true (h.dc k o ho hk e he hb)
theorem Grew.dn {n i : Nat} {listed : Array Bool} (h : Grew md ops n listed) (hi : listed.getD i true = false) : ∀ K k, k < K → listed.getD k false = true → (dn md ops i K)[k]? = some true := by
  intro K
  induction K with
  | zero => intro k hk; omega
  | succ K ih =>
    intro k hk hl
    rw [Proofs.Ytbbcgcinpodhkaa.dn]
    by_cases hkK : k < K
    · rw [List.getElem?_append_left (by rw [dn_len]; exact hkK)]
      exact ih k hkK hl
    · obtain rfl : k = K := by omega
      rw [List.getElem?_append_right (by rw [dn_len]; exact Nat.le_refl _), dn_len, Nat.sub_self]
      have hne : (k != i) = true := by
        rw [bne_iff_ne]
        rintro rfl
        rw [getD_not hi] at hl
        cases hl
      rw [hne, Bool.true_and]
      rcases ho : ops[k]? with _ | o
      · rfl
      · simp only [List.getElem?_cons_zero, Option.some.injEq]
        rw [Array.all_eq_true_iff_forall_mem]
        intro e he
        by_cases hb : Region.binds md e = true
        · have h1 := h.dc k o ho hl e he hb
          by_cases hek : e.on < k
          · rw [List.getD_eq_getElem?_getD, ih e.on hek h1, Option.getD_some, Bool.or_true]
          · rw [List.getD_eq_getElem?_getD, List.getElem?_eq_none (by rw [dn_len]; omega), Option.getD_none, Bool.or_true]
        · rw [Bool.not_eq_true] at hb
          rw [hb]; rfl
theorem blocked {k n i : Nat} {listed : Array Bool} (hc : covB md ops k n = true) (h : Grew md ops n listed) (hk : k ≤ i) (hn : i < n) (hi : listed.getD i true = false) : ∀ s ∈ Region.ready md ops listed, s < n := by
  intro s hs
  rcases Nat.lt_or_ge s n with h1 | h1
  · exact h1
  · obtain ⟨_, o, ho, hall⟩ := mem_ready.1 hs
    have hsz : s < ops.size := (Array.getElem?_eq_some_iff.1 ho).1
    have hc1 := List.all_eq_true.1 hc s (List.mem_range.2 hsz)
    rw [decide_eq_false (by omega), Bool.false_or] at hc1
    have hc2 := List.all_eq_true.1 hc1 i (List.mem_range.2 hn)
    rw [decide_eq_false (by omega), Bool.false_or, ho] at hc2
    simp only at hc2
    obtain ⟨e, he, hb⟩ := Array.any_eq_true'.1 hc2
    rw [Bool.and_eq_true, Bool.or_eq_true, decide_eq_true_eq] at hb
    have hl := hall e he hb.1
    rcases hb.2 with h2 | h2
    · rw [h.un _ h2] at hl; cases hl
    · by_cases hen : e.on < n
      · rw [List.getD_eq_getElem?_getD, h.dn hi n e.on hen hl] at h2
        cases h2
      · rw [h.un _ (by omega)] at hl; cases hl

/-- Whatever order the stretch up to n is picked in from here on; then R. -/
def wpAnyT (P : Program) (md : Region.Mode) (ops : Array Oper) (C : World → Prop) (n : Nat) (R : Array Bool → Act → Prop) : Nat → Array Bool → Act → Prop
  | 0, listed, a => (∀ j, j < n → listed.getD j true = true) ∧ R listed a
  | f + 1, listed, a => Region.ready md ops listed ≠ [] ∧ ∀ i ∈ Region.ready md ops listed, qOp P ops C i (wpAnyT P md ops C n R f (listed.setIfInBounds i true)) a

theorem wpAny_of_T {n m : Nat} {R : Array Bool → Act → Prop} {Q' : Exit → Act → World → Prop} (hR : ∀ listed a, R listed a → ∀ w, C w → wpAny P md ops Q' m listed a w) : ∀ (f : Nat) (listed : Array Bool) (a : Act) (w : World), C w →
    wpAnyT P md ops C n R f listed a → wpAny P md ops Q' (f + m) listed a w
  | 0, listed, a, w, hw, h => by rw [Nat.zero_add]; exact hR listed a h.2 w hw
  | f + 1, listed, a, w, hw, h => by
    rw [show f + 1 + m = (f + m) + 1 by omega]
    exact ⟨fun h0 => absurd h0 h.1, fun i hi => wpOp_of_qOp hw (fun a' w' hw' => wpAny_of_T hR f _ a' w' hw') (h.2 i hi)⟩

theorem wpAnyT_first {k n : Nat} {R : Array Bool → Act → Prop} {i : Nat} {oi : Oper} {v : Value} (hi : ops[i]? = some oi) (hk : k ≤ i) (hn : i < n) (hsel : ∀ (j : Nat) (o : Oper) cs b, ops[j]? = some o → o.op ≠ .select cs b) (hc : covB md ops k n = true) :
    ∀ (fuel : Nat) (listed : Array Bool) (a : Act), Grew md ops n listed →
      (∀ j oj, ops[j]? = some oj → j ≠ i → listed.getD j true = false → (∀ e ∈ oj.after, Region.binds md e = true → e.on ≠ i) → oi.apart ops oj = true) →
      i ∈ Region.ready md ops listed → YieldsIn P ops C oi v a →
      wpAnyT P md ops C n R fuel (listed.setIfInBounds i true) (a.put oi.dst v) → wpAnyT P md ops C n R (fuel + 1) listed a := by
  intro fuel
  induction fuel with
  | zero =>
    intro listed a hG _ hr hy H
    refine ⟨fun h => (by rw [h] at hr; cases hr), fun j hj => ?_⟩
    by_cases hji : j = i
    · subst hji; exact hy.qOp hi H
    · have hjn := blocked hc hG hk hn (mem_ready.1 hr).1 j hj
      have h1 := H.1 j hjn
      rw [getD_set_ne true (Ne.symm hji), (mem_ready.1 hj).1] at h1
      cases h1
  | succ fuel ih =>
    intro listed a hG hfree hr hy H
    refine ⟨fun h => (by rw [h] at hr; cases hr), fun j hj => ?_⟩
    by_cases hji : j = i
    · subst hji; exact hy.qOp hi H
    · have hjn := blocked hc hG hk hn (mem_ready.1 hr).1 j hj
      have h1 := H.2 j (ready_mono hj hji)
      obtain ⟨hjun, oj, hoj, hall⟩ := mem_ready.1 hj
      have hnot : ∀ e ∈ oj.after, Region.binds md e = true → e.on ≠ i := fun e he hb heq => by
        have h1 := hall e he hb
        have h0 := (mem_ready.1 hr).1
        rw [heq] at h1
        rcases Nat.lt_or_ge i listed.size with h' | h'
        · simp [h'] at h0 h1; rw [h0] at h1; cases h1
        · simp [Array.getElem?_eq_none h'] at h1
      have h2 := qOp_put hoj (hfree j oj hoj hji hjun hnot) (fun cs b => hsel i oi cs b hi) (fun cs b => hsel j oj cs b hoj) hy h1
      have hfree' : ∀ k ok, ops[k]? = some ok → k ≠ i → (listed.setIfInBounds j true).getD k true = false →
          (∀ e ∈ ok.after, Region.binds md e = true → e.on ≠ i) → oi.apart ops ok = true := fun k ok hk hki hun hno => by
        refine hfree k ok hk hki ?_ hno
        by_cases hjk : j = k
        · subst hjk; exact hjun
        · rw [getD_set_ne true hjk] at hun; exact hun
      refine qOp_mono (fun a' h3 => ih (listed.setIfInBounds j true) a' (hG.set hj hjn) hfree' (ready_mono hr (Ne.symm hji)) h3.1 ?_) h2
      rw [Array.setIfInBounds_comm _ _ hji]
      exact h3.2

def segB (md : Region.Mode) (ops : Array Oper) : Nat → Nat → Array Bool → Bool
  | 0, _, _ => true
  | f + 1, k, listed => (Region.ready md ops listed).contains k && Region.free md ops listed k && segB md ops f (k + 1) (listed.setIfInBounds k true)
def setAll (listed : Array Bool) (k : Nat) : Nat → Array Bool
  | 0 => listed
  | f + 1 => setAll (listed.setIfInBounds k true) (k + 1) f

theorem wpAnyT_lex {k0 n : Nat} {R : Array Bool → Act → Prop} (hs : Region.noSelect ops = true) (hc : covB md ops k0 n = true) : ∀ (l : List Oper) (k : Nat) (listed : Array Bool) (a : Act), (∀ j, j < l.length → l[j]? = ops[k + j]?) → k + l.length = n → k0 ≤ k →
    Grew md ops n listed → (∀ j, j < k → listed.getD j true = true) → segB md ops l.length k listed = true → wpQuiet P ops C (R (setAll listed k l.length)) l a → wpAnyT P md ops C n R l.length listed a
  | [], k, listed, a, _, hn, _, _, hl, _, h => ⟨fun j hj => hl j (by rw [← hn] at hj; simpa using hj), h⟩
  | o :: l, k, listed, a, hl, hn, hk, hG, hd, hB, h => by
    have h0 : ops[k]? = some o := by simpa using (hl 0 (by simp)).symm
    simp only [List.length_cons, segB, Bool.and_eq_true] at hB
    obtain ⟨⟨hr, hf⟩, hB'⟩ := hB
    have hr' : k ∈ Region.ready md ops listed := by simpa using hr
    have hkn : k < n := by rw [← hn, List.length_cons]; omega
    have hst : qOp P ops C k (wpQuiet P ops C (R (setAll listed k (o :: l).length)) l) a := by unfold qOp; simp only [h0]; exact h
    obtain ⟨v, hy, hK⟩ := yieldsIn_of_qOp h0 hst
    exact wpAnyT_first h0 hk hkn (Region.noSelect_spec hs) hc l.length listed a hG (Region.free_spec h0 hf) hr' hy
      (wpAnyT_lex hs hc l (k + 1) _ _ (fun j hj => by have := hl (j + 1) (by simpa using hj); simpa [Nat.add_assoc, Nat.add_comm 1 j] using this) (by rw [← hn, List.length_cons]; omega) (by omega) (hG.set hr' hkn)
        (fun j hj => by
          by_cases hjk : j = k
          · subst hjk
            have hu := (mem_ready.1 hr').1
            rcases Nat.lt_or_ge j listed.size with h' | h'
            · simp [h']
            · rw [Array.getD_eq_getD_getElem?, Array.getElem?_eq_none h'] at hu; cases hu
          · rw [getD_set_ne true (Ne.symm hjk)]; exact hd j (by omega)) hB' hK)

/-- **The region's first n operations, in the text's order; then whatever goes on from there.** -/
theorem wp_region_seg {id : Nat} {Q : Exit → Act → World → Prop} {a : Act} {w : World} {l : List Oper} (n : Nat) (hm : P.follows .mixedOrders = true) (hs : Region.noSelect l.toArray = true) (hn : (l.take n).length = n) (hc : covB .any l.toArray 0 n = true)
    (hB : segB .any l.toArray n 0 (Array.replicate l.length false) = true) (hC : C { w with drawn := w.drawn + 1 })
    (h : wpQuiet P l.toArray C (fun a' => ∀ w', C w' → wpAny P .any l.toArray Q (l.length - n) (setAll (Array.replicate l.length false) 0 n) a' w') (l.take n) a) : (Code.region id l.toArray true).wp P Q a w := by
  refine wp_region_any hm ?_
  have hnl : n ≤ l.length := by rw [List.length_take] at hn; omega
  have h1 := wpAnyT_lex (P := P) (C := C) (R := fun listed a' => ∀ w', C w' → wpAny P .any l.toArray Q (l.length - n) listed a' w') hs hc (l.take n) 0 (Array.replicate l.length false) a (fun j hj => by rw [hn] at hj; rw [List.getElem?_take_of_lt hj, Nat.zero_add, List.getElem?_toArray]) (by rw [hn]; omega) (Nat.le_refl _) (Grew.none _ _) (fun j hj => by omega) (by rw [hn]; exact hB) (by rw [hn]; exact h)
  have h2 := wpAny_of_T (Q' := Q) (m := l.length - n) (fun listed a' h w' hw' => h w' hw') _ _ _ _ hC h1
  rw [hn, show n + (l.length - n) = l.length by omega] at h2
  simpa using h2

def grewB (md : Region.Mode) (ops : Array Oper) (n : Nat) (listed : Array Bool) : Bool := (List.range listed.size).all (fun s => decide (s < n) || !listed.getD s false) &&
  (List.range ops.size).all fun k => !listed.getD k false || (match ops[k]? with
    | none => true
    | some o => o.after.all fun e => !Region.binds md e || listed.getD e.on false)
theorem grew_of {n : Nat} {listed : Array Bool} (h : grewB md ops n listed = true) : Grew md ops n listed := by
  unfold grewB at h
  rw [Bool.and_eq_true] at h
  refine ⟨fun s hs => ?_, fun k o ho hk e he hb => ?_⟩
  · rcases Nat.lt_or_ge s listed.size with h' | h'
    · have h1 := List.all_eq_true.1 h.1 s (List.mem_range.2 h')
      rw [decide_eq_false (by omega), Bool.false_or] at h1
      simpa using h1
    · rw [Array.getD_eq_getD_getElem?, Array.getElem?_eq_none h']; rfl
  · have h1 := List.all_eq_true.1 h.2 k (List.mem_range.2 (Array.getElem?_eq_some_iff.1 ho).1)
    rw [hk, ho] at h1
    simp only [Bool.not_true, Bool.false_or] at h1
    have h2 := (Array.all_eq_true_iff_forall_mem.1 h1) e he
    rw [hb] at h2
    simpa using h2
/-- **A stretch that begins at k, behind what has come up; then whatever goes on from there.** -/
theorem wpAny_seg {Q : Exit → Act → World → Prop} {a : Act} {w : World} {l : List Oper} {listed : Array Bool} (k f m : Nat) (hs : Region.noSelect l.toArray = true) (hn : ((l.drop k).take f).length = f) (hc : covB .any l.toArray k (k + f) = true) (hg : grewB .any l.toArray (k + f) listed = true)
    (hd : (List.range k).all (fun j => listed.getD j true) = true) (hB : segB .any l.toArray f k listed = true) (hC : C w)
    (h : wpQuiet P l.toArray C (fun a' => ∀ w', C w' → wpAny P .any l.toArray Q m (setAll listed k f) a' w') ((l.drop k).take f) a) : wpAny P .any l.toArray Q (f + m) listed a w := by
  have h1 := wpAnyT_lex (P := P) (C := C) (R := fun listed a' => ∀ w', C w' → wpAny P .any l.toArray Q m listed a' w') hs hc ((l.drop k).take f) k listed a (fun j hj => by
    rw [hn] at hj
    rw [List.getElem?_take_of_lt hj, List.getElem?_drop, List.getElem?_toArray]) (by rw [hn]) (Nat.le_refl _) (grew_of hg) (fun j hj => List.all_eq_true.1 hd j (List.mem_range.2 hj)) (by rw [hn]; exact hB) (by rw [hn]; exact h)
  have h2 := wpAny_of_T (Q' := Q) (m := m) (fun listed a' h w' hw' => h w' hw') _ _ _ _ hC h1
  rw [hn] at h2
  exact h2

/-- The one operation that may come up comes up. -/
theorem wpAny_next {Q : Exit → Act → World → Prop} {f k : Nat} {listed : Array Bool} {a : Act} {w : World} {o : Oper} (hr : Region.ready md ops listed = [k]) (ho : ops[k]? = some o)
    (h : ∀ K : Act → World → Prop, Shut (∀ a w, wpAny P md ops Q f (listed.setIfInBounds k true) a w → K a w) → if Region.wanted o (yielded ops a.tmps) = true then Oper.wp P o a w K Q else K (a.put o.dst undef) w) : wpAny P md ops Q (f + 1) listed a w := by
  refine ⟨fun h0 => (by rw [h0] at hr; cases hr), fun i hi => ?_⟩
  rw [hr, List.mem_singleton] at hi
  subst hi
  unfold wpOp
  have h1 := h (wpAny P md ops Q f (listed.setIfInBounds i true)) (fun a w h => h)
  simp only [ho]
  split
  · rename_i hw
    rw [if_pos hw] at h1
    exact .inl h1
  · rename_i hw
    rw [if_neg hw] at h1
    exact h1
/-- All have come up. -/
theorem wpAny_end {Q : Exit → Act → World → Prop} {listed : Array Bool} {a : Act} {w : World} (hr : Region.ready md ops listed = []) (h : Q .normal a w) : ∀ f, wpAny P md ops Q f listed a w
  | 0 => ⟨hr, h⟩
  | _ + 1 => ⟨fun _ => h, fun i hi => by rw [hr] at hi; cases hi⟩
end
end Go.Proofs.Ytbbcgcinpodhkaa
