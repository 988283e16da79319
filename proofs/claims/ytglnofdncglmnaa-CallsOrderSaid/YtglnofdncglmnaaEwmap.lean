/- The landed calls.go's two maps: which number is told of a key of a thread and an operation, and of a thread. -/
import Derived.Test.YtglnofdncglmnaaEpure
import Derived.Test.YtglnofdncglmnaaEin
import Derived.Test.YtglnofdncglmnaaChecked
import Derived.Maps.OwnSet
import Derived.Maps.Views
import Derived.DeepKeys4
import Derived.WideKeyEntry
namespace Go.Proofs.Ytglnofdncglmnaa
open Go.RowKit
set_option linter.unusedVariables false
set_option linter.unusedSimpArgs false
set_option maxRecDepth 100000

theorem wf64 {t : Int} (h : I64 t) : (Lit.int .i64 t).wf = true := by
  unfold I64 at h
  simp [Lit.wf, IntKind.min, IntKind.max, IntKind.bits, IntKind.signed]
  omega
def klP (t o : Int) : Lit := .string (keyBytes [.int .i64 t, .int .i64 o])
theorem pair_law : Go.Maps.Keyed Try.prog 60 := Go.Maps.Keyed.of_law (Go.deep_law_laid (by kernel_rfl) (m := 2) (by omega) (of_decide_eq_true (by kernel_rfl)) (by kernel_rfl) (by rw [Try.underlying60]))
theorem int_law : Go.Maps.Keyed Try.prog 3 := Go.Maps.int_keyed Try.underlying3
theorem key_pair {t o : Int} (ht : I64 t) (ho : I64 o) : keyOf Try.prog 60 (.agg #[.int .i64 t, .int .i64 o]) = some (klP t o) := by
  have w1 := wf64 ht
  have w2 := wf64 ho
  have hk : Try.prog.keyType 60 = true := by kernel_rfl
  have hc : Try.prog.cellsOf 60 = 2 := by kernel_rfl
  have hc3 : Try.prog.cellsOf 3 = 1 := by kernel_rfl
  obtain ⟨m, hm⟩ : ∃ m, Try.prog.types.size = m + 1 := ⟨Try.prog.types.size - 1, by have : 0 < Try.prog.types.size := of_decide_eq_true (by kernel_rfl); omega⟩
  unfold keyOf
  simp only [Try.underlying60]
  rw [if_pos (by simp [hk, Value.formed, Try.underlying60, hc]), hm]
  unfold Program.keyLits
  simp only [Try.underlying60, Value.cells]
  rw [if_pos (by rw [hc]; exact ⟨rfl, by kernel_rfl⟩)]
  simp [hc3, Program.keyLits, Try.underlying3, w1, w2, klP]
theorem klP_inj {t o t' o' : Int} (ht : I64 t) (ho : I64 o) (ht' : I64 t') (ho' : I64 o') (h : klP t o = klP t' o') : t = t' ∧ o = o' := by
  have h1 := key_pair ht ho
  have h2 := key_pair ht' ho'
  rw [← h] at h2
  have := pair_law.inj h1 h2
  simp at this
  exact this
theorem key_int {t : Int} (ht : I64 t) : keyOf Try.prog 3 (.int .i64 t) = some (.int .i64 t) := by
  have := wf64 ht
  simp [keyOf, mapKey, Try.underlying3, this]

/-- A store into a map by way of an entry: what lies between the two turns other blocks alone. -/
theorem entry_own {P : Program} {t k e : TypeId} {R : Value → Option (DataW Unit × List MemPlace)} {w : World} {b n : Nat} {D : DataW Unit} (h : w.ownsMap P k R b n D) (K : Go.Maps.Keyed P k) (ht : P.underlying t = some (.map k e)) {z : Value} (hz : ∀ u : World, (zeroValue e).run P u = .ok z u) (hn : n < maxLen) {key : Value} {kl : Lit} (hkey : keyOf P k key = some kl) :
    ∃ v0 st w1, (Instr.mapEntry t (.map (some b)) key).run P w = .ok (.tuple #[v0, .int .i64 st]) w1 ∧ w.grownBy w1 (some b) ∧ w1.heap.size = w.heap.size ∧
      ∀ (val : Value) (d : DataW Unit) (ps : List MemPlace), R val = some (d, ps) → ∃ w2, (Instr.entryStore t (.map (some b)) (.int .i64 st) val).run P w1 = .ok () w2 ∧ w2.ownsMap P k R b (n + 1) (D.put kl d) ∧ w.grownBy w2 (some b) ∧ w2.heap.size = w.heap.size := by
  obtain ⟨es, clock, hb, F, hs, rfl⟩ := h
  have bef := fun (val : Value) (d : DataW Unit) (ps : List MemPlace) (hv : R val = some (d, ps)) => World.ownsMap.store (P := P) (k := k) (R := R) (w := w) (b := b) (n := n) (D := .map ((es.toList.map (WideElems.rg P k R)).foldr DataW.insert [])) ⟨es, clock, hb, F, hs, rfl⟩ K ht hn hkey hv
  have grown : ∀ es' clock', w.grownBy (ChangeMaps.setBlock w b (.map es' clock')) (some b) := fun es' clock' => ⟨rfl, rfl, rfl, by simp [ChangeMaps.setBlock], fun i _ hi => ChangeMaps.heap_setBlock_other hb _ (fun e => hi (by rw [e]))⟩
  have sizes : ∀ es' clock', (ChangeMaps.setBlock w b (.map es' clock')).heap.size = w.heap.size := fun es' clock' => by simp [ChangeMaps.setBlock]
  have twice : ∀ es' clock' es'' clock'', ChangeMaps.setBlock (ChangeMaps.setBlock w b (.map es' clock')) b (.map es'' clock'') = ChangeMaps.setBlock w b (.map es'' clock'') := fun _ _ _ _ => by simp [ChangeMaps.setBlock]
  obtain ⟨s1, s2, _⟩ := F.stamped
  rcases K.find w hkey es.toList F.keys with ⟨h1, h2⟩ | ⟨j, e0, h1, h2, h3⟩
  · refine ⟨z, clock, ChangeMaps.setBlock w b (.map (es.push ⟨key, z, clock⟩) (clock + 1)), ?_, grown _ _, sizes _ _, fun val d ps hv => ?_⟩
    · simp [Instr.mapEntry, run_underlying ht, MapKept.run_getObj_map hb, K.check w false hkey, h1, hz, MapKept.run_setObj_map _ hb, Result.andThen, ChangeMaps.setBlock, goInt]
    · obtain ⟨w', hrun, r1, r2⟩ := bef val d ps hv
      have hup : (Instr.mapUpdate t (.map (some b)) key val).run P w = .ok () (ChangeMaps.setBlock w b (.map (es.push ⟨key, val, clock⟩) (clock + 1))) := by
        simp [Instr.mapUpdate, run_underlying ht, MapKept.run_getObj_map hb, K.check w false hkey, h1, MapKept.run_setObj_map _ hb, Result.andThen, ChangeMaps.setBlock]
      rw [hup] at hrun
      injection hrun with _ hw
      subst hw
      refine ⟨_, ?_, r1, grown _ _, sizes _ _⟩
      have hidx : (es.push ⟨key, z, clock⟩).findIdx? (fun e => ((e.born : Nat) : Int) == ((clock : Nat) : Int)) = some es.size := by
        rw [WideElems.findIdx_arr]
        exact WideElems.findIdx_born (l := (es.push ⟨key, z, clock⟩).toList) (j := es.size) (e0 := ⟨key, z, clock⟩) (by
          simp only [Array.toList_push, List.map_append, List.map_cons, List.map_nil]
          refine List.nodup_append.2 ⟨s2, by simp, fun a ha c hc e1 => ?_⟩
          simp only [List.mem_singleton] at hc
          obtain ⟨x, hx, rfl⟩ := List.mem_map.1 ha
          have := s1 x hx
          omega) (by simp)
      have hmod : (es.push ⟨key, z, clock⟩).modify es.size (fun e => { e with val := val }) = es.push ⟨key, val, clock⟩ := by
        apply Array.ext'
        rw [Array.toList_modify, Array.toList_push, Array.toList_push, ← Array.length_toList, WideElems.modify_last]
      have hw2 := ChangeMaps.heap_setBlock_same hb (.map (es.push ⟨key, z, clock⟩) (clock + 1))
      have hset := MapKept.run_setObj_map (P := P) (.map (es.push ⟨key, val, clock⟩) (clock + 1)) hw2
      have key2 : (Instr.entryStore t (.map (some b)) (.int .i64 (clock : Int)) val).run P (ChangeMaps.setBlock w b (.map (es.push ⟨key, z, clock⟩) (clock + 1))) = .ok () (ChangeMaps.setBlock (ChangeMaps.setBlock w b (.map (es.push ⟨key, z, clock⟩) (clock + 1))) b (.map (es.push ⟨key, val, clock⟩) (clock + 1))) := by
        unfold Instr.entryStore
        simp only [Sem.run_bind, Sem.run_pure, Result.andThen_ok, MapKept.run_getObj_map hw2, asInt, asIntOf, hidx, hmod]
        exact hset
      rw [twice] at key2
      exact key2
  · have hj : es[j]? = some e0 := by simpa using h2
    have hsame : es.modify j (fun e => { e with key := key }) = es := by
      apply Array.ext'
      rw [Array.toList_modify, ChangeMaps.modify_eq_set _ _ _ _ h2]
      have : ({ e0 with key := key } : MapEntry) = e0 := by rw [← h3]
      rw [this]
      exact WideElems.set_self _ _ _ h2
    refine ⟨e0.val, e0.born, ChangeMaps.setBlock w b (.map es clock), ?_, grown _ _, sizes _ _, fun val d ps hv => ?_⟩
    · simp [Instr.mapEntry, run_underlying ht, MapKept.run_getObj_map hb, K.check w false hkey, h1, hj, h3, K.stays w hkey, hsame, MapKept.run_setObj_map _ hb, Result.andThen, ChangeMaps.setBlock, goInt]
    · obtain ⟨w', hrun, r1, r2⟩ := bef val d ps hv
      have hup : (Instr.mapUpdate t (.map (some b)) key val).run P w = .ok () (ChangeMaps.setBlock w b (.map (es.modify j (fun e' => { e' with key := key, val := val })) clock)) := by
        simp [Instr.mapUpdate, run_underlying ht, MapKept.run_getObj_map hb, K.check w false hkey, h1, hj, h3, K.stays w hkey, MapKept.run_setObj_map _ hb, Result.andThen, ChangeMaps.setBlock]
      rw [hup] at hrun
      injection hrun with _ hw
      subst hw
      refine ⟨_, ?_, r1, grown _ _, sizes _ _⟩
      have hidx : es.findIdx? (fun e => ((e.born : Nat) : Int) == ((e0.born : Nat) : Int)) = some j := by
        rw [WideElems.findIdx_arr]
        exact WideElems.findIdx_born s2 h2
      have hmod : es.modify j (fun e => { e with val := val }) = es.modify j (fun e' => { e' with key := key, val := val }) := by
        apply Array.ext'
        rw [Array.toList_modify, Array.toList_modify, ChangeMaps.modify_eq_set _ _ _ _ h2, ChangeMaps.modify_eq_set _ _ _ _ h2, ← h3]
      have hw2 := ChangeMaps.heap_setBlock_same hb (.map es clock)
      have hset := MapKept.run_setObj_map (P := P) (.map (es.modify j (fun e' => { e' with key := key, val := val })) clock) hw2
      have key2 : (Instr.entryStore t (.map (some b)) (.int .i64 (e0.born : Int)) val).run P (ChangeMaps.setBlock w b (.map es clock)) = .ok () (ChangeMaps.setBlock (ChangeMaps.setBlock w b (.map es clock)) b (.map (es.modify j (fun e' => { e' with key := key, val := val })) clock)) := by
        unfold Instr.entryStore
        simp only [Sem.run_bind, Sem.run_pure, Result.andThen_ok, MapKept.run_getObj_map hw2, asInt, asIntOf, hidx, hmod]
        exact hset
      rw [twice] at key2
      exact key2

/-! What the two maps tell. -/
def LastP (out : List Cal) (t : Int) : Option Nat → Prop
  | none => ∀ c ∈ out, c.thread ≠ t
  | some n => ∃ c, out[n]? = some c ∧ c.thread = t ∧ ∀ j c', n < j → out[j]? = some c' → c'.thread ≠ t
def KeyIn (w : World) (b : Nat) (out : List Cal) : Prop :=
  ∃ D : DataW Unit, w.ownsMap Try.prog 60 (plainElem Try.prog 3) b out.length D ∧ Go.Maps.IsMap D ∧ ∀ t o, I64 t → I64 o → Go.Maps.has D (klP t o) = (placeO out t o).isSome ∧ D.atKey (klP t o) (.lit (.int .i64 0)) = .lit (.int .i64 ((placeO out t o).getD 0))
def LastIn (w : World) (b : Nat) (out : List Cal) : Prop :=
  ∃ D : DataW Unit, w.ownsMap Try.prog 3 (plainElem Try.prog 3) b out.length D ∧ Go.Maps.IsMap D ∧ ∀ t, I64 t → ∃ r, LastP out t r ∧ Go.Maps.has D (.int .i64 t) = r.isSome ∧ D.atKey (.int .i64 t) (.lit (.int .i64 0)) = .lit (.int .i64 (r.getD 0))
theorem zero_int (w : World) : (zeroValue 3).run Try.prog w = .ok (.int .i64 0) w := by kernel_rfl
section
variable {w w' : World} {b : Nat} {out : List Cal}
theorem KeyIn.lt (h : KeyIn w b out) : b < w.heap.size := by obtain ⟨D, h, _⟩ := h; exact h.lt
theorem LastIn.lt (h : LastIn w b out) : b < w.heap.size := by obtain ⟨D, h, _⟩ := h; exact h.lt
theorem KeyIn.kept {row : Option Nat} (h : KeyIn w b out) (hg : w.grownBy w' row) (hne : some b ≠ row) : KeyIn w' b out := by
  obtain ⟨D, h1, h2⟩ := h
  exact ⟨D, h1.kept hg hne, h2⟩
theorem LastIn.kept {row : Option Nat} (h : LastIn w b out) (hg : w.grownBy w' row) (hne : some b ≠ row) : LastIn w' b out := by
  obtain ⟨D, h1, h2⟩ := h
  exact ⟨D, h1.kept hg hne, h2⟩
theorem KeyIn.look (h : KeyIn w b out) {t o : Int} (ht : I64 t) (ho : I64 o) : (Instr.lookup 44 (.map (some b)) (.agg #[.int .i64 t, .int .i64 o]) true).run Try.prog w = .ok (.tuple #[.int .i64 ((placeO out t o).getD 0), .bool (placeO out t o).isSome]) w := by
  obtain ⟨D, h1, _, h2⟩ := h
  obtain ⟨e1, e2⟩ := h2 t o ht ho
  obtain ⟨v, ps, hrun, hv⟩ := h1.look_ok pair_law Try.underlying44 (zero_int w) (plainElem_int Try.underlying3 (by decide)) (key_pair ht ho)
  obtain ⟨c, rfl, hc, _⟩ := plainElem_int_inv Try.underlying3 hv
  simp only [Prod.mk.injEq] at hc
  rw [e2] at hc
  injection hc.1 with h3
  injection h3 with _ h4
  rw [hrun, e1, ← h4]
theorem LastIn.look (h : LastIn w b out) {t : Int} (ht : I64 t) : ∃ r, LastP out t r ∧ (Instr.lookup 45 (.map (some b)) (.int .i64 t) true).run Try.prog w = .ok (.tuple #[.int .i64 (r.getD 0), .bool r.isSome]) w := by
  obtain ⟨D, h1, _, h2⟩ := h
  obtain ⟨r, hr, e1, e2⟩ := h2 t ht
  obtain ⟨v, ps, hrun, hv⟩ := h1.look_ok int_law Try.underlying45 (zero_int w) (plainElem_int Try.underlying3 (by decide)) (key_int ht)
  obtain ⟨c, rfl, hc, _⟩ := plainElem_int_inv Try.underlying3 hv
  simp only [Prod.mk.injEq] at hc
  rw [e2] at hc
  injection hc.1 with h3
  injection h3 with _ h4
  exact ⟨r, hr, by rw [hrun, e1, ← h4]⟩
theorem KeyIn.made (w : World) : KeyIn (w.alloc (.map #[] 0)) w.heap.size [] := ⟨.map [], World.ownsMap_made _ _ _ _, ⟨_, rfl⟩, fun t o _ _ => ⟨rfl, rfl⟩⟩
theorem LastIn.made (w : World) : LastIn (w.alloc (.map #[] 0)) w.heap.size [] := ⟨.map [], World.ownsMap_made _ _ _ _, ⟨_, rfl⟩, fun t _ => ⟨none, by simp [LastP], rfl, rfl⟩⟩
theorem place_snoc {c : Cal} (hp : placeO out c.thread c.op = none) (t o : Int) : placeO (out ++ [c]) t o = if t = c.thread ∧ o = c.op then some out.length else placeO out t o := by
  unfold placeO at *
  rw [List.findIdx?_append]
  by_cases h : t = c.thread ∧ o = c.op
  · obtain ⟨rfl, rfl⟩ := h
    rw [hp, if_pos ⟨rfl, rfl⟩]
    simp [keyB]
  · rw [if_neg h]
    have : keyB t o c = false := by
      unfold keyB
      rw [Bool.and_eq_false_iff]
      by_cases h1 : t = c.thread
      · right
        rw [beq_eq_false_iff_ne]
        exact fun e => h ⟨h1, e.symm⟩
      · left
        rw [beq_eq_false_iff_ne]
        exact fun e => h1 e.symm
    rw [List.findIdx?_cons, this]
    cases out.findIdx? (keyB t o) <;> simp
theorem place_set {k : Nat} {c d : Cal} (hk : out[k]? = some c) (ht : d.thread = c.thread) (ho : d.op = c.op) (t o : Int) : placeO (out.set k d) t o = placeO out t o := by
  unfold placeO
  have key : ∀ (l : List Cal) (k : Nat), l[k]? = some c → (l.set k d).findIdx? (keyB t o) = l.findIdx? (keyB t o) := by
    intro l
    induction l with
    | nil => intro k hk; simp at hk
    | cons a l ih =>
      intro k hk
      cases k with
      | zero =>
        simp at hk
        subst hk
        rw [List.set_cons_zero, List.findIdx?_cons, List.findIdx?_cons]
        unfold keyB
        rw [ht, ho]
      | succ k =>
        rw [List.set_cons_succ, List.findIdx?_cons, List.findIdx?_cons, ih k (by simpa using hk)]
  exact key out k hk
theorem last_set {k : Nat} {c d : Cal} (hk : out[k]? = some c) (ht : d.thread = c.thread) {t : Int} {r : Option Nat} (h : LastP out t r) : LastP (out.set k d) t r := by
  have hkl := (List.getElem?_eq_some_iff.1 hk).1
  have at_ : ∀ {j : Nat} {x : Cal}, (out.set k d)[j]? = some x → ∃ y, out[j]? = some y ∧ x.thread = y.thread := fun {j x} hx => by
    rw [List.getElem?_set] at hx
    by_cases hj : k = j
    · rw [if_pos hj, if_pos hkl] at hx
      injection hx with hx
      subst hj hx
      exact ⟨c, hk, ht⟩
    · rw [if_neg hj] at hx
      exact ⟨x, hx, rfl⟩
  cases r with
  | none =>
    intro x hx
    obtain ⟨j, hj⟩ := List.mem_iff_getElem?.1 hx
    obtain ⟨y, hy, e⟩ := at_ hj
    rw [e]
    exact h y (List.mem_of_getElem? hy)
  | some n =>
    obtain ⟨x, hx, hxt, hl⟩ := h
    refine (?_ : ∃ c, (out.set k d)[n]? = some c ∧ c.thread = t ∧ ∀ j c', n < j → (out.set k d)[j]? = some c' → c'.thread ≠ t)
    have later : ∀ j c', n < j → (out.set k d)[j]? = some c' → c'.thread ≠ t := fun j c' hj hc' => by
      obtain ⟨y, hy, e⟩ := at_ hc'
      rw [e]
      exact hl j y hj hy
    by_cases hn : k = n
    · subst hn
      rw [hk] at hx
      injection hx with hx
      subst hx
      exact ⟨d, by rw [List.getElem?_set, if_pos rfl, if_pos hkl], ht.trans hxt, later⟩
    · exact ⟨x, by rw [List.getElem?_set, if_neg hn]; exact hx, hxt, later⟩
theorem last_snoc {c : Cal} {t : Int} {r : Option Nat} (h : LastP out t r) : LastP (out ++ [c]) t (if t = c.thread then some out.length else r) := by
  by_cases ht : t = c.thread
  · rw [if_pos ht]
    refine ⟨c, by simp, ht.symm, fun j c' hj hc' => ?_⟩
    have := (List.getElem?_eq_some_iff.1 hc').1
    simp at this
    omega
  · rw [if_neg ht]
    cases r with
    | none =>
      intro x hx
      rcases List.mem_append.1 hx with hx | hx
      · exact h x hx
      · rw [List.mem_singleton] at hx
        subst hx
        exact fun e => ht e.symm
    | some n =>
      obtain ⟨x, hx, hxt, hl⟩ := h
      have hn := (List.getElem?_eq_some_iff.1 hx).1
      refine ⟨x, by rw [List.getElem?_append_left hn]; exact hx, hxt, fun j c' hj hc' => ?_⟩
      rcases Nat.lt_or_ge j out.length with hjl | hjl
      · rw [List.getElem?_append_left hjl] at hc'
        exact hl j c' hj hc'
      · rw [List.getElem?_append_right hjl] at hc'
        have h0 := (List.getElem?_eq_some_iff.1 hc').1
        simp at h0
        rw [h0] at hc'
        simp at hc'
        subst hc'
        exact fun e => ht e.symm
theorem KeyIn.set {k : Nat} {c d : Cal} (h : KeyIn w b out) (hk : out[k]? = some c) (ht : d.thread = c.thread) (ho : d.op = c.op) : KeyIn w b (out.set k d) := by
  obtain ⟨D, h1, h2, h3⟩ := h
  refine ⟨D, by rw [List.length_set]; exact h1, h2, fun t o ht' ho' => ?_⟩
  rw [place_set hk ht ho]
  exact h3 t o ht' ho'
theorem LastIn.set {k : Nat} {c d : Cal} (h : LastIn w b out) (hk : out[k]? = some c) (ht : d.thread = c.thread) : LastIn w b (out.set k d) := by
  obtain ⟨D, h1, h2, h3⟩ := h
  refine ⟨D, by rw [List.length_set]; exact h1, h2, fun t ht' => ?_⟩
  obtain ⟨r, hr, e⟩ := h3 t ht'
  exact ⟨r, last_set hk ht hr, e⟩
/-- A call more, told in the one map. -/
theorem KeyIn.enter (h : KeyIn w b out) {c : Cal} (ht : I64 c.thread) (ho : I64 c.op) (hl : out.length < maxLen) (hp : placeO out c.thread c.op = none) :
    ∃ v0 st w1, (Instr.mapEntry 44 (.map (some b)) (.agg #[.int .i64 c.thread, .int .i64 c.op])).run Try.prog w = .ok (.tuple #[v0, .int .i64 st]) w1 ∧ w.grownBy w1 (some b) ∧ w1.heap.size = w.heap.size ∧
      ∃ w2, (Instr.entryStore 44 (.map (some b)) (.int .i64 st) (.int .i64 (out.length : Int))).run Try.prog w1 = .ok () w2 ∧ w.grownBy w2 (some b) ∧ w2.heap.size = w.heap.size ∧ KeyIn w2 b (out ++ [c]) := by
  obtain ⟨D, h1, h2, h3⟩ := h
  have hl64 : I64 (out.length : Int) := by unfold I64; unfold maxLen at hl; omega
  obtain ⟨v0, st, w1, r1, g1, s1, hst⟩ := entry_own h1 pair_law Try.underlying44 zero_int hl (key_pair ht ho)
  obtain ⟨w2, r2, o2, g2, s2⟩ := hst _ _ _ (plainElem_int Try.underlying3 (wf64 hl64))
  refine ⟨v0, st, w1, r1, g1, s1, w2, r2, g2, s2, _, by rw [List.length_append, List.length_singleton]; exact o2, h2.put _ _, fun t o ht' ho' => ?_⟩
  rw [place_snoc hp]
  by_cases he : t = c.thread ∧ o = c.op
  · rw [if_pos he, he.1, he.2, Go.Maps.has_put_same h2 (pair_law.key (key_pair ht ho)), Go.Maps.atKey_put_same h2 (pair_law.key (key_pair ht ho))]
    exact ⟨rfl, rfl⟩
  · rw [if_neg he]
    have hne : klP t o ≠ klP c.thread c.op := fun e => he (klP_inj ht' ho' ht ho e)
    rw [Go.Maps.has_put_other hne, Go.Maps.atKey_put_other hne]
    exact h3 t o ht' ho'
/-- .. and in the other one. -/
theorem LastIn.enter (h : LastIn w b out) {c : Cal} (ht : I64 c.thread) (hl : out.length < maxLen) :
    ∃ v0 st w1, (Instr.mapEntry 45 (.map (some b)) (.int .i64 c.thread)).run Try.prog w = .ok (.tuple #[v0, .int .i64 st]) w1 ∧ w.grownBy w1 (some b) ∧ w1.heap.size = w.heap.size ∧
      ∃ w2, (Instr.entryStore 45 (.map (some b)) (.int .i64 st) (.int .i64 (out.length : Int))).run Try.prog w1 = .ok () w2 ∧ w.grownBy w2 (some b) ∧ w2.heap.size = w.heap.size ∧ LastIn w2 b (out ++ [c]) := by
  obtain ⟨D, h1, h2, h3⟩ := h
  have hl64 : I64 (out.length : Int) := by unfold I64; unfold maxLen at hl; omega
  obtain ⟨v0, st, w1, r1, g1, s1, hst⟩ := entry_own h1 int_law Try.underlying45 zero_int hl (key_int ht)
  obtain ⟨w2, r2, o2, g2, s2⟩ := hst _ _ _ (plainElem_int Try.underlying3 (wf64 hl64))
  refine ⟨v0, st, w1, r1, g1, s1, w2, r2, g2, s2, _, by rw [List.length_append, List.length_singleton]; exact o2, h2.put _ _, fun t ht' => ?_⟩
  obtain ⟨r, hr, e1, e2⟩ := h3 t ht'
  refine ⟨_, last_snoc hr, ?_⟩
  by_cases he : t = c.thread
  · rw [if_pos he, he, Go.Maps.has_put_same h2 (int_law.key (key_int ht)), Go.Maps.atKey_put_same h2 (int_law.key (key_int ht))]
    exact ⟨rfl, rfl⟩
  · rw [if_neg he]
    have hne : Lit.int .i64 t ≠ Lit.int .i64 c.thread := fun e => by injection e with _ e; exact he e
    rw [Go.Maps.has_put_other hne, Go.Maps.atKey_put_other hne]
    exact ⟨e1, e2⟩
end
end Go.Proofs.Ytglnofdncglmnaa
