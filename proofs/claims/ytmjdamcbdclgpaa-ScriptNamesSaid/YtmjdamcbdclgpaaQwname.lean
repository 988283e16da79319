/- script.Names: the listeners' names, each once, by the program. -/
import Derived.Test.YtmjdamcbdclgpaaQwpub
import Derived.Test.YtmjdamcbdclgpaaQwpick
import Derived.Maps.OwnIn
import Derived.Maps.Views
namespace Go.Proofs.Ytmjdamcbdclgpaa
open Go.RowKit Go.Shelf
attribute [local go_sem] Oper.semAt_some
set_option linter.unusedVariables false
set_option linter.unusedSimpArgs false
set_option maxRecDepth 100000

/-! A map from texts to bools that the call has made, as the set of the texts that were put in. -/
def SetIn (w : World) (g : Nat) (xs : List ByteArray) : Prop :=
  ∃ D : DataW Unit, w.ownsMap Try.prog 9 (plainElem Try.prog 4) g xs.length D ∧ ∀ s : ByteArray, D.atKey (.string s.data.toList) (.lit (.bool false)) = .lit (.bool (hasL xs s))
theorem key_law : Go.Maps.Keyed Try.prog 9 := Go.Maps.string_keyed Try.underlying9
theorem zero_bool (w : World) : (zeroValue 4).run Try.prog w = .ok (.bool false) w := by kernel_rfl
theorem key_of {s : ByteArray} (hs : s.size ≤ maxLen) : keyOf Try.prog 9 (.string s) = some (.string s.data.toList) := Go.WideMaps.keyOf_string_mk Try.underlying9 hs
theorem plainElem_bool_inv {P : Program} {e : TypeId} (he : P.underlying e = some .bool) {v : Value} {z : DataW Unit × List MemPlace} (h : plainElem P e v = some z) : ∃ x, v = .bool x ∧ z = (.lit (.bool x), []) := by
  unfold plainElem at h
  rw [he] at h
  cases v <;> simp at h
  exact ⟨_, rfl, h.symm⟩
section
variable {w w' : World} {g : Nat} {xs : List ByteArray} {s : ByteArray}
theorem SetIn.lt (h : SetIn w g xs) : g < w.heap.size := by
  obtain ⟨D, h, _⟩ := h
  exact h.lt
theorem SetIn.kept {row : Option Nat} (h : SetIn w g xs) (hg : w.grownBy w' row) (hne : some g ≠ row) : SetIn w' g xs := by
  obtain ⟨D, h1, h2⟩ := h
  exact ⟨D, h1.kept hg hne, h2⟩
theorem SetIn.made (w : World) : SetIn (w.alloc (.map #[] 0)) w.heap.size [] := ⟨.map [], World.ownsMap_made _ _ _ _, fun s => rfl⟩
theorem SetIn.look (h : SetIn w g xs) (hs : s.size ≤ maxLen) : (Instr.lookup 53 (.map (some g)) (.string s) false).run Try.prog w = .ok (.bool (hasL xs s)) w := by
  obtain ⟨D, h1, h2⟩ := h
  obtain ⟨v, ps, hrun, hv⟩ := h1.lookup key_law Try.underlying53 (zero_bool w) (plainElem_bool Try.underlying4 false) (key_of hs)
  obtain ⟨x, rfl, hx⟩ := plainElem_bool_inv Try.underlying4 hv
  rw [h2 s] at hx
  simp only [Prod.mk.injEq] at hx
  injection hx.1 with h3
  injection h3 with h4
  rw [hrun, h4]
theorem SetIn.put {D : DataW Unit} (hD : Go.Maps.IsMap D) (h : w'.ownsMap Try.prog 9 (plainElem Try.prog 4) g (xs.length + 1) (D.put (.string s.data.toList) (.lit (.bool true)))) (h2 : ∀ s : ByteArray, D.atKey (.string s.data.toList) (.lit (.bool false)) = .lit (.bool (hasL xs s))) : SetIn w' g (xs ++ [s]) := by
  refine ⟨_, by rw [List.length_append, List.length_singleton]; exact h, fun s' => ?_⟩
  have e1 : hasL (xs ++ [s]) s' = (hasL xs s' || eqB s' s) := by
    unfold hasL
    rw [List.any_append]
    simp
  rw [e1]
  by_cases he : s'.data.toList = s.data.toList
  · rw [he, Go.Maps.atKey_put_same hD (show WideAt.IsKeyLit (.string s.data.toList) from trivial), show eqB s' s = true by unfold eqB; rw [ByteArray.toList_eq, ByteArray.toList_eq, he, beq_self_eq_true], Bool.or_true]
  · rw [Go.Maps.atKey_put_other (by intro e; injection e with e; exact he e), h2 s', show eqB s' s = false by unfold eqB; rw [ByteArray.toList_eq, ByteArray.toList_eq, beq_eq_false_iff_ne]; exact he, Bool.or_false]
theorem SetIn.open (h : SetIn w g xs) : ∃ D : DataW Unit, Go.Maps.IsMap D ∧ w.ownsMap Try.prog 9 (plainElem Try.prog 4) g xs.length D ∧ ∀ s : ByteArray, D.atKey (.string s.data.toList) (.lit (.bool false)) = .lit (.bool (hasL xs s)) := by
  obtain ⟨D, h1, h2⟩ := h
  obtain ⟨es, clock, _, _, _, hD⟩ := id h1
  exact ⟨D, ⟨_, hD⟩, h1, h2⟩
end

/-! The configurations that are told: where they lie, how long all is. -/
theorem pubs_all {s : Scr} {p : Cfg → Prop} (h0 : p s.first) (h1 : ∀ t ∈ s.ts, ∀ o ∈ t.os, opPub o = true → p o.cfg) : ∀ c ∈ pubs s, p c := by
  intro c hc
  unfold pubs at hc
  rcases List.mem_cons.1 hc with rfl | hc
  · exact h0
  · obtain ⟨l, hl, hc⟩ := List.mem_flatten.1 hc
    obtain ⟨t, ht, rfl⟩ := List.mem_map.1 hl
    unfold thrPubs opsPubs at hc
    obtain ⟨o, ho, rfl⟩ := List.mem_map.1 hc
    obtain ⟨ho, hp⟩ := List.mem_filter.1 ho
    exact h1 t ht o ho hp
theorem pubs_in {w : World} {B : Nat} {s : Scr} (h : ScrIn w B s) : ∀ c ∈ pubs s, CfgIn w B c := pubs_all h.fi fun t ht o ho _ => (h.ti t ht).oi o ho
theorem pubs_small {w : World} {B : Nat} {s : Scr} (h : ScrIn w B s) : ∀ c ∈ pubs s, ∀ x ∈ c.ls, x.size ≤ maxLen := pubs_all h.fs fun t ht o ho hp x hx => by
  unfold opPub at hp
  rw [Bool.and_eq_true, beq_iff_eq, beq_iff_eq] at hp
  have hn := (good_iff.1 hp.2).l x hx
  obtain ⟨_, h1, _⟩ := (kindB_iff ..).1 hn
  unfold maxLen
  omega
theorem pubs_few {s : Scr} (h : FewQ s) : ∀ c ∈ pubs s, c.ls.length ≤ 50 := pubs_all (big_lists h.f).1 fun t ht o ho _ => by
  have := (h.o t ht).2 o ho
  unfold bigO at this
  simp only [Bool.or_eq_false_iff] at this
  exact (big_lists this.1.1).1
theorem pubs_len {s : Scr} (h : FewQ s) : (pubs s).length ≤ 801 := by
  have key : ∀ ts : List Thr, (∀ t ∈ ts, t.os.length ≤ 40) → ((ts.map thrPubs).flatten).length ≤ 40 * ts.length := by
    intro ts
    induction ts with
    | nil => intro _; simp
    | cons t ts ih =>
      intro ht
      have h1 := ih fun x hx => ht x (List.mem_cons_of_mem _ hx)
      have h2 := ht t (List.mem_cons_self ..)
      have h3 := List.length_filter_le opPub t.os
      rw [List.map_cons, List.flatten_cons, List.length_append, List.length_cons, thrPubs, opsPubs, List.length_map]
      omega
  have h1 := key s.ts fun t ht => (h.o t ht).1
  have h2 := h.t
  unfold pubs
  rw [List.length_cons]
  omega
def namesOf {p : Cfg → Prop} (pre : List {c : Cfg // p c}) : List ByteArray := (pre.map Subtype.val).foldl (fun o c => addL o c.ls) []
theorem namesOf_snoc {p : Cfg → Prop} (pre : List {c : Cfg // p c}) (x : {c : Cfg // p c}) : namesOf (pre ++ [x]) = addL (namesOf pre) x.1.ls := by
  unfold namesOf
  rw [List.map_append, List.foldl_append]
  rfl
theorem names_len {l : List Cfg} (h : ∀ c ∈ l, c.ls.length ≤ 50) (out : List ByteArray) : (l.foldl (fun o c => addL o c.ls) out).length ≤ out.length + 50 * l.length := by
  induction l generalizing out with
  | nil => simp
  | cons c l ih =>
    have h1 := ih (fun x hx => h x (List.mem_cons_of_mem _ hx)) (addL out c.ls)
    have h2 := addL_len out c.ls
    have h3 := h c (List.mem_cons_self ..)
    rw [List.foldl_cons, List.length_cons]
    omega
theorem namesOf_len {s : Scr} (h : FewQ s) (pre : List {c : Cfg // c ∈ pubs s}) (hl : pre.length ≤ (pubs s).length) : (namesOf pre).length ≤ 40050 := by
  have h1 := names_len (l := pre.map Subtype.val) (fun c hc => by
    obtain ⟨x, _, rfl⟩ := List.mem_map.1 hc
    exact pubs_few h x.1 x.2) []
  have h2 := pubs_len h
  rw [List.length_map] at h1
  unfold namesOf
  rw [List.length_nil, Nat.zero_add] at h1
  omega

theorem KeptQ.grown {B0 Bs : Nat} {W W' : World} {row : Option Nat} (hg : W.grownBy W' row) (hB : B0 ≤ W.heap.size) (hs : Bs < W.heap.size) (hr : ∀ k, row = some k → B0 ≤ k ∧ k ≠ Bs) : KeptQ B0 Bs W W' :=
  ⟨hg.size, fun p hp => World.cell?_of_block (hg.block p.block (by omega) (fun e => by have := hr p.block e.symm; omega))⟩

/-- What the call's own boxes hold between two rounds: the names so far, and which they are. -/
structure NameR (w W : World) (v : Value) (xs ys : List ByteArray) : Prop where
  b1 : Boxed W (w.heap.size + 1) 22 v
  b3 : Boxed W (w.heap.size + 1 + 1 + 1) 53 (.map (some (w.heap.size + 1 + 1)))
  own : Own 9 (w.heap.size + 5) W v (xs.map Value.string)
  set : SetIn W (w.heap.size + 1 + 1) ys
  hB : Below w.heap.size w W
  hsz : w.heap.size + 5 ≤ W.heap.size
theorem NameR.stay {w : World} {v : Value} {xs ys : List ByteArray} {X Y : World} {row : Option Nat} (hs : NameR w X v xs ys) (hg : X.grownBy Y row) (hr : ∀ r, row = some r → w.heap.size + 5 ≤ r ∧ ∃ o : Obj, X.heap[r]? = some o ∧ o.isCells = false) : NameR w Y v xs ys :=
  have two : ∀ {g : Nat} {cs : Array Value} {t : TypeId}, X.heap[g]? = some (.cells cs t (0, 0)) → some g ≠ row := fun {g cs t} hh e => by
    obtain ⟨_, o, ho, hc⟩ := hr g e.symm
    rw [hh] at ho
    cases ho
    cases hc
  ⟨hs.b1.kept hg (two hs.b1), hs.b3.kept hg (two hs.b3), own_stay hs.own hg fun r e => (hr r e).2, hs.set.kept hg (fun e => by have := (hr _ e.symm).1; omega), ownFrom_below (β := Unit) (Nat.le_refl _) (Nat.le_refl _) () X Y row hs.hB hg (fun r e => ⟨by have := (hr r e).1; omega, (hr r e).2⟩), Nat.le_trans hs.hsz hg.size⟩
theorem NameR.below {w W W' : World} {v : Value} {xs ys : List ByteArray} (h : NameR w W v xs ys) (hb : Below W.heap.size W W') : NameR w W' v xs ys := h.stay (grownBy_below hb) fun r e => by cases e
def NameI (w : World) {p : Cfg → Prop} (pre : List {c : Cfg // p c}) (W : World) : Prop := ∃ v, NameR w W v (namesOf pre) (namesOf pre)
theorem NameR.put {w W W1 : World} {v : Value} {xs ys : List ByteArray} (h : NameR w W v xs xs) (hg : W.grownBy W1 (some (w.heap.size + 1 + 1))) (hs : SetIn W1 (w.heap.size + 1 + 1) ys) : NameR w W1 v xs ys :=
  ⟨h.b1.kept hg (by intro e; injection e with e; omega), h.b3.kept hg (by intro e; injection e with e; omega), h.own.kept hg (by
    rcases hv : v.ownBlock with _ | k
    · exact .inl rfl
    · refine .inr fun e => ?_
      injection e with e
      have := (h.own.lt k hv).1
      omega), hs, h.hB.grown hg (by have := h.hsz; omega) (fun j e => by cases e; omega), Nat.le_trans h.hsz hg.size⟩
theorem NameR.app {w W w2 : World} {v v' : Value} {xs ys zs : List ByteArray} {tmp : Obj} (h : NameR w W v xs ys) (hgrow : (W.alloc tmp).grownBy w2 v.ownBlock) (hown' : Own 9 (w.heap.size + 5) w2 v' (zs.map Value.string)) (B : Nat) :
    Boxed w2 (w.heap.size + 1) 22 v ∧ NameR w (w2.setCell ⟨w.heap.size + 1, 0, none⟩ v') v' zs ys ∧ KeepsFrom B W (w2.setCell ⟨w.heap.size + 1, 0, none⟩ v') ∧ KeptQ w.heap.size (w.heap.size + 1 + 1 + 1 + 1) W (w2.setCell ⟨w.heap.size + 1, 0, none⟩ v') := by
  have hsz := h.hsz
  have hlt := h.own.lt
  obtain ⟨hv1, hv2, hr2, hk2, hb2⟩ := h.b1.appended (n₀ := w.heap.size) (by decide) (ownsRow_less h.own (by omega)) (by omega) (by omega) (ownsRow_less hown' (by omega)) hgrow
  have hg1 := hgrow.size
  rw [World.size_alloc] at hg1
  refine ⟨hv1, ⟨hv2, ((h.b3.alloc _).kept hgrow (fun e => by have := (hlt _ e.symm).1; omega)).other (by omega) _, hown'.kept (grownBy_setCell' _ _ _) (.inr (hv1.not_row (by decide) hown').symm),
    ((h.set.kept (World.grownBy_alloc _ _ none) (by simp)).kept hgrow (fun e => by have := (hlt _ e.symm).1; omega)).kept (grownBy_setCell' _ _ _) (by intro e; injection e with e; omega), h.hB.trans hb2, Nat.le_trans hsz hb2.size⟩, hk2.from B, ?_⟩
  exact ((KeptQ.grown (World.grownBy_alloc W tmp none) (by omega) (by omega) (fun k e => by cases e)).trans (KeptQ.grown hgrow (by simp; omega) (by simp; omega) (fun k e => by have := (hlt k e).1; omega))).trans (KeptQ.grown (grownBy_setCell' _ _ _) (by omega) (by omega) (fun k e => by cases e; omega))
theorem nameI_own (w : World) {p : Cfg → Prop} {B : Nat} (hB : w.heap.size + 5 ≤ B) : OwnFrom B (NameI w (p := p)) := fun s X Y row hs hg hr => by
  obtain ⟨v, h1⟩ := hs
  exact ⟨v, h1.stay hg fun r e => ⟨Nat.le_trans hB (hr r e).1, (hr r e).2⟩⟩

set_option maxHeartbeats 4000000 in
theorem names8_is (s : Scr) (w : World) (h : ScrIn w w.heap.size s) (few : FewQ s) : Calls Try.prog 13 #[s.val] w (Lists8 w (scrNames s)) := by
  obtain ⟨ib, hib, hb0, hb1, hb2⟩ := info_parts str_info
  have IB := Lib.hid (⟨hib, hb0, hb1, hb2⟩ : _ ∧ _ ∧ _ ∧ _)
  clear hib hb0 hb1 hb2
  have hmm := @run_makeMap Try.prog
  have hmx : Try.prog.follows .mixedOrders = true := by kernel_rfl
  have hpub := fun W => published_in 3 s W
  unfold Scr.val at hpub ⊢
  refine (callsIn_wide (n := 4)).1 ?_
  refine callsIn_of_wp_marks Try.func13 rfl trivial ?_ rfl
  simp only [Try.ntmps13, List.size_toArray, List.length_cons, List.length_nil, Nat.reduceAdd, Nat.reduceSub, Array.replicate_succ, Array.replicate_zero, List.push_toArray, List.append_toArray, List.nil_append, List.cons_append]
  gi_wp2_with fail
  refine ⟨trivial, (hpub _).mono ?_⟩
  rintro e w' ⟨rfl, rfl⟩
  gi_wp2_with fail
  obtain ⟨w3, hw3⟩ : ∃ w3, (((w.alloc (.cells #[.slice s.first.la s.first.ls.length s.first.lc, .slice s.first.ra s.first.rs.length s.first.rc, .slice s.first.ca s.first.cs.length s.first.cc, .slice s.ta s.ts.length s.tc, .slice s.pa s.ps.length s.pc] 30)).alloc (.cells #[.slice none 0 0] 22)).alloc (.map #[] 0)).alloc (.cells #[.map (some (w.heap.size + 1 + 1))] 53) = w3 := ⟨_, rfl⟩
  have hz3 : w3.heap.size = w.heap.size + 1 + 1 + 1 + 1 := by rw [← hw3]; simp
  have hB3 : Below w.heap.size w w3 := by rw [← hw3]; exact below_alloc (below_alloc (below_alloc (boxed w _) (Nat.le_refl _)) (Nat.le_refl _)) (Nat.le_refl _)
  have b1 : Boxed w3 (w.heap.size + 1) 22 (.slice none 0 0) := by
    rw [← hw3]
    have := ((Boxed.new (w.alloc (.cells #[.slice s.first.la s.first.ls.length s.first.lc, .slice s.first.ra s.first.rs.length s.first.rc, .slice s.first.ca s.first.cs.length s.first.cc, .slice s.ta s.ts.length s.tc, .slice s.pa s.ps.length s.pc] 30)) 22 (.slice none 0 0)).alloc (.map #[] 0)).alloc (.cells #[.map (some (w.heap.size + 1 + 1))] 53)
    rwa [World.size_alloc] at this
  have b3 : Boxed w3 (w.heap.size + 1 + 1 + 1) 53 (.map (some (w.heap.size + 1 + 1))) := by
    rw [← hw3]
    have := Boxed.new (((w.alloc (.cells #[.slice s.first.la s.first.ls.length s.first.lc, .slice s.first.ra s.first.rs.length s.first.rc, .slice s.first.ca s.first.cs.length s.first.cc, .slice s.ta s.ts.length s.tc, .slice s.pa s.ps.length s.pc] 30)).alloc (.cells #[.slice none 0 0] 22)).alloc (.map #[] 0)) 53 (.map (some (w.heap.size + 1 + 1)))
    rwa [World.size_alloc, World.size_alloc, World.size_alloc] at this
  have b2 : SetIn w3 (w.heap.size + 1 + 1) [] := by
    rw [← hw3]
    have := (SetIn.made ((w.alloc (.cells #[.slice s.first.la s.first.ls.length s.first.lc, .slice s.first.ra s.first.rs.length s.first.rc, .slice s.first.ca s.first.cs.length s.first.cc, .slice s.ta s.ts.length s.tc, .slice s.pa s.ps.length s.pc] 30)).alloc (.cells #[.slice none 0 0] 22))).kept (World.grownBy_alloc _ (.cells #[.map (some (w.heap.size + 1 + 1))] 53) none) (by simp)
    rwa [World.size_alloc, World.size_alloc] at this
  have S := published_stops (4 - 1) (by omega) w.heap.size s w3 (h.below hB3) hB3.size
  rw [hw3]
  rw [hz3] at S
  obtain ⟨w4, hw4⟩ : ∃ w4, w3.alloc (.cells #[.slice s.first.la s.first.ls.length s.first.lc, .slice s.first.ra s.first.rs.length s.first.rc, .slice s.first.ca s.first.cs.length s.first.cc, .slice s.ta s.ts.length s.tc, .slice s.pa s.ps.length s.pc] 30) = w4 := ⟨_, rfl⟩
  have hz4 : w4.heap.size = w.heap.size + 5 := by rw [← hw4]; simp [hz3]
  have hB4 : Below w.heap.size w w4 := by rw [← hw4]; exact below_next hB3 (boxed w3 _)
  have b1' : Boxed w4 (w.heap.size + 1) 22 (.slice none 0 0) := by rw [← hw4]; exact b1.alloc _
  have b3' : Boxed w4 (w.heap.size + 1 + 1 + 1) 53 (.map (some (w.heap.size + 1 + 1))) := by rw [← hw4]; exact b3.alloc _
  have b2' : SetIn w4 (w.heap.size + 1 + 1) [] := by rw [← hw4]; exact b2.kept (World.grownBy_alloc _ _ none) (by simp)
  rw [hw4] at S ⊢
  have HZ4 := Lib.hid hz4
  have HS := Lib.hid h
  have FEW := Lib.hid few
  clear hw3 hw4 b1 b2 b3 hB3 hz3 hz4 h few hpub hmm
  refine wpIn_rangeFunc_ownH (F := Fence.wide) rfl (by omega) (gf := 40)
    (lb := #[.pointer (some ⟨w.heap.size + 1 + 1 + 1 + 1, 0, none⟩)]) rfl trivial (enters_of Try.func40 (by kernel_rfl) rfl)
    S KeptQ.trans (KeptQ.putObj (by rw [HZ4.out]; omega) (by rw [HZ4.out]; omega)) (Below.refl _ _) (fun _ => rfl)
    (NameI w (p := fun c => c ∈ pubs s)) (fun _ _ _ => False) (nameI_own w (by rw [HZ4.out]; omega)) (fun _ _ _ _ _ hs _ _ => hs)
    ⟨_, ⟨b1', b3', Own.nil, b2', hB4, by rw [HZ4.out]; omega⟩⟩
    (fun x a' W => ∃ Bx, w.heap.size + 5 ≤ Bx ∧ W.heap[Bx]? = some (.cells #[.slice x.1.la x.1.ls.length x.1.lc, .slice x.1.ra x.1.rs.length x.1.rc, .slice x.1.ca x.1.cs.length x.1.cc] 26 (0, 0)) ∧ a' = { tmps := #[.agg #[.slice s.first.la s.first.ls.length s.first.lc, .slice s.first.ra s.first.rs.length s.first.rc, .slice s.first.ca s.first.cs.length s.first.cc, .slice s.ta s.ts.length s.tc, .slice s.pa s.ps.length s.pc], .pointer (some ⟨w.heap.size, 0, none⟩), .slice none 0 0, .pointer (some ⟨w.heap.size + 1, 0, none⟩), .pointer (some ⟨w.heap.size + 1 + 1 + 1, 0, none⟩), .pointer (some ⟨Bx, 0, none⟩), undef, undef, .map (some (w.heap.size + 1 + 1)), .agg #[.slice s.first.la s.first.ls.length s.first.lc, .slice s.first.ra s.first.rs.length s.first.rc, .slice s.first.ca s.first.cs.length s.first.cc, .slice s.ta s.ts.length s.tc, .slice s.pa s.ps.length s.pc], .func (.func 40) #[] #[.pointer (some ⟨w.heap.size + 1 + 1 + 1 + 1, 0, none⟩)], .agg #[.slice x.1.la x.1.ls.length x.1.lc, .slice x.1.ra x.1.rs.length x.1.rc, .slice x.1.ca x.1.cs.length x.1.cc], undef, undef, undef, undef, undef, undef, undef, undef, undef, undef, undef, undef, undef, undef, undef, undef, undef, undef, undef], defers := [] })
    (fun x a' _ X Y row hs hg hrow => by
      obtain ⟨Bx, h1, h2, h3⟩ := hs
      exact ⟨Bx, h1, (hg.block Bx (block_lt h2) (fun e => by obtain ⟨_, o, ho, hc⟩ := hrow Bx e.symm; rw [h2] at ho; cases ho; cases hc)).trans h2, h3⟩)
    ?assign ?body ?done ?stop
  case assign =>
    rintro l pre x W K ⟨v, hI⟩ hK
    have hsz := hI.hsz
    gi_wp2
    refine hK _ _ ((KeepsOthers.alloc _ _).from _) (KeptQ.below (boxed W _) (by omega) (by omega)) ⟨v, hI.below (boxed W _)⟩ ⟨W.heap.size, hsz, one_alloc W _, rfl⟩
  case body =>
    rintro l pre x a' W hl _ ⟨v, hI⟩ ⟨Bx, hBx, hX, rfl⟩ hlt
    have hF : ∀ g, Fence.wide.fn g := fun _ => trivial
    have hcx := pubs_in HS.out x.1 x.2
    have hsm := pubs_small HS.out x.1 x.2
    have hlm := Nat.le_trans hcx.ll hcx.lm
    have hl50 := pubs_few FEW.out x.1 x.2
    have hns := namesOf_snoc pre x
    have hnl := namesOf_len FEW.out (pre ++ [x]) (by rw [List.length_append, List.length_singleton]; omega)
    have hnl0 := namesOf_len FEW.out pre (by omega)
    unfold maxLen at hlm
    have f0 : W.cell? ⟨Bx, 0, none⟩ = some (.slice x.1.la x.1.ls.length x.1.lc) := by rw [block_cell hX]; rfl
    have HCX := Lib.hid hcx
    have HSM := Lib.hid hsm
    have HNS := Lib.hid hns
    clear hcx hsm hns hnl hX
    gi_wp2_with fail
    clear f0
    gi_loopg [15] x.1.ls.length (fun g i wi => ∃ (j : Nat) (v : Value), j ≤ x.1.ls.length ∧ g = x.1.ls.length - j ∧ i = .int .i64 j ∧ NameR w wi v (addL (namesOf pre) (x.1.ls.take j)) (addL (namesOf pre) (x.1.ls.take j)) ∧ KeepsFrom w4.heap.size W wi ∧ KeptQ w.heap.size (w.heap.size + 1 + 1 + 1 + 1) W wi)
    case atStart => exact ⟨0, v, Nat.zero_le _, rfl, rfl, hI, KeepsFrom.refl _ _, KeptQ.refl _ _ _⟩
    case round =>
      clear hI
      obtain ⟨j, v, hj, rfl, rfl, hN, hkf, hkq⟩ := hrel
      have HKF := Lib.hid hkf
      have HKQ := Lib.hid hkq
      clear hkf hkq
      by_cases hjl : j < x.1.ls.length
      · obtain ⟨ad, e, _, g0⟩ := (HCX.out.below hN.hB).pl.str hjl
        have hnx := addL_next (out := namesOf pre) hjl
        have hys := HSM.out _ (List.getElem_mem hjl)
        have hal := addL_len (namesOf pre) (x.1.ls.take j)
        rw [List.length_take] at hal
        obtain ⟨y, hy⟩ : ∃ y, x.1.ls[j] = y := ⟨_, rfl⟩
        rw [hy] at g0 hnx hys
        obtain ⟨xs, hxs⟩ : ∃ xs, addL (namesOf pre) (x.1.ls.take j) = xs := ⟨_, rfl⟩
        rw [hxs] at hN hnx hal
        have hlook := hN.set.look hys
        have e3 := hN.b3.cell
        rw [e]
        have HE := Lib.hid e
        clear hy hxs e
        obtain ⟨hh, hhh⟩ : ∃ b, hasL xs y = b := ⟨_, rfl⟩
        rw [hhh] at hlook hnx
        have HNX := Lib.hid hnx
        clear hnx hhh
        cases hh with
        | true =>
          have HF : Hid (addL (namesOf pre) (x.1.ls.take (j + 1)) = xs) := Lib.hid HNX.out
          have HN := Lib.hid hN
          clear hN
          gi_wp2_with fail
          rw [← HE.out]
          go_roundg (x.1.ls.length - (j + 1))
          case measure => omega
          case rel => exact ⟨j + 1, v, by omega, rfl, by go_num, by rw [HF.out]; exact HN.out, HKF.out, HKQ.out⟩
        | false =>
          have HF : Hid (addL (namesOf pre) (x.1.ls.take (j + 1)) = xs ++ [y]) := Lib.hid HNX.out
          obtain ⟨D, hD, hown, hat⟩ := hN.set.open
          have HN := Lib.hid hN
          have HD := Lib.hid hD
          have HAT := Lib.hid hat
          have hx1 : xs.length < maxLen := by unfold maxLen; omega
          have hsz := hN.hsz
          clear hN hD hat
          gi_wp2_with (first
            | (gi_at_mapUpdate; refine wpListIn_mapUpdate_own _ rfl _ _ _ 53 rfl 9 4 key_law Try.underlying53 (plainElem Try.prog 4) (w.heap.size + 1 + 1) xs.length D rfl hown hx1 _ _ _ rfl rfl (key_of hys) _ [] (plainElem_bool Try.underlying4 true) ?_; intro w1 hown1 hgrow1; have HM := Lib.hid (HN.out.put hgrow1 (SetIn.put HD.out hown1 HAT.out)); have hrow := HM.out.own; have c1 := HM.out.b1.cell; have hsz1 := HM.out.hsz; have KF1 := Lib.hid (HKF.out.trans (KeepsFrom.of_grownBy (B := w4.heap.size) hgrow1 (fun j e => by cases e; rw [HZ4.out]; omega))); have KQ1 := Lib.hid (HKQ.out.trans (KeptQ.grown (B0 := w.heap.size) (Bs := w.heap.size + 1 + 1 + 1 + 1) hgrow1 (by omega) (by omega) (fun k e => by cases e; omega))); clear hown hown1 hgrow1 hlook e3 g0)
            | (gi_at_builtin; refine wpListIn_append_own _ rfl _ _ 22 rfl (w.heap.size + 5) 9 ib (.string ⟨#[]⟩) 1 16 Try.underlying22 IB.out.1 IB.out.2.1 IB.out.2.2.1 IB.out.2.2.2 rfl (by decide) _ _ _ rfl (hrow.alloc _) ⟨w1.heap.size, 0, none⟩ 1 1 [.string y] rfl rfl (cell_one_new _ _ _) (by simp [Value.oneCell']) (by rw [List.length_map]; unfold maxLen; omega) (by rw [List.length_map]; omega) (by simp; omega) ?_; intro v' w2 hown' hgrow _; obtain ⟨g', cap', rfl⟩ := ownsRow_succ hown'; obtain ⟨hv1, hN2, hk2, hq2⟩ := HM.out.app (zs := xs ++ [y]) hgrow (by unfold Go.Proofs.Ytmjdamcbdclgpaa.Own; rw [List.map_append, List.length_append]; exact hown') w4.heap.size; have hc1 := hv1.cell; have hf1 := hv1.frozen))
          rw [List.length_map] at hk2 hq2 hN2
          rw [← HE.out]
          go_roundg (x.1.ls.length - (j + 1))
          case measure => omega
          case rel => exact ⟨j + 1, _, by omega, rfl, by go_num, by rw [HF.out]; exact hN2, KF1.out.trans hk2, KQ1.out.trans hq2⟩
      · obtain rfl : j = x.1.ls.length := by omega
        gi_wp2_with fail
        refine ⟨HKF.out, HKQ.out, v, ?_⟩
        rw [HNS.out]
        rwa [List.take_length] at hN
  case done =>
    rintro D ys W hD hys ⟨v, hI⟩ hK
    rw [HZ4.out] at hD
    have hnm : namesOf ys = scrNames s := by unfold namesOf; rw [hys, pubs_names]
    rw [hnm] at hI
    obtain ⟨A5, c5, rfl⟩ := Own.slice hI.own
    have HN := Lib.hid hI
    have e1 := hI.b1.cell
    clear hI hnm hys
    gi_wp2_with fail
    refine ⟨by simp, .inl ⟨_, _, rfl, run_takeDeferred hK, ?_⟩⟩
    have HO6 : Go.Proofs.Ytmjdamcbdclgpaa.Own 9 (w.heap.size + 5) (W.putObj D (.deferred none)) _ ((scrNames s).map Value.string) := ownsRow_putObj HN.out.own _ hK rfl
    have hle := own_le HN.out.own
    refine ⟨_, results_tmp rfl _ _ _, A5, c5, rfl, Own.reads HO6, by rw [List.length_map] at hle; exact hle.1, hle.2, HN.out.hB.trans (belowK_b (w := w) (Nat.le_refl _) W D _ _ (by omega) hK rfl rfl)⟩
  case stop =>
    rintro D c pre W _ _ h _
    exact h.elim
end Go.Proofs.Ytmjdamcbdclgpaa
