/- Copies of lists: slices.Clone of texts, of bools and of clusters. -/
import Derived.Test.YtknjdaokidcllaaM1
import Derived.Test.YtknjdaokidcllaaSsame
import Derived.Lib.SliceRun
import Derived.Test.YtknjdaokidcllaaSpure
import Derived.Deep.LoopGhost
namespace Go.Proofs.Ytknjdaokidcllaa
open Go.RowKit
set_option linter.unusedVariables false
set_option linter.unusedSimpArgs false
set_option maxRecDepth 100000

theorem bool_info : (Try.prog.info? 4).map (fun i => (i.zero, i.size, i.bytes)) = some (some (.bool false), 1, 1) := by kernel_rfl
theorem cluster_info : (Try.prog.info? 46).map (fun i => (i.zero, i.size, i.bytes)) = some (some (.agg #[.string ⟨#[]⟩, .int .i64 0, .int .i64 0, .slice none 0 0]), 4, 56) := by kernel_rfl

/-- A list is new. -/
def Anew (n : Nat) (a : Option Addr) : Prop := ∀ ad, a = some ad → n ≤ ad.block
theorem far_own {E base : Nat} {w : World} {A : Option Addr} {n c s m : Nat} {xs : List Value} (h : w.ownsRow base E s (.slice A n c) m xs) : Anew base A := fun ad e => by
  subst e
  exact (World.ownsRow.lt h _ rfl).1
theorem Own.le {E base : Nat} {w : World} {A : Option Addr} {n c : Nat} {xs : List Value} (h : Own E base w (.slice A n c) xs) : n ≤ c ∧ c ≤ maxLen := by
  rcases h.2 with ⟨hv, h0⟩ | ⟨g, cap, cur, hv, _, hh, h1, h2, _⟩
  · cases hv
    exact ⟨by omega, by simp [maxLen]⟩
  · cases hv
    exact ⟨h1, h2⟩

/-- A copy of a list of elements of one cell, or of four. -/
def Copies (E : Nat) (w : World) (xs : List Value) (e : Ending) (w' : World) : Prop := ∃ A c, e = .returned (.slice A xs.length c) ∧ Own E w.heap.size w' (.slice A xs.length c) xs ∧ Below w.heap.size w w'
def Copies4 (E : Nat) (w : World) (rs : List (List Value)) (e : Ending) (w' : World) : Prop := ∃ A c, e = .returned (.slice A rs.length c) ∧ Own4 E w.heap.size w' (.slice A rs.length c) rs ∧ Below w.heap.size w w'
theorem below_row {w w' : World} {o : Obj} (h : (w.alloc o).grownBy w' (some w.heap.size)) : Below w.heap.size w w' :=
  (boxed w o).trans (below_grownBy h (by simp) fun k hk => by cases hk; exact Nat.le_refl _)

set_option maxHeartbeats 1000000 in
theorem cloneS_is (A : Option Addr) (c : Nat) (xs : List Value) (w : World) (hr : Reads w w.heap.size A xs) (hl : xs.length ≤ 1000) (h1 : ∀ u ∈ xs, u.oneCell' = true) :
    Calls Try.prog 18 #[.slice A xs.length c] w (Copies 9 w xs) := by
  obtain ⟨ir, hir, hr0, hr1, hr2⟩ := info_parts str_info
  have IR := Lib.hid (⟨hir, hr0, hr1, hr2⟩ : _ ∧ _ ∧ _ ∧ _)
  clear hir hr0 hr1 hr2
  have qT : ∀ (w : World) (a : Option Addr) (n c n' c' : Nat), (binOp .eql 22 (.slice a n c) (.slice none n' c')).run Try.prog w = .ok (.bool a.isNone) w := fun w a n c n' c' => Lib.run_eql_slice_nil w _ _ a n c n' c' Try.underlying22
  have HR := Lib.hid hr
  have HO := Lib.hid h1
  have HL := Lib.hid hl
  clear hr h1
  rcases A with _ | ad
  · have h0 : xs.length = 0 := by
      rcases Nat.eq_zero_or_pos xs.length with h | h
      · exact h
      · obtain ⟨ad, e, _⟩ := HR.out h
        cases e
    have hx : xs = [] := List.eq_nil_of_length_eq_zero h0
    subst hx
    clear h0 hl
    go_enter Try.func18, Try.ntmps18
    go_wp2_with fail
    go_ret
    exact ⟨none, 0, rfl, Own.nil, Below.refl _ _⟩
  · go_enter Try.func18, Try.ntmps18
    go_wp2_with (at_builtin; refine wpList_append_all rfl (.tmp 5) (.tmp 6) 22 rfl ir (.string ⟨#[]⟩) 16 Try.underlying22 IR.out.1 IR.out.2.1 IR.out.2.2.1 IR.out.2.2.2 rfl rfl _ (Own.empty (E := 9) (Nat.le_refl w.heap.size)) (B := w.heap.size) (A := some ad) (c := c) (ys := xs) rfl (HR.out.below (boxed w _)) HO.out (by simp [maxLen]; omega) (by simp; omega) (by simp) ?_; intro v' w4 ho hg hb4; have kB := below_row hg; obtain ⟨A4, n4, c4, rfl⟩ := own_form ho)
    go_ret
    obtain ⟨A5, c5, hv⟩ := ho.slice
    cases hv
    rw [List.nil_append] at ho
    exact ⟨_, _, rfl, ho, kB⟩

set_option maxHeartbeats 1000000 in
theorem cloneB_is (A : Option Addr) (c : Nat) (xs : List Value) (w : World) (hr : Reads w w.heap.size A xs) (hl : xs.length ≤ 1000) (h1 : ∀ u ∈ xs, u.oneCell' = true) :
    Calls Try.prog 36 #[.slice A xs.length c] w (Copies 4 w xs) := by
  obtain ⟨ir, hir, hr0, hr1, hr2⟩ := info_parts bool_info
  have IR := Lib.hid (⟨hir, hr0, hr1, hr2⟩ : _ ∧ _ ∧ _ ∧ _)
  clear hir hr0 hr1 hr2
  have qT : ∀ (w : World) (a : Option Addr) (n c n' c' : Nat), (binOp .eql 44 (.slice a n c) (.slice none n' c')).run Try.prog w = .ok (.bool a.isNone) w := fun w a n c n' c' => Lib.run_eql_slice_nil w _ _ a n c n' c' Try.underlying44
  have HR := Lib.hid hr
  have HO := Lib.hid h1
  have HL := Lib.hid hl
  clear hr h1
  rcases A with _ | ad
  · have h0 : xs.length = 0 := by
      rcases Nat.eq_zero_or_pos xs.length with h | h
      · exact h
      · obtain ⟨ad, e, _⟩ := HR.out h
        cases e
    have hx : xs = [] := List.eq_nil_of_length_eq_zero h0
    subst hx
    clear h0 hl
    go_enter Try.func36, Try.ntmps36
    go_wp2_with fail
    go_ret
    exact ⟨none, 0, rfl, Own.nil, Below.refl _ _⟩
  · go_enter Try.func36, Try.ntmps36
    go_wp2_with (at_builtin; refine wpList_append_all rfl (.tmp 5) (.tmp 6) 44 rfl ir (.bool false) 1 Try.underlying44 IR.out.1 IR.out.2.1 IR.out.2.2.1 IR.out.2.2.2 rfl rfl _ (Own.empty (E := 4) (Nat.le_refl w.heap.size)) (B := w.heap.size) (A := some ad) (c := c) (ys := xs) rfl (HR.out.below (boxed w _)) HO.out (by simp [maxLen]; omega) (by simp; omega) (by simp) ?_; intro v' w4 ho hg hb4; have kB := below_row hg; obtain ⟨A4, n4, c4, rfl⟩ := own_form ho)
    go_ret
    obtain ⟨A5, c5, hv⟩ := ho.slice
    cases hv
    rw [List.nil_append] at ho
    exact ⟨_, _, rfl, ho, kB⟩

set_option maxHeartbeats 1000000 in
theorem cloneC_is (A : Option Addr) (c : Nat) (xs : List (List Value)) (w : World) (hr : Rows4 w w.heap.size A xs) (h4 : ∀ r ∈ xs, r.length = 4) (hl : xs.length ≤ 1000) (h1 : ∀ r ∈ xs, ∀ u ∈ r, u.oneCell' = true) :
    Calls Try.prog 35 #[.slice A xs.length c] w (Copies4 46 w xs) := by
  obtain ⟨ir, hir, hr0, hr1, hr2⟩ := info_parts cluster_info
  have IR := Lib.hid (⟨hir, hr0, hr1, hr2⟩ : _ ∧ _ ∧ _ ∧ _)
  clear hir hr0 hr1 hr2
  have qT : ∀ (w : World) (a : Option Addr) (n c n' c' : Nat), (binOp .eql 24 (.slice a n c) (.slice none n' c')).run Try.prog w = .ok (.bool a.isNone) w := fun w a n c n' c' => Lib.run_eql_slice_nil w _ _ a n c n' c' Try.underlying24
  have HR := Lib.hid hr
  have HO := Lib.hid h1
  have H4 := Lib.hid h4
  clear hr h1 h4
  rcases A with _ | ad
  · have h0 : xs.length = 0 := by
      rcases Nat.eq_zero_or_pos xs.length with h | h
      · exact h
      · obtain ⟨ad, e, _⟩ := HR.out h
        cases e
    have hx : xs = [] := List.eq_nil_of_length_eq_zero h0
    subst hx
    clear h0 hl
    go_enter Try.func35, Try.ntmps35
    go_wp2_with fail
    go_ret
    exact ⟨none, 0, rfl, Own4.nil, Below.refl _ _⟩
  · go_enter Try.func35, Try.ntmps35
    go_wp2_with (at_builtin; refine wpList_append_any4 rfl (.tmp 5) (.tmp 6) 24 rfl ir (.agg #[.string ⟨#[]⟩, .int .i64 0, .int .i64 0, .slice none 0 0]) 56 Try.underlying24 IR.out.1 IR.out.2.1 IR.out.2.2.1 IR.out.2.2.2 rfl rfl _ (Own4.empty (E := 46) (Nat.le_refl w.heap.size)) (B := w.heap.size) (A := some ad) (c := c) (ys := xs) H4.out rfl (HR.out.below (boxed w _)) HO.out (by simp [maxLen]; omega) (by simp; omega) (by simp) ?_; intro v' w4 ho hg hb4; have kB := below_row hg; obtain ⟨A4, n4, c4, rfl⟩ := own_form ho.2)
    go_ret
    obtain ⟨A5, c5, hv, _⟩ := ho.slice
    cases hv
    rw [List.nil_append] at ho
    exact ⟨_, _, rfl, ho, kB⟩
end Go.Proofs.Ytknjdaokidcllaa

/- snap.copied: clusters in memory of their own. -/
namespace Go.Proofs.Ytknjdaokidcllaa
open Go.RowKit
set_option linter.unusedVariables false
set_option linter.unusedSimpArgs false
set_option maxRecDepth 100000

/-! A field of an element of a row of the call's own is written. -/
theorem flat_set {rs : List (List Value)} (h4 : ∀ r ∈ rs, r.length = 4) {k j : Nat} (hk : k < rs.length) (hj : j < 4) (u : Value) : (rs.set k (rs[k].set j u)).flatten = rs.flatten.set (k * 4 + j) u := by
  induction rs generalizing k with
  | nil => simp at hk
  | cons a l ih =>
    have ha : a.length = 4 := h4 a (List.mem_cons_self ..)
    cases k with
    | zero =>
      simp only [List.set_cons_zero, List.flatten_cons, List.getElem_cons_zero, Nat.zero_mul, Nat.zero_add]
      rw [List.set_append_left _ _ (by omega)]
    | succ k =>
      simp only [List.set_cons_succ, List.flatten_cons, List.getElem_cons_succ]
      rw [ih (fun r hr => h4 r (List.mem_cons_of_mem _ hr)) (by simpa using hk), List.set_append_right _ _ (by rw [ha]; omega), ha]
      congr 2
      omega
theorem Own4.setAt {E base g n cap k j : Nat} {w : World} {rs : List (List Value)} (h : Own4 E base w (.slice (some ⟨g, 0, none⟩) n cap) rs) (hk : k < rs.length) (hj : j < 4) (u : Value) :
    Own4 E base (w.setCell ⟨g, k * 4 + j, none⟩ u) (.slice (some ⟨g, 0, none⟩) n cap) (rs.set k (rs[k].set j u)) := by
  obtain ⟨h4, hlen, h⟩ := h
  rcases h with ⟨hv, _⟩ | ⟨g', cap', cur, hv, hb, hh, h1, h2, h3, h5⟩
  · cases hv
  · cases hv
    refine ⟨fun r hr => ?_, by rw [flat_set h4 hk hj, List.length_set, List.length_set]; exact hlen, .inr ⟨g, cap, _, by rw [List.length_set], hb, block_setCell hh u, by rw [List.length_set]; exact h1, h2, by simpa using h3, ?_⟩⟩
    · rcases List.mem_or_eq_of_mem_set hr with hr | rfl
      · exact h4 r hr
      · rw [List.length_set]
        exact h4 _ (List.getElem_mem hk)
    · rw [flat_set h4 hk hj, List.length_set, ← h5, Array.toList_setIfInBounds, List.take_set]
theorem Own4.blockAt {E base n c : Nat} {w : World} {A : Option Addr} {rs : List (List Value)} (h : Own4 E base w (.slice A n c) rs) (hn : 0 < rs.length) : ∃ g cur, A = some ⟨g, 0, none⟩ ∧ base ≤ g ∧ w.heap[g]? = some (.cells cur E (0, 0)) ∧ cur.toList.take (rs.length * 4) = rs.flatten := by
  rcases h.2.2 with ⟨hv, h0⟩ | ⟨g, cap, cur, hv, hb, hh, h1, h2, h3, h5⟩
  · omega
  · cases hv
    exact ⟨g, cur, rfl, hb, hh, h5⟩

/-! Clusters that say the same, whatever memory their Health lists lie in. -/
def Cl.bare (c : Cl) : Cl := { c with ha := Option.none, hc := 0 }
def Cl.has (x : Cl) (A : Option Addr) (c : Nat) : Cl := { x with ha := A, hc := c }
def Alike (a b : List Cl) : Prop := a.map Cl.bare = b.map Cl.bare
section
variable {w w' : World} {B : Nat} {cs ds : List Cl} {hs : List (List Bool)} {x y : Cl}
theorem HealthIn.snoc {k : Nat} (h : HealthIn w B cs (hs.take k)) (hk : k < hs.length) (h1 : hs[k].length = x.hn) (h2 : Reads w B x.ha (hs[k].map Value.bool)) : HealthIn w B (cs ++ [x]) (hs.take (k + 1)) := by
  have hlen : cs.length = k := by rw [← h.len, List.length_take]; omega
  refine ⟨by rw [List.length_take, List.length_append, hlen, List.length_singleton]; omega, fun i hi hi' => ?_⟩
  rw [List.getElem_take]
  by_cases hik : i < k
  · have := h.at_ i (by omega) (by rw [List.length_take]; omega)
    rw [List.getElem_take] at this
    rw [List.getElem_append_left (by omega)]
    exact this
  · obtain rfl : i = k := by
      rw [List.length_append, hlen, List.length_singleton] at hi
      omega
    rw [List.getElem_append_right (by omega)]
    simp only [hlen, Nat.sub_self, List.getElem_cons_zero]
    exact ⟨h1, h2⟩
theorem HealthIn.nil : HealthIn w B [] (hs.take 0) := ⟨by simp, fun i hi _ => absurd hi (by simp)⟩
end

/-- What copied answers. -/
def CopiesC (w : World) (cs : List Cl) (hs : List (List Bool)) (e : Ending) (w' : World) : Prop :=
  ∃ A c ds, e = .returned (.slice A ds.length c) ∧ Own4 46 w.heap.size w' (.slice A ds.length c) (ds.map Cl.cells) ∧ HealthIn w' w'.heap.size ds hs ∧ Alike ds cs ∧ (∀ x ∈ ds, Anew w.heap.size x.ha) ∧ Below w.heap.size w w'

/-- Between two rounds: the row's block is g, its first k clusters have Health lists of their own. -/
structure Cop (w w1 : World) (g cap : Nat) (cs : List Cl) (hs : List (List Bool)) (k : Nat) (wr : World) (ds : List Cl) : Prop where
  own : Own4 46 w.heap.size wr (.slice (some ⟨g, 0, none⟩) cs.length cap) ((ds ++ cs.drop k).map Cl.cells)
  health : HealthIn wr wr.heap.size ds (hs.take k)
  alike : Alike ds (cs.take k)
  far : ∀ x ∈ ds, Anew w1.heap.size x.ha
  size : w1.heap.size ≤ wr.heap.size
  below : Below w.heap.size w wr
section
variable {w w1 wr wr' : World} {g cap k : Nat} {cs ds : List Cl} {hs : List (List Bool)}
theorem Cop.len (h : Cop w w1 g cap cs hs k wr ds) (hk : k ≤ cs.length) : ds.length = k := by
  have := congrArg List.length h.alike
  simp only [List.length_map, List.length_take] at this
  omega
theorem Cop.next (h : Cop w w1 g cap cs hs k wr ds) (hb : Below wr.heap.size wr wr') : Cop w w1 g cap cs hs k wr' ds :=
  ⟨h.own.kept0 (grownBy_below hb), (h.health.below hb).more hb.size, h.alike, h.far, Nat.le_trans h.size hb.size, below_next h.below hb⟩
theorem Cop.four (h : Cop w w1 g cap cs hs k wr ds) (hk : k < cs.length) {ad : Addr} (had : ad = ⟨g, 0, none⟩) : Four wr (ad.add (k * 4)) (.string cs[k].name) (.int .i64 cs[k].policy) (.int .i64 cs[k].slots) (.slice cs[k].ha cs[k].hn cs[k].hc) := by
  subst had
  have hr := h.own.rows
  have hl := h.len (by omega)
  have hlt : k < (ds ++ cs.drop k).length := by rw [List.length_append, List.length_drop]; omega
  have e : (ds ++ cs.drop k)[k] = cs[k] := by
    rw [List.getElem_append_right (by omega)]
    simp [hl]
  have := row4_at (W := wr) hr hlt (fun _ _ => rfl)
  rwa [e] at this
/-- A round: the k-th cluster's Health list is a new one. -/
theorem Cop.put (h : Cop w w1 g cap cs hs k wr ds) (hk : k < cs.length) (hhs : hs.length = cs.length) (hg : g < w1.heap.size) (hgb : w.heap.size ≤ g) {A : Option Addr} {c : Nat} (hn : hs[k].length = cs[k].hn) (hr : Reads wr wr.heap.size A (hs[k].map Value.bool)) (hf : Anew w1.heap.size A) :
    Cop w w1 g cap cs hs (k + 1) (wr.setCell ⟨g, k * 4 + 3, none⟩ (.slice A cs[k].hn c)) (ds ++ [cs[k].has A c]) := by
  have hl := h.len (by omega)
  have hlt : k < (ds ++ cs.drop k).length := by rw [List.length_append, List.length_drop]; omega
  have e : (ds ++ cs.drop k)[k] = cs[k] := by
    rw [List.getElem_append_right (by omega)]
    simp [hl]
  have hz : (wr.setCell ⟨g, k * 4 + 3, none⟩ (.slice A cs[k].hn c)).heap.size = wr.heap.size := by simp [World.setCell]
  have keep : ∀ {B : Option Addr} {xs : List Value}, Reads wr wr.heap.size B xs → Anew w1.heap.size B → Reads (wr.setCell ⟨g, k * 4 + 3, none⟩ (.slice A cs[k].hn c)) wr.heap.size B xs := fun {B xs} hB hF hn => by
    obtain ⟨ad, e, hb, hc⟩ := hB hn
    exact ⟨ad, e, hb, fun j v hv => (World.cell?_of_block (Below.heap_setCell _ _ _ _ (by rw [block_of_add]; have := hF ad e; show ad.block ≠ g; omega))).trans (hc j v hv)⟩
  refine ⟨?_, ?_, ?_, ?_, by rw [hz]; exact h.size, h.below.setCell (by exact hgb) _⟩
  · have := h.own.setAt (k := k) (j := 3) (by rw [List.length_map]; exact hlt) (by omega) (.slice A cs[k].hn c)
    rw [List.getElem_map, e, show (cs[k].cells.set 3 (.slice A cs[k].hn c)) = Cl.cells (cs[k].has A c) from rfl, ← List.map_set, List.set_append_right _ _ (by omega), hl, Nat.sub_self, List.drop_eq_getElem_cons hk, List.set_cons_zero] at this
    rw [List.append_assoc, List.singleton_append]
    exact this
  · rw [hz]
    refine HealthIn.snoc ?_ (by omega) hn (keep hr hf)
    refine ⟨h.health.len, fun i hi hi' => ⟨(h.health.at_ i hi hi').1, keep (h.health.at_ i hi hi').2 (h.far _ (List.getElem_mem hi))⟩⟩
  · have := h.alike
    unfold Alike at this ⊢
    rw [List.take_succ_eq_append_getElem hk, List.map_append, List.map_append, this]
    rfl
  · intro x hx
    rcases List.mem_append.1 hx with hx | hx
    · exact h.far x hx
    · rw [List.mem_singleton] at hx
      subst hx
      exact hf
end

set_option maxHeartbeats 4000000 in
theorem copied_is (A : Option Addr) (c : Nat) (cs : List Cl) (hs : List (List Bool)) (w : World) (hr : Rows4 w w.heap.size A (cs.map Cl.cells)) (hh : HealthIn w w.heap.size cs hs) (hl : cs.length ≤ 1000) (hb : ∀ x ∈ cs, x.hn ≤ 1000) :
    Calls Try.prog 19 #[.slice A cs.length c] w (CopiesC w cs hs) := by
  have hq := cloneC_is A c (cs.map Cl.cells) w hr (fun r hr => by obtain ⟨x, _, rfl⟩ := List.mem_map.1 hr; rfl) (by rw [List.length_map]; exact hl) (fun r hr u hu => by obtain ⟨x, _, rfl⟩ := List.mem_map.1 hr; simp [Cl.cells] at hu; rcases hu with rfl | rfl | rfl | rfl <;> rfl)
  unfold Copies4 at hq
  rw [List.length_map] at hq
  have HH := Lib.hid hh
  have HB := Lib.hid hb
  clear hh hb hr
  go_enter Try.func19, Try.ntmps19
  go_wp2_with fail
  refine hq.mono ?_
  rintro e w1 ⟨A1, c1, rfl, ho, kk⟩
  clear hq
  rcases Nat.eq_zero_or_pos cs.length with h0 | hpos
  · obtain rfl : cs = [] := List.eq_nil_of_length_eq_zero h0
    have hs0 : hs = [] := List.eq_nil_of_length_eq_zero HH.out.len
    subst hs0
    go_wp2_with fail
    go_loopw [9] (fun i wr => i = .int .i64 0 ∧ wr = w1) (fun i _ => 0)
    case atStart => exact ⟨rfl, rfl⟩
    case round =>
      obtain ⟨rfl, rfl⟩ := hrel
      go_wp2_with fail
      go_ret
      exact ⟨_, _, [], rfl, ho, ⟨rfl, fun i hi _ => absurd hi (by simp)⟩, rfl, (fun x hx => by cases hx), kk⟩
  · obtain ⟨g, cur, rfl, hgb, hgh, hcur⟩ := ho.blockAt (by rw [List.length_map]; exact hpos)
    have C0 : Cop w w1 g c1 cs hs 0 w1 [] := ⟨by rw [List.nil_append, List.drop_zero]; exact ho, HealthIn.nil, rfl, (fun x hx => by cases hx), Nat.le_refl _, kk⟩
    have hg1 := block_lt hgh
    obtain ⟨ad, had⟩ : ∃ ad : Addr, (⟨g, 0, none⟩ : Addr) = ad := ⟨_, rfl⟩
    rw [had]
    have HAD := Lib.hid had
    have KS := Lib.hid kk.size
    clear ho kk had hgh hcur
    go_wp2_with fail
    go_loopw [9] (fun i wr => ∃ k : Nat, k ≤ cs.length ∧ i = .int .i64 k ∧ ∃ ds, Cop w w1 g c1 cs hs k wr ds) (fun i _ => cs.length - (intOf i).toNat)
    case atStart => exact ⟨0, Nat.zero_le _, rfl, [], C0⟩
    case round =>
      clear C0
      obtain ⟨k, hk, rfl, ds, C⟩ := hrel
      by_cases hlt : k < cs.length
      · have hlh : k < hs.length := by rw [HH.out.len]; exact hlt
        obtain ⟨a1, a2⟩ := HH.out.at_ k hlt hlh
        have hcl := cloneB_is cs[k].ha cs[k].hc (hs[k].map Value.bool) wr ((a2.below C.below).more C.below.size) (by rw [List.length_map, a1]; exact HB.out _ (List.getElem_mem hlt)) (fun u hu => by obtain ⟨x, _, rfl⟩ := List.mem_map.1 hu; rfl)
        unfold Copies at hcl
        rw [List.length_map, a1] at hcl
        obtain ⟨x0, x1, x2, x3⟩ := C.four hlt HAD.out.symm
        have HC := Lib.hid C
        clear C a2
        have A1 := Lib.hid a1
        clear a1
        obtain ⟨y, hy⟩ : ∃ y, cs[k] = y := ⟨_, rfl⟩
        rw [hy] at hcl x0 x1 x2 x3 A1
        have HY := Lib.hid hy
        clear hy
        go_wp2_with fail
        refine hcl.mono ?_
        rintro e w4 ⟨A5, c5, rfl, ho5, k5⟩
        have C5 := HC.out.next k5
        obtain ⟨x0', x1', x2', x3'⟩ := C5.four hlt HAD.out.symm
        rw [HY.out] at x0' x1' x2' x3'
        obtain ⟨g', cur, hgg, _, hgh, _⟩ := C5.own.blockAt (by rw [List.length_map, List.length_append, List.length_drop]; omega)
        cases hgg
        have z0 : w4.frozen? ⟨(ad.add (k * 4)).block, (ad.add (k * 4)).off + 3, none⟩ = false := by
          rw [← HAD.out, Addr.add_lit]
          exact block_free hgh _
        have C6 := Lib.hid (C5.put hlt HH.out.len hg1 hgb (A := A5) (c := c5) (by rw [HY.out]; exact A1.out) ho5.reads (fun ad' e' => Nat.le_trans HC.out.size (far_own ho5 ad' e')))
        rw [HY.out] at C6
        have e6 : (⟨g, k * 4 + 3, none⟩ : Addr) = ⟨(ad.add (k * 4)).block, (ad.add (k * 4)).off + 3, none⟩ := by
          rw [← HAD.out, Addr.add_lit, Nat.zero_add]
        rw [e6] at C6
        clear hcl x0 x1 x2 x3 C5 ho5 k5 hgh e6
        go_wp2_with fail
        go_roundw
        case rel => exact ⟨k + 1, by omega, by go_num, _, C6.out⟩
        case measure => simp [intOf]; omega
      · obtain rfl : k = cs.length := by omega
        have hlen := C.len (Nat.le_refl _)
        have hC := C.own
        rw [List.drop_length, List.append_nil] at hC
        have hal := C.alike
        rw [List.take_length] at hal
        have hhe := C.health
        rw [← HH.out.len, List.take_length] at hhe
        go_wp2_with fail
        go_ret
        rw [← HAD.out, ← hlen]
        exact ⟨_, _, ds, rfl, by rw [hlen]; exact hC, hhe, hal, fun x hx ad' e' => Nat.le_trans KS.out (C.far x hx ad' e'), C.below⟩
end Go.Proofs.Ytknjdaokidcllaa

/- The document's comparisons of configurations and of snapshots. -/
namespace Go.Proofs.Ytknjdaokidcllaa
open Go.RowKit
set_option linter.unusedVariables false
set_option linter.unusedSimpArgs false
set_option maxRecDepth 100000

/-- Three cells of two boxes, in any later world. -/
theorem two_boxes (w : World) (a b c a' b' c' : Value) (t : TypeId) (W : World) (h : Below ((w.alloc (.cells #[a, b, c] t)).alloc (.cells #[a', b', c'] t)).heap.size ((w.alloc (.cells #[a, b, c] t)).alloc (.cells #[a', b', c'] t)) W) :
    (W.cell? ⟨w.heap.size, 0, none⟩ = some a ∧ W.cell? ⟨w.heap.size, 1, none⟩ = some b ∧ W.cell? ⟨w.heap.size, 2, none⟩ = some c) ∧
    W.cell? ⟨w.heap.size + 1, 0, none⟩ = some a' ∧ W.cell? ⟨w.heap.size + 1, 1, none⟩ = some b' ∧ W.cell? ⟨w.heap.size + 1, 2, none⟩ = some c' := by
  have h1 : W.heap[w.heap.size]? = some (.cells #[a, b, c] t (0, 0)) := (h.block _ (by simp; omega)).trans (kept_alloc (one_alloc _ _))
  have h2 : W.heap[w.heap.size + 1]? = some (.cells #[a', b', c'] t (0, 0)) := by
    refine (h.block _ (by simp)).trans ?_
    have := one_alloc (w.alloc (.cells #[a, b, c] t)) (.cells #[a', b', c'] t)
    rwa [World.size_alloc] at this
  exact ⟨⟨by rw [block_cell h1]; rfl, by rw [block_cell h1]; rfl, by rw [block_cell h1]; rfl⟩, by rw [block_cell h2]; rfl, by rw [block_cell h2]; rfl, by rw [block_cell h2]; rfl⟩

def sameCfg (c : Cfg) (hs : List (List Bool)) (d : Cfg) (gs : List (List Bool)) : Bool := sameL eqB c.ls d.ls && sameL sameCh (chs c.cs hs) (chs d.cs gs) && sameL sameRt c.rs d.rs

theorem row4_rt {w W : World} {B k : Nat} {ad : Addr} {rs : List Rt} (h : Rows4 w B (some ad) (rs.map Rt.cells)) (hk : k < rs.length) (hb : ∀ p : Addr, p.block < B → W.cell? p = w.cell? p) :
    Four W (ad.add (k * 4)) (.string rs[k].listen) (.string rs[k].host) (.string rs[k].path) (.string rs[k].cluster) := by
  obtain ⟨ad', e, _, hc⟩ := (h.keep hb) (by rw [List.length_map]; omega)
  cases e
  exact four_of (hc k rs[k].cells (by rw [List.getElem?_map, List.getElem?_eq_getElem hk]; rfl)) rfl

theorem rt_cases (x y : Rt) : (sameRt x y = true ∧ x.listen.toList = y.listen.toList ∧ x.host.toList = y.host.toList ∧ x.path.toList = y.path.toList ∧ x.cluster.toList = y.cluster.toList) ∨
    (sameRt x y = false ∧ ((¬ x.listen.toList = y.listen.toList) ∨ (x.listen.toList = y.listen.toList ∧ ¬ x.host.toList = y.host.toList) ∨ (x.listen.toList = y.listen.toList ∧ x.host.toList = y.host.toList ∧ ¬ x.path.toList = y.path.toList) ∨
      (x.listen.toList = y.listen.toList ∧ x.host.toList = y.host.toList ∧ x.path.toList = y.path.toList ∧ ¬ x.cluster.toList = y.cluster.toList))) := by
  unfold sameRt eqB
  by_cases h1 : x.listen.toList = y.listen.toList <;> by_cases h2 : x.host.toList = y.host.toList <;> by_cases h3 : x.path.toList = y.path.toList <;> by_cases h4 : x.cluster.toList = y.cluster.toList <;> simp [h1, h2, h3, h4]

set_option maxHeartbeats 4000000 in
theorem sameConfigs_is (c d : Cfg) (hs gs : List (List Bool)) (w : World) (hc : CfgIn w w.heap.size c) (hd : CfgIn w w.heap.size d) (hh : HealthIn w w.heap.size c.cs hs) (hg : HealthIn w w.heap.size d.cs gs) :
    Calls Try.prog 14 #[c.val, d.val] w (Says w (sameCfg c hs d gs)) := by
  have hm1 : c.rs.length ≤ 9223372036854775807 := Nat.le_trans hc.rl hc.rm
  have hm2 : d.rs.length ≤ 9223372036854775807 := Nat.le_trans hd.rl hd.rm
  have HC := Lib.hid hc
  have HD := Lib.hid hd
  have HH := Lib.hid hh
  have HG := Lib.hid hg
  clear hc hd hh hg
  have TB := Lib.hid (two_boxes w (.slice c.la c.ls.length c.lc) (.slice c.ra c.rs.length c.rc) (.slice c.ca c.cs.length c.cc) (.slice d.la d.ls.length d.lc) (.slice d.ra d.rs.length d.rc) (.slice d.ca d.cs.length d.cc) 26)
  obtain ⟨w2, hw2⟩ : ∃ w2, (w.alloc (.cells #[.slice c.la c.ls.length c.lc, .slice c.ra c.rs.length c.rc, .slice c.ca c.cs.length c.cc] 26)).alloc (.cells #[.slice d.la d.ls.length d.lc, .slice d.ra d.rs.length d.rc, .slice d.ca d.cs.length d.cc] 26) = w2 := ⟨_, rfl⟩
  have B0 : Below w.heap.size w w2 := by rw [← hw2]; exact below_alloc (boxed w _) (Nat.le_refl _)
  rw [hw2] at TB
  have t1 := fun W (hW : Below w.heap.size w W) => sameTexts_is c.la d.la c.lc d.lc w.heap.size w.heap.size c.ls d.ls W (Nat.le_trans HC.out.ll HC.out.lm) (Nat.le_trans HD.out.ll HD.out.lm) (HC.out.pl.below hW) (HD.out.pl.below hW)
  have t2 := fun W (hW : Below w.heap.size w W) => sameClusters_is c.ca d.ca c.cc d.cc w.heap.size w.heap.size c.cs d.cs hs gs W (Nat.le_trans HC.out.cl HC.out.cm) (Nat.le_trans HD.out.cl HD.out.cm) (fun x hx => (HC.out.wf x hx).2.2) (HC.out.pc.below hW) (HD.out.pc.below hW) (HH.out.below hW) (HG.out.below hW)
  obtain ⟨R, hR⟩ : ∃ R, sameCfg c hs d gs = R := ⟨_, rfl⟩
  rw [hR]
  have HR := Lib.hid hR
  clear hR
  obtain ⟨b1, h1⟩ : ∃ b, sameL eqB c.ls d.ls = b := ⟨_, rfl⟩
  obtain ⟨b2, h2⟩ : ∃ b, sameL sameCh (chs c.cs hs) (chs d.cs gs) = b := ⟨_, rfl⟩
  rw [h1] at t1
  rw [h2] at t2
  have H1 := Lib.hid h1
  have H2 := Lib.hid h2
  clear h1 h2
  obtain ⟨b3, hb3⟩ : ∃ b, (c.rs.length == d.rs.length) = b := ⟨_, rfl⟩
  have hb3' : ((c.rs.length : Int) != (d.rs.length : Int)) = !b3 := by
    rw [← hb3, bne]
    congr 1
    rw [Bool.eq_iff_iff, beq_iff_eq, beq_iff_eq]
    omega
  have T1 := Lib.hid t1
  have T2 := Lib.hid t2
  have BB := Lib.hid B0
  have h1 := T1.out w2 B0
  obtain ⟨⟨f0, f1, f2⟩, g0, g1, g2⟩ := TB.out w2 (Below.refl _ _)
  clear t1 t2
  unfold Cfg.val
  cases b1 with
  | false =>
    go_enter Try.func14, Try.ntmps14
    go_wp2_with fail
    refine h1.mono ?_
    rintro e W ⟨rfl, kk⟩
    clear f0 f1 f2 g0 g1 g2 h1
    go_wp2_with fail
    go_ret
    exact ⟨ret_bool (by rw [← HR.out, sameCfg, H1.out]; rfl), below_next B0 kk⟩
  | true =>
  go_enter Try.func14, Try.ntmps14
  go_wp2_with fail
  refine h1.mono ?_
  rintro e W ⟨rfl, kk⟩
  have h2 := T2.out W (below_next B0 kk)
  clear f0 f1 f2 g0 g1 g2 h1
  obtain ⟨⟨f0, f1, f2⟩, g0, g1, g2⟩ := TB.out W kk
  clear hw2
  go_wp2_with fail
  refine h2.mono ?_
  rintro e W3 ⟨rfl, kk3⟩
  have k3 := kk.trans (kk3.mono kk.size)
  clear f0 f1 f2 g0 g1 g2 h2 kk kk3 T1 T2
  obtain ⟨⟨f0, f1, f2⟩, g0, g1, g2⟩ := TB.out W3 k3
  cases b2 with
  | false =>
    go_wp2_with fail
    go_ret
    exact ⟨ret_bool (by rw [← HR.out, sameCfg, H1.out, H2.out]; rfl), below_next B0 k3⟩
  | true =>
  cases b3 with
  | false =>
    simp only [Bool.not_false] at hb3'
    have HF : Hid (sameL sameRt c.rs d.rs = false) := Lib.hid (sameL_len (by simpa using hb3))
    go_wp2_with fail
    go_ret
    exact ⟨ret_bool (by rw [← HR.out, sameCfg, H1.out, H2.out, HF.out]; rfl), below_next B0 k3⟩
  | true =>
    simp only [Bool.not_true] at hb3'
    have hxy : c.rs.length = d.rs.length := by simpa using hb3
    have HXY := Lib.hid hxy
    clear hxy
    go_wp2_with fail
    clear hb3 hb3'
    have F3 := Lib.hid (⟨⟨f0, f1, f2⟩, g0, g1, g2⟩ : (_ ∧ _ ∧ _) ∧ _ ∧ _ ∧ _)
    clear f0 f2 g0 g2
    go_loopw [5] (fun i wr => ∃ k : Nat, k ≤ c.rs.length ∧ i = .int .i64 k ∧ (∀ j (h : j < c.rs.length) (h' : j < d.rs.length), j < k → sameRt c.rs[j] d.rs[j] = true) ∧ ∃ n, wr = W3.drewN n) (fun i _ => c.rs.length - (intOf i).toNat)
    case atStart => exact ⟨0, by omega, rfl, fun j _ _ h0 => by omega, 0, rfl⟩
    case round =>
      obtain ⟨k, hk, rfl, hno, n, rfl⟩ := hrel
      have HN := Lib.hid hno
      clear hno
      by_cases hlt : k < c.rs.length
      · have hlt' : k < d.rs.length := by rw [← HXY.out]; exact hlt
        obtain ⟨ad, e⟩ : ∃ ad, c.ra = some ad := by obtain ⟨ad, e, _⟩ := HC.out.pr (by rw [List.length_map]; omega); exact ⟨ad, e⟩
        obtain ⟨ad', e'⟩ : ∃ ad, d.ra = some ad := by obtain ⟨ad, e, _⟩ := HD.out.pr (by rw [List.length_map]; omega); exact ⟨ad, e⟩
        have p1 := HC.out.pr
        have p2 := HD.out.pr
        rw [e] at p1 f1
        rw [e'] at p2 g1
        obtain ⟨x0, x1, x2, x3⟩ := row4_rt (W := W3) p1 hlt (fun q hq => (BB.out.trans (k3.mono BB.out.size)).cell hq)
        obtain ⟨y0, y1, y2, y3⟩ := row4_rt (W := W3) p2 hlt' (fun q hq => (BB.out.trans (k3.mono BB.out.size)).cell hq)
        clear p1 p2 e e'
        rcases rt_cases c.rs[k] d.rs[k] with ⟨hb, q1, q2, q3, q4⟩ | ⟨hb, q⟩
        · have HB := Lib.hid hb
          clear hb
          generalize c.rs[k] = x at x0 x1 x2 x3 q1 q2 q3 q4
          generalize d.rs[k] = y at y0 y1 y2 y3 q1 q2 q3 q4
          go_wp2_with fail
          go_quiet (fail)
          go_wp2_with fail
          go_roundw
          case rel => exact ⟨k + 1, by omega, by go_num, fun j h h' hj => by
            rcases Nat.lt_or_ge j k with e | e
            · exact HN.out j h h' e
            · obtain rfl : j = k := by omega
              exact HB.out, _, rfl⟩
          case measure => simp [intOf]; omega
        · have HF := Lib.hid (sameL_at hlt hlt' hb)
          clear hb
          generalize c.rs[k] = x at x0 x1 x2 x3 q
          generalize d.rs[k] = y at y0 y1 y2 y3 q
          rcases q with q1 | ⟨q1, q2⟩ | ⟨q1, q2, q3⟩ | ⟨q1, q2, q3, q4⟩
          all_goals
            go_wp2_with fail
            go_quiet (fail)
            go_wp2_with fail
            go_ret
            exact ⟨ret_bool (by rw [← HR.out, sameCfg, H1.out, H2.out, HF.out]; rfl), below_drewN (below_drewN (below_next B0 k3) _) _⟩
      · have HE := Lib.hid (sameL_all (p := sameRt) HXY.out fun i h h' => HN.out i h h' (by omega))
        go_wp2_with fail
        go_ret
        exact ⟨ret_bool (by rw [← HR.out, sameCfg, H1.out, H2.out, HE.out]; rfl), below_drewN (below_next B0 k3) _⟩
end Go.Proofs.Ytknjdaokidcllaa

/- Snapshots in memory. -/
namespace Go.Proofs.Ytknjdaokidcllaa
open Go.RowKit
set_option linter.unusedVariables false
set_option linter.unusedSimpArgs false

/-- A snapshot's three lists, and where they lie. -/
structure Sn where
  la : Option Addr
  lc : Nat
  ls : List ByteArray
  ra : Option Addr
  rc : Nat
  rs : List Rl
  ca : Option Addr
  cc : Nat
  cs : List Cl
def Sn.val (s : Sn) : Value := .agg #[.slice s.la s.ls.length s.lc, .slice s.ra s.rs.length s.rc, .slice s.ca s.cs.length s.cc]
/-- It lies below block B. -/
structure SnIn (w : World) (B : Nat) (s : Sn) : Prop where
  pl : Reads w B s.la (s.ls.map Value.string)
  pr : Rows4 w B s.ra (s.rs.map Rl.cells)
  pc : Rows4 w B s.ca (s.cs.map Cl.cells)
  ll : s.ls.length ≤ s.lc
  rl : s.rs.length ≤ s.rc
  cl : s.cs.length ≤ s.cc
  lm : s.lc ≤ maxLen
  rm : s.rc ≤ maxLen
  cm : s.cc ≤ maxLen
  wf : ∀ x ∈ s.cs, x.wf
section
variable {w w' : World} {B B' : Nat} {s : Sn}
theorem SnIn.keep (h : SnIn w B s) (hk : ∀ p : Addr, p.block < B → w'.cell? p = w.cell? p) : SnIn w' B s :=
  ⟨h.pl.keep hk, h.pr.keep hk, h.pc.keep hk, h.ll, h.rl, h.cl, h.lm, h.rm, h.cm, h.wf⟩
theorem SnIn.more (h : SnIn w B s) (hB : B ≤ B') : SnIn w B' s := ⟨h.pl.more hB, h.pr.more hB, h.pc.more hB, h.ll, h.rl, h.cl, h.lm, h.rm, h.cm, h.wf⟩
theorem SnIn.below (h : SnIn w B s) (hb : Below B w w') : SnIn w' B s := h.keep fun _ hp => hb.cell hp
theorem SnIn.next (h : SnIn w w.heap.size s) (hb : Below w.heap.size w w') : SnIn w' w'.heap.size s := (h.below hb).more hb.size
theorem SnIn.rules (h : SnIn w B s) : RulesIn w B s.ra s.rc s.rs := ⟨h.pr, h.rl, h.rm⟩
end
def sameSn (c : Sn) (hs : List (List Bool)) (d : Sn) (gs : List (List Bool)) : Bool := sameL eqB c.ls d.ls && sameL sameCh (chs c.cs hs) (chs d.cs gs) && sameL sameRl c.rs d.rs
theorem row4_rl {w W : World} {B k : Nat} {ad : Addr} {rs : List Rl} (h : Rows4 w B (some ad) (rs.map Rl.cells)) (hk : k < rs.length) (hb : ∀ p : Addr, p.block < B → W.cell? p = w.cell? p) :
    Four W (ad.add (k * 4)) (.int .i64 rs[k].listen) (.string rs[k].host) (.string rs[k].path) (.int .i64 rs[k].cluster) := by
  obtain ⟨ad', e, _, hc⟩ := (h.keep hb) (by rw [List.length_map]; omega)
  cases e
  exact four_of (hc k rs[k].cells (by rw [List.getElem?_map, List.getElem?_eq_getElem hk]; rfl)) rfl
theorem rl_cases (x y : Rl) : (sameRl x y = true ∧ x.listen = y.listen ∧ x.host.toList = y.host.toList ∧ x.path.toList = y.path.toList ∧ x.cluster = y.cluster) ∨
    (sameRl x y = false ∧ ((¬ x.listen = y.listen) ∨ (x.listen = y.listen ∧ ¬ x.host.toList = y.host.toList) ∨ (x.listen = y.listen ∧ x.host.toList = y.host.toList ∧ ¬ x.path.toList = y.path.toList) ∨
      (x.listen = y.listen ∧ x.host.toList = y.host.toList ∧ x.path.toList = y.path.toList ∧ ¬ x.cluster = y.cluster))) := by
  unfold sameRl eqB
  by_cases h1 : x.listen = y.listen <;> by_cases h2 : x.host.toList = y.host.toList <;> by_cases h3 : x.path.toList = y.path.toList <;> by_cases h4 : x.cluster = y.cluster <;> simp [h1, h2, h3, h4]
end Go.Proofs.Ytknjdaokidcllaa

/- Clusters that say the same, in other memory: what may be said of the ones may be said of the others. No word of the program. -/
namespace Go.Proofs.Ytknjdaokidcllaa
open Go.RowKit
set_option linter.unusedVariables false
set_option linter.unusedSimpArgs false

theorem findI_map {α β : Type} (f : α → β) (p : β → Bool) (l : List α) : findI p (l.map f) = findI (fun x => p (f x)) l := by
  induction l with
  | nil => rfl
  | cons a l ih => simp only [List.map_cons, findI, ih]
theorem numC_names (cs : List Cl) (s : ByteArray) : numC cs s = findI (fun x => eqB x s) (cs.map Cl.name) := (findI_map Cl.name (fun x => eqB x s) cs).symm
theorem hasC_names (cs : List Cl) (s : ByteArray) : hasC cs s = (cs.map Cl.name).any fun x => eqB x s := by rw [List.any_map]; rfl
theorem nameC_names (cs : List Cl) (i : Int) : nameC cs i = nameL (cs.map Cl.name) i := by
  unfold nameC nameL
  split
  · rw [List.getD, List.getD, List.getElem?_map]
    cases cs[i.toNat]? <;> rfl
  · rfl

section
variable {cs ds es : List Cl}
theorem Alike.symm (h : Alike cs ds) : Alike ds cs := Eq.symm h
theorem Alike.trans (h : Alike cs ds) (h' : Alike ds es) : Alike cs es := Eq.trans h h'
theorem Alike.len (h : Alike cs ds) : cs.length = ds.length := by simpa using congrArg List.length h
theorem Alike.names (h : Alike cs ds) : cs.map Cl.name = ds.map Cl.name := by
  have := congrArg (List.map Cl.name) h
  rw [List.map_map, List.map_map] at this
  exact this
theorem Alike.num (h : Alike cs ds) (s : ByteArray) : numC cs s = numC ds s := by rw [numC_names, numC_names, h.names]
theorem Alike.has (h : Alike cs ds) (s : ByteArray) : hasC cs s = hasC ds s := by rw [hasC_names, hasC_names, h.names]
theorem Alike.name (h : Alike cs ds) (i : Int) : nameC cs i = nameC ds i := by rw [nameC_names, nameC_names, h.names]
theorem Alike.rules (h : Alike cs ds) (ls : List ByteArray) (rs : List Rt) : rulesI ls rs cs = rulesI ls rs ds := by
  unfold rulesI
  exact List.map_congr_left fun r _ => by unfold ruleI; rw [h.num]
theorem Alike.routes (h : Alike cs ds) (ls : List ByteArray) (l : List Rl) : routesI ls l cs = routesI ls l ds := by
  unfold routesI
  exact List.map_congr_left fun r _ => by unfold routeI; rw [h.name]
theorem Alike.chs (h : Alike cs ds) (hs : List (List Bool)) : chs cs hs = chs ds hs := by
  have key : ∀ (cs : List Cl) (hs : List (List Bool)), Go.Proofs.Ytknjdaokidcllaa.chs (cs.map Cl.bare) hs = Go.Proofs.Ytknjdaokidcllaa.chs cs hs := by
    intro cs hs
    unfold Go.Proofs.Ytknjdaokidcllaa.chs
    rw [List.zipWith_map_left]
    rfl
  rw [← key cs hs, show cs.map Cl.bare = ds.map Cl.bare from h, key]
/-- What hangs on no memory holds of all the ones, if of all the others. -/
theorem Alike.all (h : Alike cs ds) {p : Cl → Prop} (hp : ∀ x, p x ↔ p x.bare) (hall : ∀ x ∈ ds, p x) : ∀ x ∈ cs, p x := fun x hx => by
  have : x.bare ∈ cs.map Cl.bare := List.mem_map.2 ⟨x, hx, rfl⟩
  rw [show cs.map Cl.bare = ds.map Cl.bare from h] at this
  obtain ⟨y, hy, e⟩ := List.mem_map.1 this
  rw [hp, ← e, ← hp]
  exact hall y hy
theorem Alike.wf (h : Alike cs ds) (hw : ∀ x ∈ ds, x.wf) : ∀ x ∈ cs, x.wf := h.all (fun x => Iff.rfl) hw
theorem Alike.good (h : Alike cs ds) {ls : List ByteArray} {rs : List Rt} (g : Good ls rs ds) : Good ls rs cs := by
  refine ⟨fits_iff.2 (by rw [h.len]; exact fits_iff.1 g.fits), g.l, g.l2, h.all (p := fun x => goodC x = true) (fun x => Iff.rfl) g.c, ?_, fun r hr => ?_, g.r2⟩
  · have h1 := g.c2
    have e : ∀ l : List Cl, l.Pairwise (fun o r => eqB o.name r.name = false) ↔ (l.map Cl.name).Pairwise (fun o r => eqB o r = false) := fun l => by rw [List.pairwise_map]
    rw [e] at h1 ⊢
    rwa [h.names]
  · have := g.r r hr
    unfold goodR at this ⊢
    rwa [h.has]
theorem Alike.ok (h : Alike cs ds) {ls : List ByteArray} {rs : List Rt} : ((checkI ls rs cs).1 == 0) = ((checkI ls rs ds).1 == 0) := by
  rw [Bool.eq_iff_iff, beq_iff_eq, beq_iff_eq, good_iff, good_iff]
  exact ⟨h.symm.good, h.good⟩
end

/-! A store into another block. -/
section
variable {w : World} {B g o : Nat} {A : Option Addr} {u : Value}
theorem Reads.apart {xs : List Value} (h : Reads w B A xs) (hA : ∀ ad, A = some ad → ad.block ≠ g) : Reads (w.setCell ⟨g, o, none⟩ u) B A xs := fun hn => by
  obtain ⟨ad, e, hb, hc⟩ := h hn
  exact ⟨ad, e, hb, fun j v hv => (World.cell?_of_block (Below.heap_setCell _ _ _ _ (by rw [block_of_add]; exact hA ad e))).trans (hc j v hv)⟩
theorem Rows4.apart {rs : List (List Value)} (h : Rows4 w B A rs) (hA : ∀ ad, A = some ad → ad.block ≠ g) : Rows4 (w.setCell ⟨g, o, none⟩ u) B A rs := fun hn => by
  obtain ⟨ad, e, hb, hc⟩ := h hn
  exact ⟨ad, e, hb, fun i r hr j v hv => (World.cell?_of_block (Below.heap_setCell _ _ _ _ (by rw [block_of_add]; exact hA ad e))).trans (hc i r hr j v hv)⟩
theorem SnIn.apart {s : Sn} (h : SnIn w B s) (h1 : ∀ ad, s.la = some ad → ad.block ≠ g) (h2 : ∀ ad, s.ra = some ad → ad.block ≠ g) (h3 : ∀ ad, s.ca = some ad → ad.block ≠ g) : SnIn (w.setCell ⟨g, o, none⟩ u) B s :=
  ⟨h.pl.apart h1, h.pr.apart h2, h.pc.apart h3, h.ll, h.rl, h.cl, h.lm, h.rm, h.cm, h.wf⟩
theorem CfgIn.apart {c : Cfg} (h : CfgIn w B c) (h1 : ∀ ad, c.la = some ad → ad.block ≠ g) (h2 : ∀ ad, c.ra = some ad → ad.block ≠ g) (h3 : ∀ ad, c.ca = some ad → ad.block ≠ g) : CfgIn (w.setCell ⟨g, o, none⟩ u) B c :=
  ⟨h.pl.apart h1, h.pr.apart h2, h.pc.apart h3, h.ll, h.rl, h.cl, h.lm, h.rm, h.cm, h.wf⟩
theorem HealthIn.apart {cs : List Cl} {hs : List (List Bool)} (h : HealthIn w B cs hs) (h1 : ∀ x ∈ cs, ∀ ad, x.ha = some ad → ad.block ≠ g) : HealthIn (w.setCell ⟨g, o, none⟩ u) B cs hs :=
  ⟨h.len, fun i hi hi' => ⟨(h.at_ i hi hi').1, (h.at_ i hi hi').2.apart (h1 _ (List.getElem_mem hi))⟩⟩
theorem size_cell (w : World) (p : Addr) (u : Value) : (w.setCell p u).heap.size = w.heap.size := by simp [World.setCell]
end
end Go.Proofs.Ytknjdaokidcllaa
