/- names.Parts: all parts, in a row of the call's own. -/
import Derived.Test.YtkdiefpajljppaaNhost
import Derived.Test.YtkdiefpajljppaaOwn
import Derived.Maps.AppendAt
namespace Go.Proofs.Ytkdiefpajljppaa
open Go.RowKit Go.Shelf
attribute [local go_sem] Oper.semAt_some
set_option linter.unusedVariables false
set_option linter.unusedSimpArgs false
set_option maxRecDepth 100000

theorem str_info : (Try.prog.info? 9).map (fun i => (i.zero, i.size, i.bytes)) = some (some (.string ⟨#[]⟩), 1, 16) := by kernel_rfl

/-- The call answers a row of its own of just these texts; nothing that was there has turned. -/
def RowOf (w : World) (xs : List ByteArray) (e : Ending) (w' : World) : Prop :=
  ∃ v, e = .returned v ∧ Go.Proofs.Ytkdiefpajljppaa.Own 9 w.heap.size w' v (xs.map Value.string) ∧ Below w.heap.size w w'

theorem Two.grown {B : Nat} {W W' : World} {row : Option Nat} (hg : W.grownBy W' row) (hB : B + 2 ≤ W.heap.size) (hr : ∀ k, row = some k → k < B ∨ B + 2 ≤ k) : Two B W W' :=
  ⟨World.cell?_of_block (hg.block B (by omega) (fun e => by have := hr B e.symm; omega)), World.cell?_of_block (hg.block (B + 1) (by omega) (fun e => by have := hr (B + 1) e.symm; omega))⟩
theorem ownsRow_less {W : World} {b b' : Nat} {e : TypeId} {size : Nat} {v : Value} {n : Nat} {xs : List Value} (h : W.ownsRow b e size v n xs) (hb : b' ≤ b) : W.ownsRow b' e size v n xs := by
  obtain ⟨h1, h2⟩ := h
  refine ⟨h1, ?_⟩
  rcases h2 with h2 | ⟨g, cap, cur, hv, hg, r⟩
  · exact Or.inl h2
  · exact Or.inr ⟨g, cap, cur, hv, by omega, r⟩

set_option maxHeartbeats 2000000 in
theorem parts_is (s : ByteArray) (b : Int) (w : World) (h : s.size ≤ 2000) : Calls Try.prog 18 #[.string s, .int .u8 b] w (RowOf w (partsB s b)) := by
  obtain ⟨i0, hi, hz0, hz1, hz2⟩ := info_parts str_info
  have hlen := partsB_count s b
  refine (callsIn_wide (n := 3)).1 ?_
  have hF : ∀ g, Fence.wide.fn g := fun _ => trivial
  refine callsIn_of_wp_marks Try.func18 rfl (hF _) ?_ rfl
  simp only [Try.ntmps18, List.size_toArray, List.length_cons, List.length_nil, Nat.reduceAdd, Nat.reduceSub, Array.replicate_succ, Array.replicate_zero, List.push_toArray, List.append_toArray, List.nil_append, List.cons_append]
  gi_wp2_with (gi_at_call 25; refine (each_in Fence.wide _ (hF _) rfl _ _ _).mono ?_; rintro e w' ⟨rfl, rfl⟩)
  obtain ⟨w1, hw1⟩ : ∃ w1, w.alloc (.cells #[.slice none 0 0] 25) = w1 := ⟨_, rfl⟩
  have b0 : Boxed w1 w.heap.size 25 (.slice none 0 0) := by rw [← hw1]; exact Boxed.new w _ _
  have hB0 : Below w.heap.size w w1 := by rw [← hw1]; exact (Below.refl _ w).alloc (Nat.le_refl _) _
  have hs1 : w1.heap.size = w.heap.size + 1 := by rw [← hw1]; simp
  have S := each_stops Fence.wide (3 - 1) (hF _) rfl (by omega) s b (by unfold maxLen; omega) w1
  rw [hs1] at S
  rw [hw1]
  obtain ⟨w2, hw2⟩ : ∃ w2, boxes w1 s b = w2 := ⟨_, rfl⟩
  have hs2 : w2.heap.size = w.heap.size + 3 := by rw [← hw2]; simp [boxes, hs1]
  have b2 : Boxed w2 w.heap.size 25 (.slice none 0 0) := by rw [← hw2]; exact (b0.alloc _).alloc _
  have hB2 : Below w.heap.size w w2 := by rw [← hw2]; exact (hB0.alloc (by omega) _).alloc (by simp; omega) _
  rw [hw2] at S ⊢
  have HZ2 := Lib.hid hs2
  clear hw1 hw2 b0 hB0 hs1 hs2
  refine wpIn_rangeFunc_ownG (F := Fence.wide) rfl (by omega) (gf := 29) (lb := #[.pointer (some ⟨w.heap.size + 1, 0, none⟩), .pointer (some ⟨w.heap.size + 1 + 1, 0, none⟩)]) rfl (hF _) (enters_of Try.func29 (by kernel_rfl) rfl)
    S Two.trans (Two.putObj (by rw [HZ2.out]; omega)) (Below.refl _ _) (fun _ => rfl)
    (fun pre W => (∃ v, Boxed W w.heap.size 25 v ∧ W.ownsRow (w.heap.size + 3) 9 1 v (pre.map Value.string).length (pre.map Value.string) ∧ True) ∧ Below w.heap.size w W ∧ w.heap.size + 3 ≤ W.heap.size)
    (fun _ _ _ => False)
    (OwnFrom.and (Own.from (holdsRow_own (w.heap.size + 3) w.heap.size 25 9 1 (fun pre => (pre.map Value.string).length) (fun pre : List ByteArray => pre.map Value.string) (fun _ _ => True)) _) (OwnFrom.and (ownFrom_below (Nat.le_refl _) (by rw [HZ2.out]; omega)) (ownFrom_size _ _)))
    (fun _ _ _ _ _ hs _ _ => hs)
    ⟨⟨_, b2, World.ownsRow_nil _ _ _ _, trivial⟩, hB2, by rw [HZ2.out]; omega⟩
    (fun x => { tmps := #[.string s, .int .u8 b, undef, undef, .slice none 0 0, .pointer (some ⟨w.heap.size, 0, none⟩), .string x, .string s, .int .u8 b, .func (.func 29) #[] #[.pointer (some ⟨w.heap.size + 1, 0, none⟩), .pointer (some ⟨w.heap.size + 1 + 1, 0, none⟩)], .string x, undef, undef, undef, undef, undef], defers := [] }) ?assign ?body ?done ?stop
  case assign =>
    intro l x W K hK
    gi_wp2
    exact hK
  case body =>
    rintro l pre x W ⟨⟨v, hv, hrow, _⟩, hB, hsz⟩ hlt
    have hc := hv.cell
    have hpl : (pre.map Value.string).length = pre.length := by simp
    rw [hpl] at hrow
    have HPL := Lib.hid hpl
    clear hpl
    gi_wp2_with (gi_at_builtin; refine wpListIn_append_own _ rfl _ _ 25 rfl (w.heap.size + 3) 9 i0 (.string ⟨#[]⟩) 1 16 Try.underlying25 hi hz0 hz1 hz2 rfl (by decide) _ _ _ rfl (hrow.alloc _) ⟨W.heap.size, 0, none⟩ 1 1 [.string x] rfl rfl (cell_one_new _ _ _) (by simp [Value.oneCell']) (by unfold maxLen; omega) (by omega) (by simp; omega) ?_; intro v' w1 hown' hgrow _; obtain ⟨g', cap', rfl⟩ := ownsRow_succ hown'; obtain ⟨hv1, hv2, hr2, hk2, hb2⟩ := hv.appended (n₀ := w.heap.size) (by decide) (ownsRow_less hrow (by omega)) (by omega) (Nat.le_refl _) (ownsRow_less hown' (by omega)) hgrow; have hc1 := hv1.cell; have hf1 := hv1.frozen)
    have hr3 := hown'.kept (grownBy_setCell' w1 w.heap.size (.slice (some ⟨g', 0, none⟩) (pre.length + 1) cap')) (.inr (hv1.not_row (by decide) hown').symm)
    have hlt1 := hrow.lt
    have hg1 := hgrow.size
    rw [World.size_alloc] at hg1
    exact ⟨hk2.from _, ((Two.grown (World.grownBy_alloc W _ none) (by omega) (fun k e => by cases e)).trans (Two.grown hgrow (by rw [World.size_alloc]; omega) (fun k e => .inr (by have := (hlt1 k e).1; omega)))).trans (Two.grown (grownBy_setCell' _ _ _) (by omega) (fun k e => by cases e; exact .inl (by omega))),
      ⟨_, hv2, by simpa using hr3, trivial⟩, hB.trans hb2, by rw [size_setCell]; omega⟩
  case done =>
    rintro D ys W hD rfl ⟨⟨v, hv, hrow, _⟩, hB, hsz⟩ hK
    rw [HZ2.out] at hD
    have hc := hv.cell
    gi_wp2
    refine ⟨by simp, .inl ⟨_, _, rfl, run_takeDeferred hK, ?_⟩⟩
    exact ⟨_, results_tmp rfl _ _ _, v, rfl, ownsRow_less (ownsRow_putObj hrow _ hK rfl) (by omega), hB.trans (belowK_b (w := w) (Nat.le_refl _) W D _ _ (by omega) hK rfl rfl)⟩
  case stop =>
    rintro D c pre W _ _ h _
    exact h.elim
end Go.Proofs.Ytkdiefpajljppaa
