/- names.Host: all parts between dots are names. -/
import Derived.Test.YtmjdamcbdclgpaaNeach
import Derived.Test.YtmjdamcbdclgpaaNhasN
namespace Go.Proofs.Ytmjdamcbdclgpaa
open Go.RowKit Go.Shelf
attribute [local go_sem] Oper.semAt_some
set_option linter.unusedVariables false
set_option linter.unusedSimpArgs false
set_option maxRecDepth 100000

theorem keepsFrom_below {B : Nat} {W W' : World} (h : Below W.heap.size W W') : KeepsFrom B W W' :=
  ⟨h.size, fun k o _ hk ho => (h.block k (Array.getElem?_eq_some_iff.1 hk).1).trans hk⟩
theorem boxed_below {W W' : World} {B : Nat} {t : TypeId} {v : Value} (h : Boxed W B t v) (hb : Below W.heap.size W W') : Boxed W' B t v := (hb.block B h.lt).trans h

theorem ownFrom_size {β : Type} (B n : Nat) : OwnFrom B (fun (_ : β) W => n ≤ W.heap.size) := fun _ _ _ _ hs hg _ => Nat.le_trans hs hg.size
theorem size_setCell (W : World) (a : Addr) (v : Value) : (W.setCell a v).heap.size = W.heap.size := by simp [World.setCell]

theorem host_long (s : ByteArray) (w : World) (h : 32 < s.size) : Calls Try.prog 76 #[.string s] w (Says w false) := by
  go_enter Try.func76, Try.ntmps76
  go_wp2
  exact bodyPost_ret (v := .bool false) (by simp [results, Try.f76, go_sem]) rfl ⟨rfl, ((Below.refl _ _).alloc (Nat.le_refl _) _)⟩

set_option maxHeartbeats 2000000 in
theorem host_short (s : ByteArray) (w : World) (h : s.size ≤ 32) : Calls Try.prog 76 #[.string s] w (Says w (hostB s)) := by
  refine (callsIn_wide (n := 3)).1 ?_
  have hF : ∀ g, Fence.wide.fn g := fun _ => trivial
  have h2 : decide ((32 : Int) < (s.size : Int)) = false := by simp; omega
  refine callsIn_of_wp_marks Try.func76 rfl (hF _) ?_ rfl
  simp only [Try.ntmps76, List.size_toArray, List.length_cons, List.length_nil, Nat.reduceAdd, Nat.reduceSub, Array.replicate_succ, Array.replicate_zero, List.push_toArray, List.append_toArray, List.nil_append, List.cons_append]
  gi_wp2_with (gi_at_call 83; refine (each_in Fence.wide _ (hF _) rfl _ _ _).mono ?_; rintro e w' ⟨rfl, rfl⟩)
  obtain ⟨w1, hw1⟩ : ∃ w1, w.alloc (.cells #[.bool false] 4) = w1 := ⟨_, rfl⟩
  have b0 : Boxed w1 w.heap.size 4 (.bool false) := by rw [← hw1]; exact Boxed.new w _ _
  have hB0 : Below w.heap.size w w1 := by rw [← hw1]; exact (Below.refl _ w).alloc (Nat.le_refl _) _
  have hz1 : w1.heap.size = w.heap.size + 1 := by rw [← hw1]; simp
  have S := each_stops Fence.wide (3 - 1) (hF _) rfl (by omega) s 46 (by unfold maxLen; omega) w1
  rw [hz1] at S
  rw [hw1]
  obtain ⟨w2, hw2⟩ : ∃ w2, boxes w1 s 46 = w2 := ⟨_, rfl⟩
  have hz2 : w2.heap.size = w.heap.size + 3 := by rw [← hw2]; simp [boxes, hz1]
  have b2 : Boxed w2 w.heap.size 4 (.bool false) := by rw [← hw2]; exact (b0.alloc _).alloc _
  have hB2 : Below w.heap.size w w2 := by rw [← hw2]; exact (hB0.alloc (by omega) _).alloc (by simp; omega) _
  rw [hw2] at S ⊢
  have HZ1 := Lib.hid hz1
  have HZ2 := Lib.hid hz2
  clear hw1 hw2 b0 hB0 hz1 hz2
  refine wpIn_rangeFunc_ownG (F := Fence.wide) rfl (by omega) (gf := 85) (lb := #[.pointer (some ⟨w.heap.size + 1, 0, none⟩), .pointer (some ⟨w.heap.size + 1 + 1, 0, none⟩)]) rfl (hF _) (enters_of Try.func85 (by kernel_rfl) rfl)
    S Two.trans (Two.putObj (by rw [HZ2.out]; omega)) (Below.refl _ _) (fun _ => rfl)
    (fun pre W => ((∀ y ∈ pre, nameB y = true) ∧ Boxed W w.heap.size 4 (.bool false)) ∧ Below w.heap.size w W ∧ w.heap.size + 3 ≤ W.heap.size)
    (fun c pre W => ((c = .ret ∧ ∃ y ∈ pre, nameB y = false) ∧ Boxed W w.heap.size 4 (.bool false)) ∧ Below w.heap.size w W ∧ w.heap.size + 3 ≤ W.heap.size)
    (OwnFrom.and (OwnFrom.and (ownFrom_pure _ _) (Own.from (boxed_own _ _ _) _)) (OwnFrom.and (ownFrom_below (Nat.le_refl _) (by rw [HZ2.out]; omega)) (ownFrom_size _ _)))
    (fun c => OwnFrom.and (OwnFrom.and (ownFrom_pure _ _) (Own.from (boxed_own _ _ _) _)) (OwnFrom.and (ownFrom_below (Nat.le_refl _) (by rw [HZ2.out]; omega)) (ownFrom_size _ _)))
    ⟨⟨(fun y hy => (by cases hy)), b2⟩, hB2, by rw [HZ2.out]; omega⟩
    (fun x => { tmps := #[.string s, undef, .pointer (some ⟨w.heap.size, 0, none⟩), .string x, .string s, .int .i64 s.size, .bool false, .string s, .func (.func 85) #[] #[.pointer (some ⟨w.heap.size + 1, 0, none⟩), .pointer (some ⟨w.heap.size + 1 + 1, 0, none⟩)], .string x, undef, undef, undef], defers := [] }) ?assign ?body ?done ?stop
  case assign =>
    intro l x W K hK
    gi_wp2
    exact hK
  case body =>
    rintro l pre x W ⟨⟨hp, hb⟩, hB, hsz⟩ _
    have hN := name_is x W
    obtain ⟨c, hc⟩ : ∃ c, nameB x = c := ⟨_, rfl⟩
    rw [hc] at hN
    have HC := Lib.hid hc
    clear hc
    cases c with
    | true =>
      gi_wp2_with fail
      refine (CallsIn.inRound l (callsIn_wide.2 hN)).mono ?_
      rintro e W1 ⟨rfl, hW1⟩
      gi_wp2_with fail
      exact ⟨keepsFrom_below hW1, Two.below hW1 hsz, ⟨⟨fun y hy => (List.mem_append.1 hy).elim (hp y) (fun e => by simp at e; subst e; exact HC.out), boxed_below hb hW1⟩, below_next hB hW1, Nat.le_trans hsz hW1.size⟩⟩
    | false =>
      gi_wp2_with fail
      refine (CallsIn.inRound l (callsIn_wide.2 hN)).mono ?_
      rintro e W1 ⟨rfl, hW1⟩
      have hb1 := boxed_below hb hW1
      have hc1 := hb1.cell
      have hf1 := hb1.frozen
      gi_wp2_with fail
      exact ⟨(keepsFrom_below hW1).trans ((KeepsOthers.setCell _ _ _).from _), ⟨⟨rfl, x, by simp, HC.out⟩, hb1.set _⟩, (below_next hB hW1).setCell (p := ⟨w.heap.size, 0, none⟩) (Nat.le_refl _) _, by rw [size_setCell]; exact Nat.le_trans hsz hW1.size⟩
  case done =>
    rintro D ys W hD rfl ⟨⟨hp, hb⟩, hB, hsz⟩ hK
    have hc1 := hb.cell
    have hf1 := hb.frozen
    rw [HZ2.out] at hD
    have hq : hostB s = true := by
      rw [hostB, decide_eq_true h, Bool.true_and, List.all_eq_true]; exact hp
    have HQ := Lib.hid hq
    clear hq hp
    gi_wp2_with fail
    have hb2 := hb.set (.bool true)
    have hK' := (KeepsOthers.setCell W ⟨w.heap.size, 0, none⟩ (.bool true)).same D _ hK rfl
    refine ⟨by simp, .inl ⟨_, _, rfl, run_takeDeferred hK', ?_⟩⟩
    have hc5 := cell_kept hb2.cell (grownBy_putObj' _ D (.deferred none)) (fun r e => by cases e; exact ⟨_, hK', rfl⟩)
    refine ⟨.bool true, ?_, ret_bool HQ.out.symm, (hB.setCell (p := ⟨w.heap.size, 0, none⟩) (Nat.le_refl _) _).trans (belowK_b (w := w) (Nat.le_refl _) _ D _ _ (by omega) hK' rfl rfl)⟩
    simp [results, Try.f76, go_sem, hc5]
  case stop =>
    rintro D c pre W hD hpre ⟨⟨⟨rfl, y, hy, hny⟩, hb⟩, hB, hsz⟩ hK
    rw [HZ2.out] at hD
    have hq : hostB s = false := by
      rw [hostB, Bool.and_eq_false_iff]
      refine .inr ?_
      rw [Bool.eq_false_iff]
      intro ha
      have := List.all_eq_true.1 ha y (hpre.subset hy)
      rw [hny] at this
      cases this
    have HQ := Lib.hid hq
    clear hq hny
    gi_wp2_with fail
    refine ⟨by simp, .inl ⟨_, _, rfl, run_takeDeferred hK, ?_⟩⟩
    have hc5 := cell_kept hb.cell (grownBy_putObj' _ D (.deferred none)) (fun r e => by cases e; exact ⟨_, hK, rfl⟩)
    refine ⟨.bool false, ?_, ret_bool HQ.out.symm, hB.trans (belowK_b (w := w) (Nat.le_refl _) W D _ _ (by omega) hK rfl rfl)⟩
    simp [results, Try.f76, go_sem, hc5]

theorem host_is (s : ByteArray) (w : World) : Calls Try.prog 76 #[.string s] w (Says w (hostB s)) := by
  by_cases h : 32 < s.size
  · exact (host_long s w h).mono fun _ _ k => k.of (by rw [hostB, decide_eq_false (by omega)]; rfl)
  · exact host_short s w (by omega)
end Go.Proofs.Ytmjdamcbdclgpaa
