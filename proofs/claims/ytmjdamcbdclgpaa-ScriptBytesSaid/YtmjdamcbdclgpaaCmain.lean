/- config.Check answers what checkI says. -/
import Derived.Test.YtmjdamcbdclgpaaCcheck
namespace Go.Proofs.Ytmjdamcbdclgpaa
open Go.RowKit
set_option linter.unusedVariables false
set_option linter.unusedSimpArgs false
set_option maxRecDepth 100000


structure KindsAre (c : Cfg) (w W : World) : Prop where
  below : Below w.heap.size w W
  size : W.heap.size = w.heap.size + 5
  kl : Reads W W.heap.size (some ⟨w.heap.size + 1, 0, none⟩) (fnsL c)
  kc : Reads W W.heap.size (some ⟨w.heap.size + 2, 0, none⟩) (fnsC c)
  kr : Reads W W.heap.size (some ⟨w.heap.size + 3, 0, none⟩) (fnsR c)
  p0 : W.cell? ⟨w.heap.size + 4, 0, none⟩ = some (.int .i64 c.ls.length)
  p1 : W.cell? ⟨w.heap.size + 4, 1, none⟩ = some (.slice (some ⟨w.heap.size + 1, 0, none⟩) 2 2)
  p2 : W.cell? ⟨w.heap.size + 4, 2, none⟩ = some (.int .i64 c.cs.length)
  p3 : W.cell? ⟨w.heap.size + 4, 3, none⟩ = some (.slice (some ⟨w.heap.size + 2, 0, none⟩) 5 5)
  p4 : W.cell? ⟨w.heap.size + 4, 4, none⟩ = some (.int .i64 c.rs.length)
  p5 : W.cell? ⟨w.heap.size + 4, 5, none⟩ = some (.slice (some ⟨w.heap.size + 3, 0, none⟩) 5 5)

theorem kindsW_are (c : Cfg) (w : World) : KindsAre c w (kindsW c w) := by
  unfold kindsW
  generalize hb : Obj.cells #[.slice c.la c.ls.length c.lc, .slice c.ra c.rs.length c.rc, .slice c.ca c.cs.length c.cc] 64 = box
  clear hb
  generalize hp : #[Value.int .i64 c.ls.length, .slice (some ⟨w.heap.size + 1, 0, none⟩) 2 2, .int .i64 c.cs.length, .slice (some ⟨w.heap.size + 2, 0, none⟩) 5 5, .int .i64 c.rs.length, .slice (some ⟨w.heap.size + 3, 0, none⟩) 5 5] = ps
  have hn := fun i => World.cell?_alloc_new ((((w.alloc box).alloc (.cells (fnsL c).toArray 80)).alloc (.cells (fnsC c).toArray 80)).alloc (.cells (fnsR c).toArray 80)) ps 68 i
  simp only [World.size_alloc] at hn
  subst hp
  refine ⟨below_alloc (below_alloc (below_alloc (below_alloc (boxed w box) (Nat.le_refl _)) (Nat.le_refl _)) (Nat.le_refl _)) (Nat.le_refl _), by simp only [World.size_alloc], ?_, ?_, ?_, hn 0, hn 1, hn 2, hn 3, hn 4, hn 5⟩
  · exact row_made (w.alloc box) (fnsL c) 80 _ (by simp only [World.size_alloc]) (below_alloc (below_alloc (below_alloc (Below.refl _ _) (Nat.le_refl _)) (Nat.le_refl _)) (Nat.le_refl _))
  · exact row_made ((w.alloc box).alloc (.cells (fnsL c).toArray 80)) (fnsC c) 80 _ (by simp only [World.size_alloc]) (below_alloc (below_alloc (Below.refl _ _) (Nat.le_refl _)) (Nat.le_refl _))
  · exact row_made (((w.alloc box).alloc (.cells (fnsL c).toArray 80)).alloc (.cells (fnsC c).toArray 80)) (fnsR c) 80 _ (by simp only [World.size_alloc]) (below_alloc (Below.refl _ _) (Nat.le_refl _))

theorem firstL_is (c : Cfg) (w : World) (h : CfgIn w w.heap.size c) (q : Addr) (hr : Reads w w.heap.size (some q) (fnsL c)) :
    Calls Try.prog 35 #[.agg #[.int .i64 c.ls.length, .slice (some q) 2 2]] w (Tells2 w (kindI3 (asksL c.ls) c.ls.length)) :=
  first_is c.ls.length q (fnsL c) (asksL c.ls) w (Nat.le_trans h.ll h.lm) (by simp [fnsL, maxLen]) hr (asksL_are h)
theorem firstC_is (c : Cfg) (w : World) (h : CfgIn w w.heap.size c) (q : Addr) (hr : Reads w w.heap.size (some q) (fnsC c)) :
    Calls Try.prog 35 #[.agg #[.int .i64 c.cs.length, .slice (some q) 5 5]] w (Tells2 w (kindI3 (asksC c.cs) c.cs.length)) :=
  first_is c.cs.length q (fnsC c) (asksC c.cs) w (Nat.le_trans h.cl h.cm) (by simp [fnsC, maxLen]) hr (asksC_are h)
theorem firstR_is (c : Cfg) (w : World) (h : CfgIn w w.heap.size c) (q : Addr) (hr : Reads w w.heap.size (some q) (fnsR c)) :
    Calls Try.prog 35 #[.agg #[.int .i64 c.rs.length, .slice (some q) 5 5]] w (Tells2 w (kindI3 (asksR c.ls c.rs c.cs) c.rs.length)) :=
  first_is c.rs.length q (fnsR c) (asksR c.ls c.rs c.cs) w (Nat.le_trans h.rl h.rm) (by simp [fnsR, maxLen]) hr (asksR_are h)

theorem Reads.next {W w : World} {A : Option Addr} {xs : List Value} (h : Reads W W.heap.size A xs) (hb : Below W.heap.size W w) : Reads w w.heap.size A xs := (h.below hb).more hb.size

theorem check_small (c : Cfg) (w : World) (hf : fitsB c.ls c.rs c.cs = false) : Calls Try.prog 21 #[c.val] w (Tells2 w (6, 0)) := by
  obtain ⟨la, lc, ls, ra, rc, rs, ca, cc, cs⟩ := c
  unfold Cfg.val
  simp only at hf ⊢
  have B := boxed w (.cells #[.slice la ls.length lc, .slice ra rs.length rc, .slice ca cs.length cc] 26)
  have h1 := within_is (ls.length : Int) 4
  have h2 := within_is (rs.length : Int) 8
  have h3 := within_is (cs.length : Int) 4
  unfold fitsB at hf
  obtain ⟨b1, hb1⟩ : ∃ b, withinB (ls.length : Int) 4 = b := ⟨_, rfl⟩
  obtain ⟨b2, hb2⟩ : ∃ b, withinB (rs.length : Int) 8 = b := ⟨_, rfl⟩
  obtain ⟨b3, hb3⟩ : ∃ b, withinB (cs.length : Int) 4 = b := ⟨_, rfl⟩
  rw [hb1] at h1 hf
  rw [hb2] at h2 hf
  rw [hb3] at h3 hf
  clear hb1 hb2 hb3
  cases b1 <;> cases b2 <;> cases b3
  case true.true.true => simp at hf
  all_goals
    clear hf
    go_enter Try.func21, Try.ntmps21
    go_wp2_with (go_at_call 33; first | ((with_reducible refine (h1 _).mono ?_); rintro e wx ⟨rfl, rfl⟩) | ((with_reducible refine (h2 _).mono ?_); rintro e wx ⟨rfl, rfl⟩) | ((with_reducible refine (h3 _).mono ?_); rintro e wx ⟨rfl, rfl⟩))
    go_ret2
    exact ⟨rfl, B⟩
end Go.Proofs.Ytmjdamcbdclgpaa
