/- script.Picks: bytes read as numbers, by the program. -/
import Derived.Test.YtmjdamcbdclgpaaQwnum
import Derived.Test.YtmjdamcbdclgpaaNhost
import Derived.Maps.AppendAt
namespace Go.Proofs.Ytmjdamcbdclgpaa
open Go.RowKit Go.Shelf
attribute [local go_sem] Oper.semAt_some
set_option linter.unusedVariables false
set_option linter.unusedSimpArgs false
set_option maxRecDepth 100000

/-! What the numbers that were told say of what is answered. -/
theorem told_split {b : List Int} {pre t : List (Int × Int)} (h : told b = pre ++ t) (hok : ∀ x ∈ pre, x.2 = 0) :
    ∃ b', told b' = t ∧ ∀ ls : List Int, ls.length + pre.length ≤ 4000 → goesOn ls b = goesOn (ls ++ pre.map Prod.fst) b' := by
  induction pre generalizing b with
  | nil => exact ⟨b, h, fun ls _ => by simp⟩
  | cons x pre ih =>
    have hb : b ≠ [] := fun e => by rw [e, told_nil] at h; cases h
    rcases hd : dec1 9 b with _ | ⟨m, r⟩
    · rw [told_bad hb hd] at h
      injection h with h1 h2
      have := hok x (List.mem_cons_self ..)
      rw [← h1] at this
      cases this
    · rw [told_next hb hd] at h
      injection h with h1 h2
      obtain ⟨b', e1, e2⟩ := ih h2 fun y hy => hok y (List.mem_cons_of_mem _ hy)
      refine ⟨b', e1, fun ls hl => ?_⟩
      rw [List.length_cons] at hl
      rw [goes_next (by omega) hb hd, e2 _ (by rw [List.length_append, List.length_singleton]; omega), ← h1]
      simp
theorem told_none {b : List Int} (h : told b = []) : b = [] := by
  cases b with
  | nil => rfl
  | cons x b =>
    rcases hd : dec1 9 (x :: b) with _ | ⟨m, r⟩
    · rw [told_bad (by simp) hd] at h; cases h
    · rw [told_next (by simp) hd] at h; cases h
theorem picks_all {b : List Int} (hok : ∀ x ∈ told b, x.2 = 0) (hl : (told b).length ≤ 4000) : picksI b = ((told b).map Prod.fst, 0) := by
  obtain ⟨b', e1, e2⟩ := told_split (b := b) (pre := told b) (t := []) (by simp) hok
  rw [← goes_start, e2 [] (by simpa using hl), told_none e1, goes_end, List.nil_append]
theorem picks_stop {b : List Int} {pre t : List (Int × Int)} {x : Int × Int} (h : told b = pre ++ x :: t) (hok : ∀ y ∈ pre, y.2 = 0) (hl : pre.length ≤ 4000) (hx : x.2 ≠ 0) : picksI b = ([], x.2) := by
  obtain ⟨b', e1, e2⟩ := told_split h hok
  have hb : b' ≠ [] := fun e => by rw [e, told_nil] at e1; cases e1
  rw [← goes_start, e2 [] (by simpa using hl)]
  rcases hd : dec1 9 b' with _ | ⟨m, r⟩
  · rw [told_bad hb hd] at e1
    injection e1 with e1 _
    rw [goes_bad _ hb hd, ← e1]
  · rw [told_next hb hd] at e1
    injection e1 with e1 _
    rw [← e1] at hx
    exact absurd rfl hx
theorem picks_full {b : List Int} {pre t : List (Int × Int)} {x : Int × Int} (h : told b = pre ++ x :: t) (hok : ∀ y ∈ pre, y.2 = 0) (hl : pre.length = 4000) (hx : x.2 = 0) : picksI b = ([], 6) := by
  obtain ⟨b', e1, e2⟩ := told_split h hok
  have hb : b' ≠ [] := fun e => by rw [e, told_nil] at e1; cases e1
  rw [← goes_start, e2 [] (by simp; omega)]
  rcases hd : dec1 9 b' with _ | ⟨m, r⟩
  · rw [told_bad hb hd] at e1
    injection e1 with e1 _
    rw [← e1] at hx
    cases hx
  · exact goes_full (by simpa using hl) hb hd

/-- What script.numbers hands back tells the numbers, in their order; or some of them, where a round has said 'no more'. -/
theorem numbers_stops (n : Nat) (hn : 1 ≤ n) (B0 : Nat) (A : Option Addr) (c : Nat) (b : List Int) (hb : ∀ x ∈ b, 0 ≤ x ∧ x < 256) (hlc : b.length ≤ c) (hcm : c ≤ maxLen) (w : World) (hin : Reads w B0 A (b.map (Value.int .u8))) (hB : B0 ≤ w.heap.size) :
    SeqStopsK Fence.wide n Try.prog 42 #[.pointer (some ⟨w.heap.size, 0, none⟩)]
      (fun x : Int × Int => #[Value.int .i64 x.1, Value.int .i64 x.2]) (Kept8 B0)
      (fun ys => ys = told b) (fun pre => pre <+: told b) (told b).length (w.alloc (.cells #[.slice A b.length c] 35)) := fun l J Jx W hW hJ _ hY h0 => by
  have hz : (w.alloc (.cells #[.slice A b.length c] 35)).heap.size = w.heap.size + 1 := by simp
  have hb' : Below w.heap.size w (w.alloc (.cells #[.slice A b.length c] 35)) := boxed w _
  have b0 := one_alloc w (.cells #[.slice A b.length c] 35)
  refine numbers1_in n l hn B0 w.heap.size A c b hb hlc hcm J Jx (fun pre A B hj hg => hJ pre A B none hj hg (fun r e => by cases e)) hY W ?_ ?_ h0
  · exact (hin.keep fun q hq => hb'.cell (Nat.lt_of_lt_of_le hq hB)).keep fun q hq => hW.cell (by rw [hz]; omega)
  · exact (hW.cell (p := ⟨w.heap.size, 0, none⟩) (by simp [hz])).trans (by rw [block_cell b0]; rfl)

theorem own_stay {E base : Nat} {X Y : World} {row : Option Nat} {v : Value} {xs : List Value} (h : Own E base X v xs) (hg : X.grownBy Y row) (hr : ∀ r, row = some r → ∃ o : Obj, X.heap[r]? = some o ∧ o.isCells = false) : Own E base Y v xs := by
  refine h.kept hg ?_
  rcases h.2 with ⟨rfl, _⟩ | ⟨g, cap, cur, rfl, _, hh, _⟩
  · exact .inl rfl
  · refine .inr fun e => ?_
    obtain ⟨o, ho, hc⟩ := hr g (by rw [← e]; rfl)
    rw [hh] at ho
    cases ho
    cases hc

/-- What the loop's own boxes hold between two rounds. -/
structure PickR (w W : World) (v : Value) (e : Int) : Prop where
  b2 : Boxed W w.heap.size 28 (.slice none 0 0)
  b3 : Boxed W (w.heap.size + 1) 36 (.int .i64 e)
  b4 : Boxed W (w.heap.size + 1 + 1) 28 v
  hB : Below w.heap.size w W
  hsz : w.heap.size + 4 ≤ W.heap.size
theorem PickR.stay {w : World} {v : Value} {e : Int} {X Y : World} {row : Option Nat} (hs : PickR w X v e) (hg : X.grownBy Y row) (hr : ∀ r, row = some r → w.heap.size ≤ r ∧ ∃ o : Obj, X.heap[r]? = some o ∧ o.isCells = false) : PickR w Y v e :=
  have two : ∀ {g : Nat} {cs : Array Value} {t : TypeId}, X.heap[g]? = some (.cells cs t (0, 0)) → some g ≠ row := fun {g cs t} hh e => by
    obtain ⟨_, o, ho, hc⟩ := hr g e.symm
    rw [hh] at ho
    cases ho
    cases hc
  ⟨hs.b2.kept hg (two hs.b2), hs.b3.kept hg (two hs.b3), hs.b4.kept hg (two hs.b4), ownFrom_below (β := Unit) (Nat.le_refl _) (Nat.le_refl _) () X Y row hs.hB hg hr, Nat.le_trans hs.hsz hg.size⟩
section
variable {w W : World} {v : Value} {e : Int}
theorem PickR.set (h : PickR w W v e) (e' : Int) : PickR w ((W.setCell ⟨w.heap.size, 0, none⟩ (.slice none 0 0)).setCell ⟨w.heap.size + 1, 0, none⟩ (.int .i64 e')) v e' :=
  ⟨(h.b2.set _).other (by omega) _, (h.b3.other (by omega) _).set _, (h.b4.other (by omega) _).other (by omega) _, (h.hB.setCell (p := ⟨w.heap.size, 0, none⟩) (by simp) _).setCell (p := ⟨w.heap.size + 1, 0, none⟩) (by simp) _, by rw [size_setCell, size_setCell]; exact h.hsz⟩
theorem PickR.keeps (w W : World) (v v' : Value) (B : Nat) : KeepsFrom B W ((W.setCell ⟨w.heap.size, 0, none⟩ v).setCell ⟨w.heap.size + 1, 0, none⟩ v') := ((KeepsOthers.setCell _ _ _).trans (KeepsOthers.setCell _ _ _)).from B
end
def PickI (w : World) (pre : List (Int × Int)) (W : World) : Prop := ∃ v, PickR w W v 0 ∧ Own 3 (w.heap.size + 4) W v ((pre.map Prod.fst).map (Value.int .i64)) ∧ (∀ x ∈ pre, x.2 = 0) ∧ pre.length ≤ 4000
def PickX (w : World) (c : Code) (ps : List (Int × Int)) (W : World) : Prop := c = .ret ∧ ∃ v e, PickR w W v e ∧ ∃ pre x, ps = pre ++ [x] ∧ (∀ y ∈ pre, y.2 = 0) ∧ pre.length ≤ 4000 ∧ ((x.2 ≠ 0 ∧ e = x.2) ∨ (x.2 = 0 ∧ pre.length = 4000 ∧ e = 6))
theorem pickI_own (w : World) {B : Nat} (hB : w.heap.size ≤ B) : OwnFrom B (PickI w) := fun s X Y row hs hg hr => by
  obtain ⟨v, h1, h2, h3⟩ := hs
  exact ⟨v, h1.stay hg fun r e => ⟨Nat.le_trans hB (hr r e).1, (hr r e).2⟩, own_stay h2 hg fun r e => (hr r e).2, h3⟩
theorem pickX_own (w : World) (c : Code) {B : Nat} (hB : w.heap.size ≤ B) : OwnFrom B (PickX w c) := fun s X Y row hs hg hr => by
  obtain ⟨h0, v, e, h1, h2⟩ := hs
  exact ⟨h0, v, e, h1.stay hg fun r e => ⟨Nat.le_trans hB (hr r e).1, (hr r e).2⟩, h2⟩

set_option maxHeartbeats 4000000 in
theorem picks8_is (A : Option Addr) (c : Nat) (b : List Int) (w : World) (hr : Reads w w.heap.size A (b.map (Value.int .u8))) (hlc : b.length ≤ c) (hcm : c ≤ maxLen) (hb : ∀ x ∈ b, 0 ≤ x ∧ x < 256) :
    Calls Try.prog 17 #[.slice A b.length c] w (Wrote w .i64 (picksI b)) := by
  obtain ⟨ib, hib, hb0, hb1, hb2⟩ := info_parts int8_info
  have IB := Lib.hid (⟨hib, hb0, hb1, hb2⟩ : _ ∧ _ ∧ _ ∧ _)
  clear hib hb0 hb1 hb2
  have hmx : Try.prog.follows .mixedOrders = true := by kernel_rfl
  refine (callsIn_wide (n := 4)).1 ?_
  refine callsIn_of_wp_marks Try.func17 rfl trivial ?_ rfl
  simp only [Try.ntmps17, List.size_toArray, List.length_cons, List.length_nil, Nat.reduceAdd, Nat.reduceSub, Array.replicate_succ, Array.replicate_zero, List.push_toArray, List.append_toArray, List.nil_append, List.cons_append]
  gi_wp2_with fail
  refine ⟨trivial, (numbers_in _ _ _ _ _).mono ?_⟩
  rintro e w' ⟨rfl, rfl⟩
  gi_wp2_with fail
  obtain ⟨w3, hw3⟩ : ∃ w3, ((w.alloc (.cells #[.slice none 0 0] 28)).alloc (.cells #[.int .i64 0] 36)).alloc (.cells #[.slice none 0 0] 28) = w3 := ⟨_, rfl⟩
  have hz3 : w3.heap.size = w.heap.size + 1 + 1 + 1 := by rw [← hw3]; simp
  have hB3 : Below w.heap.size w w3 := by rw [← hw3]; exact below_alloc (below_alloc (boxed w _) (Nat.le_refl _)) (Nat.le_refl _)
  have b2 : Boxed w3 w.heap.size 28 (.slice none 0 0) := by rw [← hw3]; exact ((Boxed.new w _ _).alloc _).alloc _
  have b3 : Boxed w3 (w.heap.size + 1) 36 (.int .i64 0) := by
    rw [← hw3]
    have := (Boxed.new (w.alloc (.cells #[.slice none 0 0] 28)) 36 (.int .i64 0)).alloc (.cells #[.slice none 0 0] 28)
    rwa [World.size_alloc] at this
  have b4 : Boxed w3 (w.heap.size + 1 + 1) 28 (.slice none 0 0) := by
    rw [← hw3]
    have := Boxed.new ((w.alloc (.cells #[.slice none 0 0] 28)).alloc (.cells #[.int .i64 0] 36)) 28 (.slice none 0 0)
    rwa [World.size_alloc, World.size_alloc] at this
  have S := numbers_stops (4 - 1) (by omega) w.heap.size A c b hb hlc hcm w3 (hr.below hB3) hB3.size
  rw [hw3]
  rw [hz3] at S
  obtain ⟨w4, hw4⟩ : ∃ w4, w3.alloc (.cells #[.slice A b.length c] 35) = w4 := ⟨_, rfl⟩
  have hz4 : w4.heap.size = w.heap.size + 4 := by rw [← hw4]; simp [hz3]
  have hB4 : Below w.heap.size w w4 := by rw [← hw4]; exact below_next hB3 (boxed w3 _)
  have b2' : Boxed w4 w.heap.size 28 (.slice none 0 0) := by rw [← hw4]; exact b2.alloc _
  have b3' : Boxed w4 (w.heap.size + 1) 36 (.int .i64 0) := by rw [← hw4]; exact b3.alloc _
  have b4' : Boxed w4 (w.heap.size + 1 + 1) 28 (.slice none 0 0) := by rw [← hw4]; exact b4.alloc _
  rw [hw4] at S ⊢
  have HZ4 := Lib.hid hz4
  clear hw3 hw4 b2 b3 b4 hB3 hz3 hz4 hr
  refine wpIn_rangeFunc_ownG (F := Fence.wide) rfl (by omega) (gf := 42)
    (lb := #[.pointer (some ⟨w.heap.size + 1 + 1 + 1, 0, none⟩)]) rfl trivial (enters_of Try.func42 (by kernel_rfl) rfl)
    S Kept8.trans (Kept8.putObj (by rw [HZ4.out]; omega)) (Below.refl _ _) (fun _ => rfl)
    (PickI w) (PickX w) (pickI_own w (by rw [HZ4.out]; omega)) (fun c => pickX_own w c (by rw [HZ4.out]; omega))
    ⟨_, ⟨b2', b3', b4', hB4, by rw [HZ4.out]; omega⟩, Own.nil, (fun _ h => absurd h (by simp)), by simp⟩
    (fun x => { tmps := #[.slice A b.length c, undef, .pointer (some ⟨w.heap.size, 0, none⟩), .pointer (some ⟨w.heap.size + 1, 0, none⟩), .pointer (some ⟨w.heap.size + 1 + 1, 0, none⟩), .int .i64 x.1, .int .i64 x.2, .slice A b.length c, .func (.func 42) #[] #[.pointer (some ⟨w.heap.size + 1 + 1 + 1, 0, none⟩)], .int .i64 x.1, .int .i64 x.2, undef, undef, undef, undef, undef, undef, undef, undef, undef, undef, undef], defers := [] }) ?assign ?body ?done ?stop
  case assign =>
    intro l x W K hK
    gi_wp2
    exact hK
  case body =>
    rintro l pre x W ⟨v, hP, hown, hok, hlen⟩ hlt
    have hF : ∀ g, Fence.wide.fn g := fun _ => trivial
    have hln : ((pre.map Prod.fst).map (Value.int .i64)).length = pre.length := by simp
    obtain ⟨x1, x2⟩ := x
    by_cases hx : x2 = 0
    · subst hx
      obtain ⟨A5, c5, rfl⟩ := Own.slice hown
      rw [hln] at hP hown
      have e4 := hP.b4.cell
      by_cases hfull : pre.length = 4000
      · have t2 : ((pre.length : Int) == 4000) = true := by rw [hfull]; rfl
        have e2 := hP.b2.cell
        have e3 := hP.b3.cell
        have z2 := hP.b2.frozen
        have z3 := hP.b3.frozen
        have HPP := Lib.hid hP
        clear hP hown
        gi_wp2_with fail
        exact ⟨PickR.keeps w W _ _ _, rfl, _, _, HPP.out.set 6, pre, (x1, 0), rfl, hok, hlen, .inr ⟨rfl, hfull, rfl⟩⟩
      · have t2 : ((pre.length : Int) == 4000) = false := by
          rw [beq_eq_false_iff_ne]; omega
        have HPP := Lib.hid hP
        have HOK := Lib.hid hok
        have hv := hP.b4
        have hrow : W.ownsRow (w.heap.size + 4) 3 1 (.slice A5 pre.length c5) pre.length ((pre.map Prod.fst).map (Value.int .i64)) := by have := hown; unfold Go.Proofs.Ytmjdamcbdclgpaa.Own at this; rwa [hln] at this
        clear hP hok hown
        gi_wp2_with (gi_at_builtin; refine wpListIn_append_own _ rfl _ _ 28 rfl (w.heap.size + 4) 3 ib (.int .i64 0) 1 8 Try.underlying28 IB.out.1 IB.out.2.1 IB.out.2.2.1 IB.out.2.2.2 rfl (by decide) _ _ _ rfl (hrow.alloc _) ⟨W.heap.size, 0, none⟩ 1 1 [.int .i64 x1] rfl rfl (cell_one_new _ _ _) (by simp [Value.oneCell']) (by unfold maxLen; omega) (by omega) (by have := HPP.out.hsz; simp; omega) ?_; intro v' w1 hown' hgrow _; obtain ⟨g', cap', rfl⟩ := ownsRow_succ hown'; obtain ⟨hv1, hv2, hr2, hk2, hb2⟩ := hv.appended (n₀ := w.heap.size) (by decide) (ownsRow_less hrow (by omega)) (by have := HPP.out.hsz; omega) (by omega) (ownsRow_less hown' (by omega)) hgrow; have hc1 := hv1.cell; have hf1 := hv1.frozen)
        have hr3 := hown'.kept (grownBy_setCell' w1 (w.heap.size + 1 + 1) (.slice (some ⟨g', 0, none⟩) (pre.length + 1) cap')) (.inr (hv1.not_row (by decide) hown').symm)
        have k2 := ((HPP.out.b2.alloc _).kept hgrow (HPP.out.b2.not_row (by decide) hrow)).other (B' := w.heap.size + 1 + 1) (by omega) (.slice (some ⟨g', 0, none⟩) (pre.length + 1) cap')
        have k3 := ((HPP.out.b3.alloc _).kept hgrow (HPP.out.b3.not_row (by decide) hrow)).other (B' := w.heap.size + 1 + 1) (by omega) (.slice (some ⟨g', 0, none⟩) (pre.length + 1) cap')
        refine ⟨hk2.from _, Kept8.below hb2 (Nat.le_refl _), _, ⟨k2, k3, hv2, HPP.out.hB.trans hb2, Nat.le_trans HPP.out.hsz hb2.size⟩, ?_, fun y hy => ?_, by rw [List.length_append, List.length_singleton]; omega⟩
        · unfold Go.Proofs.Ytmjdamcbdclgpaa.Own
          rw [List.map_append, List.map_append, List.length_append, hln]
          exact hr3
        · rcases List.mem_append.1 hy with h | h
          · exact HOK.out y h
          · rw [List.mem_singleton] at h
            rw [h]
    · have t1 : (x2 != 0) = true := by simpa using hx
      have e2 := hP.b2.cell
      have e3 := hP.b3.cell
      have z2 := hP.b2.frozen
      have z3 := hP.b3.frozen
      have HPP := Lib.hid hP
      clear hP hown
      gi_wp2_with fail
      exact ⟨PickR.keeps w W _ _ _, rfl, _, _, HPP.out.set x2, pre, (x1, x2), rfl, hok, hlen, .inl ⟨hx, rfl⟩⟩
  case done =>
    rintro D ys W hD rfl ⟨v, hP, hown, hok, hlen⟩ hK
    rw [HZ4.out] at hD
    have HQ := Lib.hid (picks_all hok hlen)
    obtain ⟨A5, c5, rfl⟩ := Own.slice hown
    have hln : (((told b).map Prod.fst).map (Value.int .i64)).length = (told b).length := by simp
    rw [hln] at hP hown
    have e2 := hP.b2.cell
    have e3 := hP.b3.cell
    have e4 := hP.b4.cell
    have z2 := hP.b2.frozen
    have z3 := hP.b3.frozen
    have HPP := Lib.hid hP
    have n2 := own_apart (P := Try.prog) hown hP.b2 (by decide)
    have n3 := own_apart (P := Try.prog) hown hP.b3 (by decide)
    have hown3 := (hown.kept (grownBy_setCell' W w.heap.size (.slice A5 (told b).length c5)) (.inr n2)).kept (grownBy_setCell' _ (w.heap.size + 1) (.int .i64 0)) (.inr n3)
    have HO := Lib.hid hown3
    clear hP hok hlen hown hown3 n2 n3
    gi_wp2_with fail
    obtain ⟨W5, hW5⟩ : ∃ W5, (W.setCell ⟨w.heap.size, 0, none⟩ (.slice A5 (told b).length c5)).setCell ⟨w.heap.size + 1, 0, none⟩ (.int .i64 0) = W5 := ⟨_, rfl⟩
    have q2 : Boxed W5 w.heap.size 28 (.slice A5 (told b).length c5) := by rw [← hW5]; exact (HPP.out.b2.set _).other (by omega) _
    have q3 : Boxed W5 (w.heap.size + 1) 36 (.int .i64 0) := by rw [← hW5]; exact (HPP.out.b3.other (by omega) _).set _
    have hB5 : Below w.heap.size w W5 := by rw [← hW5]; exact (HPP.out.hB.setCell (p := ⟨w.heap.size, 0, none⟩) (by simp) _).setCell (p := ⟨w.heap.size + 1, 0, none⟩) (by simp) _
    have hK5 : W5.heap[D]? = some (.deferred (some [])) := by rw [← hW5]; exact ((KeepsOthers.setCell W ⟨w.heap.size, 0, none⟩ (.slice A5 (told b).length c5)).trans (KeepsOthers.setCell _ ⟨w.heap.size + 1, 0, none⟩ (.int .i64 0))).same D _ hK rfl
    have HO5 := HO.out
    rw [hW5] at HO5 ⊢
    refine ⟨by simp, .inl ⟨_, _, rfl, run_takeDeferred hK5, ?_⟩⟩
    have c2 := cell_kept q2.cell (grownBy_putObj' _ D (.deferred none)) (fun r e => by cases e; exact ⟨_, hK5, rfl⟩)
    have c3 := cell_kept q3.cell (grownBy_putObj' _ D (.deferred none)) (fun r e => by cases e; exact ⟨_, hK5, rfl⟩)
    refine ⟨.tuple #[.slice A5 (told b).length c5, .int .i64 0], ?_, ?_⟩
    · simp [results, Try.f17, go_sem, c2, c3]
    · rw [HQ.out]
      have hle := own_le HO5
      have HO6 : Go.Proofs.Ytmjdamcbdclgpaa.Own 3 (w.heap.size + 4) (W5.putObj D (.deferred none)) (.slice A5 (told b).length c5) (((told b).map Prod.fst).map (Value.int .i64)) := ownsRow_putObj HO5 _ hK5 rfl
      exact ⟨A5, c5, by rw [List.length_map], Own.reads HO6, by rw [List.length_map]; exact hle.1, hle.2, hB5.trans (belowK_b (w := w) (Nat.le_refl _) W5 D _ _ (by omega) hK5 rfl rfl)⟩
  case stop =>
    rintro D c' ps W hD hpre ⟨rfl, v, e, hP, pre, x, rfl, hok, hlen, hcase⟩ hK
    rw [HZ4.out] at hD
    obtain ⟨t, ht⟩ := hpre
    have HQ : Hid (picksI b = ([], e)) := Lib.hid (by
      rw [List.append_assoc, List.singleton_append] at ht
      rcases hcase with ⟨h1, h2⟩ | ⟨h1, h2, h3⟩
      · rw [h2]; exact picks_stop ht.symm hok hlen h1
      · rw [h3]; exact picks_full ht.symm hok h2 h1)
    clear hcase hok hlen ht
    gi_wp2_with fail
    refine ⟨by simp, .inl ⟨_, _, rfl, run_takeDeferred hK, ?_⟩⟩
    have c2 := cell_kept hP.b2.cell (grownBy_putObj' _ D (.deferred none)) (fun r e => by cases e; exact ⟨_, hK, rfl⟩)
    have c3 := cell_kept hP.b3.cell (grownBy_putObj' _ D (.deferred none)) (fun r e => by cases e; exact ⟨_, hK, rfl⟩)
    refine ⟨.tuple #[.slice none 0 0, .int .i64 e], ?_, ?_⟩
    · simp [results, Try.f17, go_sem, c2, c3]
    · rw [HQ.out]
      exact wrote_nil (hP.hB.trans (belowK_b (w := w) (Nat.le_refl _) W D _ _ (by omega) hK rfl rfl))
end Go.Proofs.Ytmjdamcbdclgpaa
