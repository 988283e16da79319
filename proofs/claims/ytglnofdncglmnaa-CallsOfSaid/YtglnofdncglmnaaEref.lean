/- The document's place, busy, Ahead of layer 10. -/
import Derived.Test.YtglnofdncglmnaaEin
namespace Go.Proofs.Ytglnofdncglmnaa
open Go.RowKit
set_option linter.unusedVariables false
set_option linter.unusedSimpArgs false
set_option maxRecDepth 100000

def placeI (out : List Cal) (t o : Int) : Int := match placeO out t o with
  | some k => (k : Int)
  | none => -1
theorem place_at {out : List Cal} {t o : Int} {k : Nat} (hk : k < out.length) (h : keyB t o out[k] = true) (hno : ∀ j, j < k → ∀ c, out[j]? = some c → keyB t o c = false) : placeI out t o = (k : Int) := by
  unfold placeI placeO
  rw [List.findIdx?_eq_some_iff_getElem.2 ⟨hk, h, fun j hj => by rw [hno j hj _ (List.getElem?_eq_getElem (by omega))]; decide⟩]
theorem place_no {out : List Cal} {t o : Int} (hno : ∀ j, j < out.length → ∀ c, out[j]? = some c → keyB t o c = false) : placeI out t o = -1 := by
  unfold placeI placeO
  rw [List.findIdx?_eq_none_iff.2 fun c hc => by
    obtain ⟨j, hj, rfl⟩ := List.getElem_of_mem hc
    exact hno j hj _ (List.getElem?_eq_getElem hj)]

set_option maxHeartbeats 4000000 in
theorem rplace_is (A : Option Addr) (c B : Nat) (l : List Cal) (t o : Int) (w : World) (hr : RowsN 18 w B A (l.map Cal.cells)) (hl : l.length ≤ 100000) :
    Calls Try.prog 18 #[.slice A l.length c, .int .i64 t, .int .i64 o] w fun e w' => e = .returned (.int .i64 (placeI l t o)) ∧ w' = w := by
  have HR := Lib.hid hr
  clear hr
  go_enter Try.func18, Try.ntmps18
  go_wp2_with fail
  go_loopg [7] l.length (fun g i wr => ∃ k : Nat, k ≤ l.length ∧ g = l.length - k ∧ i = .int .i64 k ∧ (∀ j, j < k → ∀ c, l[j]? = some c → keyB t o c = false) ∧ wr = w)
  case atStart => exact ⟨0, Nat.zero_le _, rfl, rfl, fun j hj => by omega, rfl⟩
  case round =>
    obtain ⟨k, hk, rfl, rfl, hno, rfl⟩ := hrel
    have HN := Lib.hid hno
    clear hno
    by_cases hlt : k < l.length
    · obtain ⟨ad, rfl, _, hli⟩ := cal_of HR.out hlt
      have hyes := fun h => place_at (t := t) (o := o) hlt h HN.out
      have hnx : keyB t o l[k] = false → ∀ j, j < k + 1 → ∀ c, l[j]? = some c → keyB t o c = false := fun h j hj c hc => by
        rcases Nat.lt_or_ge j k with hjk | hjk
        · exact HN.out j hjk c hc
        · obtain rfl : j = k := by omega
          rw [List.getElem?_eq_getElem hlt] at hc
          injection hc with hc
          rw [← hc]; exact h
      obtain ⟨x, hx⟩ : ∃ x, l[k] = x := ⟨_, rfl⟩
      rw [hx] at hli hyes hnx
      obtain ⟨f0, f1, _⟩ := cal_at hli
      unfold keyB at hyes hnx
      obtain ⟨d1, hd1⟩ : ∃ d, (x.thread == t) = d := ⟨_, rfl⟩
      obtain ⟨d2, hd2⟩ : ∃ d, (x.op == o) = d := ⟨_, rfl⟩
      rw [hd1, hd2] at hyes hnx
      have HY := Lib.hid hyes
      have HX := Lib.hid hnx
      clear hli hx hyes hnx
      cases d1 with
      | false =>
        go_wp2_with fail
        go_roundg (l.length - (k + 1))
        case measure => omega
        case rel => exact ⟨k + 1, by omega, rfl, by go_num, HX.out (by simp), rfl⟩
      | true =>
      cases d2 with
      | false =>
        go_wp2_with fail
        go_roundg (l.length - (k + 1))
        case measure => omega
        case rel => exact ⟨k + 1, by omega, rfl, by go_num, HX.out (by simp), rfl⟩
      | true =>
        have HF : Hid (placeI l t o = (k : Int)) := Lib.hid (HY.out (by simp))
        go_wp2_with fail
        go_ret
        exact ⟨by rw [HF.out]; rfl, rfl⟩
    · obtain rfl : k = l.length := by omega
      have HF : Hid (placeI l t o = -1) := Lib.hid (place_no HN.out)
      go_wp2_with fail
      go_ret
      exact ⟨by rw [HF.out]; rfl, rfl⟩

set_option maxHeartbeats 4000000 in
theorem rbusy_is (A : Option Addr) (c B : Nat) (l : List Cal) (t : Int) (w : World) (hr : RowsN 18 w B A (l.map Cal.cells)) (hl : l.length ≤ 100000) :
    Calls Try.prog 19 #[.slice A l.length c, .int .i64 t] w fun e w' => e = .returned (.bool (l.any (openB t))) ∧ w' = w := by
  have HR := Lib.hid hr
  clear hr
  go_enter Try.func19, Try.ntmps19
  go_wp2_with fail
  go_loopg [5] l.length (fun g i wr => ∃ k : Nat, k ≤ l.length ∧ g = l.length - k ∧ i = .int .i64 k ∧ (l.take k).any (openB t) = false ∧ wr = w)
  case atStart => exact ⟨0, Nat.zero_le _, rfl, rfl, rfl, rfl⟩
  case round =>
    obtain ⟨k, hk, rfl, rfl, hno, rfl⟩ := hrel
    have HN := Lib.hid hno
    clear hno
    by_cases hlt : k < l.length
    · obtain ⟨ad, rfl, _, hli⟩ := cal_of HR.out hlt
      have hnx := any_next (p := openB t) hlt
      have hyes := any_hit (p := openB t) hlt
      obtain ⟨x, hx⟩ : ∃ x, l[k] = x := ⟨_, rfl⟩
      rw [hx] at hli hyes hnx
      obtain ⟨f0, _, _, _, f4, _⟩ := cal_at hli
      unfold openB at hyes hnx
      obtain ⟨d1, hd1⟩ : ∃ d, (x.thread == t) = d := ⟨_, rfl⟩
      obtain ⟨d2, hd2⟩ : ∃ d, decide (x.to < 0) = d := ⟨_, rfl⟩
      rw [hd1, hd2] at hyes hnx
      have HY := Lib.hid (show (d1 && d2) = true → l.any (openB t) = true from hyes)
      have HX := Lib.hid (show (l.take (k + 1)).any (openB t) = ((l.take k).any (openB t) || (d1 && d2)) from hnx)
      clear hli hx hyes hnx
      cases d1 with
      | false =>
        go_wp2_with fail
        go_roundg (l.length - (k + 1))
        case measure => omega
        case rel => exact ⟨k + 1, by omega, rfl, by go_num, by rw [HX.out, HN.out]; rfl, rfl⟩
      | true =>
      cases d2 with
      | false =>
        go_wp2_with fail
        go_roundg (l.length - (k + 1))
        case measure => omega
        case rel => exact ⟨k + 1, by omega, rfl, by go_num, by rw [HX.out, HN.out]; rfl, rfl⟩
      | true =>
        have HF : Hid (l.any (openB t) = true) := Lib.hid (HY.out (by simp))
        go_wp2_with fail
        go_ret
        exact ⟨ret_bool HF.out.symm, rfl⟩
    · have HF : Hid (false = l.any (openB t)) := Lib.hid (by rw [any_end hlt HN.out])
      go_wp2_with fail
      go_ret
      exact ⟨ret_bool HF.out, rfl⟩

theorem rahead_is (a b : Cal) (w : World) : Calls Try.prog 21 #[a.val, b.val] w (Says w (aheadB a b)) := by
  obtain ⟨w1, hw1⟩ : ∃ w1, w.alloc (.cells a.cells.toArray 40) = w1 := ⟨_, rfl⟩
  obtain ⟨w2, hw2⟩ : ∃ w2, w1.alloc (.cells b.cells.toArray 40) = w2 := ⟨_, rfl⟩
  have B1 : Below w.heap.size w w1 := by rw [← hw1]; exact boxed w _
  have B2 : Below w1.heap.size w1 w2 := by rw [← hw2]; exact boxed w1 _
  have hs1 : w1.heap.size = w.heap.size + 1 := by rw [← hw1]; simp
  have hl1 : Lies w2 ⟨w.heap.size, 0, none⟩ a.cells := by
    have h0 : Lies w1 ⟨w.heap.size, 0, none⟩ a.cells := by rw [← hw1]; exact lies_box w _ _
    exact h0.below (by rw [hs1]; simp) B2
  have hl2 : Lies w2 ⟨w1.heap.size, 0, none⟩ b.cells := by rw [← hw2]; exact lies_box w1 _ _
  rw [hs1] at hl2
  obtain ⟨_, _, _, _, f4, _⟩ := cal_at hl1
  obtain ⟨_, _, g2, _⟩ := cal_at hl2
  have BB := Lib.hid (below_next B1 B2)
  unfold aheadB
  obtain ⟨d1, hd1⟩ : ∃ d, (a.to != (-1 : Int)) = d := ⟨_, rfl⟩
  obtain ⟨d2, hd2⟩ : ∃ d, decide (a.to < b.frm) = d := ⟨_, rfl⟩
  rw [hd1, hd2]
  clear hl1 hl2 B1 B2
  unfold Cal.cells An.cells at hw1 hw2
  unfold Cal.val
  cases d1 <;> cases d2
  all_goals
    go_enter Try.func21, Try.ntmps21
    go_wp2_with fail
    go_ret
    exact ⟨rfl, BB.out⟩
end Go.Proofs.Ytglnofdncglmnaa
