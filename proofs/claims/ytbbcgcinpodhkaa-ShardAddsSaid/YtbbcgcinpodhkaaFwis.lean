/- shard.Is of the program, and the tests it is made of. -/
import Derived.Test.YtbbcgcinpodhkaaFsum
namespace Go.Proofs.Ytbbcgcinpodhkaa
open Go.RowKit
set_option linter.unusedVariables false
set_option linter.unusedSimpArgs false
set_option maxRecDepth 100000

def mayB (t : Int) : Bool := decide (1 ≤ t) && decide (t ≤ 8)
def hasB (n i : Int) : Bool := decide (0 ≤ i) && decide (i < n)
theorem maybe11_is (t : Int) (w : World) : Calls Try.prog 20 #[.int .i64 t] w fun e w' => e = .returned (.bool (mayB t)) ∧ w' = w := by
  unfold mayB
  obtain ⟨d1, hd1⟩ : ∃ d, decide (1 ≤ t) = d := ⟨_, rfl⟩
  obtain ⟨d2, hd2⟩ : ∃ d, decide (t ≤ 8) = d := ⟨_, rfl⟩
  rw [hd1, hd2]
  cases d1 <;> cases d2
  all_goals
    go_enter Try.func20, Try.ntmps20
    go_wp2_with fail
    go_ret
    exact ⟨rfl, rfl⟩
theorem has11_is (n i : Int) (w : World) : Calls Try.prog 18 #[.int .i64 n, .int .i64 i] w fun e w' => e = .returned (.bool (hasB n i)) ∧ w' = w := by
  unfold hasB
  obtain ⟨d1, hd1⟩ : ∃ d, decide (0 ≤ i) = d := ⟨_, rfl⟩
  obtain ⟨d2, hd2⟩ : ∃ d, decide (i < n) = d := ⟨_, rfl⟩
  rw [hd1, hd2]
  cases d1 <;> cases d2
  all_goals
    go_enter Try.func18, Try.ntmps18
    go_wp2_with fail
    go_ret
    exact ⟨rfl, rfl⟩

theorem is11_is (A : Option Addr) (c : Nat) (rs : List Rw) (w : World) (h : GridIn .u64 w A c rs) :
    Calls Try.prog 16 #[.slice A rs.length c] w fun e w' => e = .returned (.bool (isC (valsOf rs))) ∧ w' = w := by
  have m1 := Nat.le_trans h.lc h.cm
  unfold maxLen at m1
  have H := Lib.hid h
  clear h
  have hmay := maybe11_is (rs.length : Int) w
  obtain ⟨m, hm⟩ : ∃ m, mayB (rs.length : Int) = m := ⟨_, rfl⟩
  rw [hm] at hmay
  have HM : Hid ((decide (1 ≤ rs.length) && decide (rs.length ≤ 8)) = m) := Lib.hid (by
    rw [← hm]
    unfold mayB
    congr 1
    · rw [Bool.eq_iff_iff, decide_eq_true_eq, decide_eq_true_eq]; omega
    · rw [Bool.eq_iff_iff, decide_eq_true_eq, decide_eq_true_eq]; omega)
  clear hm
  cases m with
  | false =>
    have HF : Hid (false = isC (valsOf rs)) := Lib.hid (by unfold isC; rw [vals_len, HM.out, Bool.and_false])
    go_enter Try.func16, Try.ntmps16
    go_wp2_with fail
    refine hmay.mono ?_
    rintro e w' ⟨rfl, rfl⟩
    clear hmay
    go_wp2_with fail
    go_ret
    exact ⟨ret_bool HF.out, rfl⟩
  | true =>
    go_enter Try.func16, Try.ntmps16
    go_wp2_with fail
    refine hmay.mono ?_
    rintro e w' ⟨rfl, rfl⟩
    clear hmay
    go_wp2_with fail
    go_loopg [11] rs.length (fun g i wr => ∃ k : Nat, k ≤ rs.length ∧ g = rs.length - k ∧ i = .int .i64 k ∧ (valsOf (rs.take k)).all (fun r => decide (r.length = 6)) = true ∧ wr = w')
    case atStart => exact ⟨0, Nat.zero_le _, rfl, rfl, rfl, rfl⟩
    case round =>
      obtain ⟨k, hk, rfl, rfl, hno, rfl⟩ := hrel
      have HN := Lib.hid hno
      clear hno
      by_cases hlt : k < rs.length
      · have t1 : decide ((k : Int) < (rs.length : Int)) = true := by rw [decide_eq_true_eq]; omega
        have t1' : decide (k < rs.length) = true := decide_eq_true hlt
        obtain ⟨ad, rfl, _, f0, hrw⟩ := H.out.row hlt
        have hnx := all_take (p := fun r => decide (r.length = 6)) hlt
        have hms := all_miss (p := fun r => decide (r.length = 6)) hlt
        obtain ⟨x, hx⟩ : ∃ x, rs[k] = x := ⟨_, rfl⟩
        rw [hx] at f0 hnx hms hrw
        have HNX := Lib.hid hnx
        have HMS := Lib.hid hms
        have hxl : x.l.length ≤ 9223372036854775807 := by have := Nat.le_trans hrw.lc hrw.cm; unfold maxLen at this; omega
        clear hx hnx hms hrw
        by_cases h6 : x.l.length = 6
        · have t2 : ((x.l.length : Int) != 6) = false := by rw [h6]; rfl
          have t3 : decide (x.l.length = 6) = true := decide_eq_true h6
          have T3 := Lib.hid t3
          clear h6 t3
          go_wp2_with fail
          go_roundg (rs.length - (k + 1))
          case measure => omega
          case rel => exact ⟨k + 1, by omega, rfl, by go_num, by rw [HNX.out, HN.out, T3.out]; rfl, rfl⟩
        · have t2 : ((x.l.length : Int) != 6) = true := by rw [bne_iff_ne]; omega
          have HF : Hid (false = isC (valsOf rs)) := Lib.hid (by unfold isC; rw [HMS.out (decide_eq_false h6)]; rfl)
          clear h6
          go_wp2_with fail
          go_ret
          exact ⟨ret_bool HF.out, rfl⟩
      · obtain rfl : k = rs.length := by omega
        have t1 : decide ((rs.length : Int) < (rs.length : Int)) = false := by rw [decide_eq_false_iff_not]; omega
        have t1' : decide (rs.length < rs.length) = false := by rw [decide_eq_false_iff_not]; omega
        rw [List.take_length] at HN
        have HF : Hid (true = isC (valsOf rs)) := Lib.hid (by
          unfold isC
          rw [HN.out, vals_len, HM.out]
          rfl)
        go_wp2_with fail
        go_ret
        exact ⟨ret_bool HF.out, rfl⟩
end Go.Proofs.Ytbbcgcinpodhkaa
