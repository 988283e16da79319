/- The document's Fair and Most. -/
import Derived.Test.YthheehcdicaggaaDref
namespace Go.Proofs.Ythheehcdicaggaa
open Go.RowKit
set_option linter.unusedVariables false
set_option linter.unusedSimpArgs false
set_option maxRecDepth 100000

theorem range_all {p : Nat → Bool} {k : Nat} : (List.range (k + 1)).all p = ((List.range k).all p && p k) := by
  rw [List.range_succ, List.all_append]
  simp
set_option maxHeartbeats 4000000 in
theorem rfair_is (A : Option Addr) (c : Nat) (l : List Int) (t b : Int) (w : World) (hr : Reads w w.heap.size A (l.map (Value.int .i64))) (hl : l.length ≤ 100000) (hlc : l.length ≤ c) (hcm : c ≤ maxLen) (ht : t < 9223372036854775808) (hb : b < 9223372036854775808) :
    Calls Try.prog 15 #[.slice A l.length c, .int .i64 t, .int .i64 b] w fun e w' => e = .returned (.bool (fairI l t b)) ∧ w' = w := by
  have HR := Lib.hid hr
  unfold maxLen at hcm
  clear hr
  obtain ⟨R, hR⟩ : ∃ R, fairI l t b = R := ⟨_, rfl⟩
  rw [hR]
  unfold fairI at hR
  by_cases h1 : t < 1
  · have t1 : decide (t < 1) = true := decide_eq_true h1
    have HF : Hid (R = false) := Lib.hid (by rw [← hR, show decide (1 ≤ t) = false by rw [decide_eq_false_iff_not]; omega]; rfl)
    clear h1 hR
    go_enter Try.func15, Try.ntmps15
    go_wp2_with fail
    go_ret
    exact ⟨ret_bool HF.out.symm, rfl⟩
  have t1 : decide (t < 1) = false := decide_eq_false h1
  by_cases h2 : b < 1
  · have t2 : decide (b < 1) = true := decide_eq_true h2
    have HF : Hid (R = false) := Lib.hid (by rw [← hR, show decide (1 ≤ b) = false by rw [decide_eq_false_iff_not]; omega, Bool.and_false]; rfl)
    clear h1 h2 hR
    go_enter Try.func15, Try.ntmps15
    go_wp2_with fail
    go_ret
    exact ⟨ret_bool HF.out.symm, rfl⟩
  have t2 : decide (b < 1) = false := decide_eq_false h2
  obtain ⟨T, rfl⟩ : ∃ T : Nat, t = (T : Int) := ⟨t.toNat, by omega⟩
  obtain ⟨b, rfl⟩ : ∃ b' : Nat, b = (b' : Int) := ⟨b.toNat, by omega⟩
  rw [decide_eq_true (show (1 : Int) ≤ T by omega), decide_eq_true (show (1 : Int) ≤ b by omega), Int.toNat_natCast, Int.toNat_natCast] at hR
  have HRR := Lib.hid (show fairN l T b = R from hR)
  have hb1 : 1 ≤ b := by omega
  obtain ⟨M, hM⟩ : ∃ M, l.length + 1 - b = M := ⟨_, rfl⟩
  have HM := Lib.hid hM
  clear hR h1 h2 hM
  go_enter Try.func15, Try.ntmps15
  go_wp2_with fail
  go_loopg [7] M (fun g i wr => ∃ k : Nat, k ≤ M ∧ g = M - k ∧ i = .int .i64 k ∧ (List.range k).all (fun i => winOk l T b i) = true ∧ wr = w)
  case atStart => exact ⟨0, Nat.zero_le _, rfl, rfl, rfl, rfl⟩
  case round =>
    obtain ⟨k, hk, rfl, rfl, hall, rfl⟩ := hrel
    have HA := Lib.hid hall
    clear hall
    have hs : (k : Int) + (b : Int) < 9223372036854775808 := by have := HM.out; omega
    by_cases hkM : k < M
    · have hkb : k + b ≤ l.length := by have := HM.out; omega
      have t3 : decide ((k : Int) + (b : Int) ≤ (l.length : Int)) = true := by rw [decide_eq_true_eq]; omega
      have t4 : decide ((b : Int) ≤ (l.length : Int)) = true := by rw [decide_eq_true_eq]; omega
      have t4' : decide (b ≤ l.length) = true := by rw [decide_eq_true_eq]; omega
      have HSU := Lib.hid (range_all (p := fun i => winOk l T b i) (k := k))
      have HNO : Hid (winOk l T b k = false → R = false) := Lib.hid fun h => by
        rw [← HRR.out]
        unfold fairN
        rw [List.all_eq_false]
        exact ⟨k, List.mem_range.2 (by have := HM.out; omega), by rw [h]; decide⟩
      have HLEN : Hid (((l.drop k).take b).length = b) := Lib.hid (by rw [List.length_take, List.length_drop]; omega)
      go_wp2_with fail
      go_loopg [8] T (fun g i wi => ∃ q : Nat, q ≤ T ∧ g = T - q ∧ i = .int .i64 q ∧ (List.range q).all (fun t => hasI ((l.drop k).take b) t) = true ∧ wi = wr)
      case atStart => exact ⟨0, Nat.zero_le _, rfl, rfl, rfl, rfl⟩
      case round =>
        obtain ⟨q, hq, rfl, rfl, hin, rfl⟩ := hrel
        have HI := Lib.hid hin
        clear hin
        by_cases hqT : q < T
        · have t5 : decide ((q : Int) < (T : Int)) = true := by rw [decide_eq_true_eq]; omega
          have t5' : decide (q < T) = true := by rw [decide_eq_true_eq]; omega
          have hkc : k + b ≤ c := by omega
          obtain ⟨ad, rfl, hadb, _⟩ := HR.out.int (k := 0) (by omega)
          have hcall := rhas_is (some (ad.add k)) (c - k) wr.heap.size ((l.drop k).take b) (q : Int) wr (by rw [List.map_take, List.map_drop]; exact reads_part HR.out k b) (by rw [HLEN.out]; omega)
          rw [HLEN.out] at hcall
          have HSQ := Lib.hid (range_all (p := fun t => hasI ((l.drop k).take b) (t : Nat)) (k := q))
          have HNQ : Hid (hasI ((l.drop k).take b) (q : Int) = false → R = false) := Lib.hid fun h => HNO.out (by
            unfold winOk
            rw [List.all_eq_false]
            exact ⟨q, List.mem_range.2 hqT, by rw [h]; decide⟩)
          obtain ⟨d, hd⟩ : ∃ d, hasI ((l.drop k).take b) (q : Int) = d := ⟨_, rfl⟩
          rw [hd] at hcall HNQ
          have HD := Lib.hid hd
          clear hd
          go_wp2_with fail
          refine hcall.mono ?_
          rintro e w' ⟨rfl, rfl⟩
          clear hcall
          cases d with
          | true =>
            go_wp2_with fail
            go_roundg (T - (q + 1))
            case measure => omega
            case rel => exact ⟨q + 1, by omega, rfl, by go_num, by rw [HSQ.out, HI.out, HD.out]; rfl, rfl⟩
          | false =>
            go_wp2_with fail
            go_ret
            exact ⟨ret_bool (HNQ.out (by trivial)).symm, rfl⟩
        · obtain rfl : q = T := by omega
          have t5 : decide ((q : Int) < (q : Int)) = false := by rw [decide_eq_false_iff_not]; omega
          go_wp2_with fail
          go_roundg (M - (k + 1))
          case measure => omega
          case rel => exact ⟨k + 1, by omega, rfl, by go_num, by rw [HSU.out, HA.out, winOk, HI.out]; rfl, rfl⟩
    · have t3 : decide ((k : Int) + (b : Int) ≤ (l.length : Int)) = false := by rw [decide_eq_false_iff_not]; have := HM.out; omega
      have HF : Hid (true = R) := Lib.hid (by
        rw [← HRR.out]
        unfold fairN
        rw [show l.length + 1 - b = k by have := HM.out; omega, HA.out])
      go_wp2_with fail
      go_ret
      exact ⟨ret_bool HF.out, rfl⟩

set_option maxHeartbeats 4000000 in
theorem rmost_is (A : Option Addr) (c : Nat) (l : List Int) (t : Int) (w : World) (hr : Reads w w.heap.size A (l.map (Value.int .i64))) (hl : l.length ≤ 100000) (hlc : l.length ≤ c) (hcm : c ≤ maxLen) (ht : t < 9223372036854775808) :
    Calls Try.prog 17 #[.slice A l.length c, .int .i64 t] w fun e w' => e = .returned (.int .i64 (mostI l t)) ∧ w' = w := by
  have hfair := fun (b : Nat) (hb : b ≤ 100000) => rfair_is A c l t (b : Int) w hr hl hlc hcm ht (by omega)
  unfold mostI
  by_cases h1 : t < 1
  · have t1 : decide (t < 1) = true := decide_eq_true h1
    rw [if_pos h1]
    clear h1 hfair
    go_enter Try.func17, Try.ntmps17
    go_wp2_with fail
    go_ret
    exact ⟨rfl, rfl⟩
  have t1 : decide (t < 1) = false := decide_eq_false h1
  rw [if_neg h1]
  have HF := Lib.hid hfair
  have HF1 : Hid (∀ b : Nat, 1 ≤ b → fairI l t b = fairN l t.toNat b) := Lib.hid fun b hb => by
    unfold fairI
    rw [decide_eq_true (show (1 : Int) ≤ t by omega), decide_eq_true (show (1 : Int) ≤ b by omega)]
    rfl
  obtain ⟨R, hR⟩ : ∃ R, mostF l t.toNat l.length 1 = R := ⟨_, rfl⟩
  rw [hR]
  have HRR := Lib.hid hR
  clear hfair hR hr h1
  go_enter Try.func17, Try.ntmps17
  go_wp2_with fail
  go_loopg [5] l.length (fun g i wr => ∃ k : Nat, k ≤ l.length ∧ g = l.length - k ∧ i = .int .i64 ((k : Int) + 1) ∧ mostF l t.toNat (l.length - k) (k + 1) = R ∧ wr = w)
  case atStart => exact ⟨0, Nat.zero_le _, rfl, rfl, HRR.out, rfl⟩
  case round =>
    obtain ⟨k, hk, rfl, rfl, hm, rfl⟩ := hrel
    have HM := Lib.hid hm
    clear hm
    by_cases hlt : k < l.length
    · have t2 : decide ((k : Int) + 1 ≤ (l.length : Int)) = true := by rw [decide_eq_true_eq]; omega
      have hcall := HF.out (k + 1) (by omega)
      have hst : (if fairN l t.toNat (k + 1) then k + 1 else mostF l t.toNat (l.length - (k + 1)) (k + 1 + 1)) = R := by
        rw [← HM.out, show l.length - k = (l.length - (k + 1)) + 1 by omega]
        rfl
      rw [HF1.out (k + 1) (by omega)] at hcall
      rw [show (((k + 1 : Nat)) : Int) = (k : Int) + 1 by omega] at hcall
      obtain ⟨d, hd⟩ : ∃ d, fairN l t.toNat (k + 1) = d := ⟨_, rfl⟩
      rw [hd] at hcall hst
      clear hd
      cases d with
      | true =>
        have HS : Hid ((R : Int) = (k : Int) + 1) := Lib.hid (by rw [← hst, if_pos rfl]; omega)
        clear hst
        go_wp2_with fail
        refine hcall.mono ?_
        rintro e w' ⟨rfl, rfl⟩
        clear hcall
        go_wp2_with fail
        go_ret
        exact ⟨by rw [HS.out]; rfl, rfl⟩
      | false =>
        have HS : Hid (mostF l t.toNat (l.length - (k + 1)) (k + 1 + 1) = R) := Lib.hid (by rw [← hst, if_neg (by decide)])
        clear hst
        go_wp2_with fail
        refine hcall.mono ?_
        rintro e w' ⟨rfl, rfl⟩
        clear hcall
        go_wp2_with fail
        go_roundg (l.length - (k + 1))
        case measure => omega
        case rel => exact ⟨k + 1, by omega, rfl, by go_num, HS.out, rfl⟩
    · have t2 : decide ((k : Int) + 1 ≤ (l.length : Int)) = false := by rw [decide_eq_false_iff_not]; omega
      have HS : Hid ((R : Int) = (l.length : Int) + 1) := Lib.hid (by
        rw [← HM.out, show l.length - k = 0 by omega]
        show ((k + 1 : Nat) : Int) = _
        omega)
      go_wp2_with fail
      go_ret
      exact ⟨by rw [HS.out]; rfl, rfl⟩
end Go.Proofs.Ythheehcdicaggaa
