/- The document's answers of layer 9: Pick, Round, Fair, Most. -/
import Derived.Test.YthheehcdicaggaaDpure
import Derived.Test.YthheehcdicaggaaNsay
import Derived.Test.YthheehcdicaggaaOuts
namespace Go.Proofs.Ythheehcdicaggaa
open Go.RowKit
set_option linter.unusedVariables false
set_option linter.unusedSimpArgs false
set_option maxRecDepth 100000

theorem num_info : (Try.prog.info? 3).map (fun i => (i.zero, i.size, i.bytes)) = some (some (.int .i64 0), 1, 8) := by kernel_rfl
/-- The call answers two numbers, and nothing that was there has turned. -/
def Two9 (w : World) (p : Int × Int) (e : Ending) (w' : World) : Prop := e = .returned (.tuple #[.int .i64 p.1, .int .i64 p.2]) ∧ Below w.heap.size w w'
/-- The call answers a number, and nothing that was there has turned. -/
def One9 (w : World) (n : Int) (e : Ending) (w' : World) : Prop := e = .returned (.int .i64 n) ∧ Below w.heap.size w w'
theorem reads_part {w : World} {B : Nat} {ad : Addr} {xs : List Value} (h : Reads w B (some ad) xs) (i m : Nat) : Reads w B (some (ad.add i)) ((xs.drop i).take m) := fun hn => by
  rw [List.length_take, List.length_drop] at hn
  obtain ⟨ad', e, hb, hc⟩ := h (by omega)
  cases e
  refine ⟨_, rfl, by rw [block_of_add]; exact hb, fun j u hu => ?_⟩
  have hj : j < m := by have := (List.getElem?_eq_some_iff.1 hu).1; rw [List.length_take] at this; omega
  rw [List.getElem?_take_of_lt hj, List.getElem?_drop] at hu
  rw [Addr.add_add]
  exact hc _ _ hu

theorem rpick_is (p : Int) (A : Option Addr) (c : Nat) (l : List Int) (w : World) (hr : Reads w w.heap.size A (l.map (Value.int .i64))) (hl : l.length ≤ 100000) (hp : p < 9223372036854775808) :
    Calls Try.prog 9 #[.int .i64 p, .slice A l.length c] w (Two9 w (pickI p l)) := by
  unfold pickI
  by_cases h0 : p < 0
  · have t0 : decide (p < 0) = true := decide_eq_true h0
    rw [if_pos h0]
    clear h0
    go_enter Try.func9, Try.ntmps9
    go_wp2_with fail
    go_ret2
    exact ⟨rfl, Below.refl _ _⟩
  · have t0 : decide (p < 0) = false := decide_eq_false h0
    rw [if_neg h0]
    by_cases h1 : l.length = 0
    · have t1 : ((l.length : Int) == 0) = true := by rw [h1]; rfl
      rw [if_pos h1]
      clear h0
      go_enter Try.func9, Try.ntmps9
      go_wp2_with fail
      go_ret2
      exact ⟨rfl, Below.refl _ _⟩
    · have t1 : ((l.length : Int) == 0) = false := by rw [beq_eq_false_iff_ne]; omega
      rw [if_neg h1]
      obtain ⟨k, rfl⟩ : ∃ k : Nat, p = (k : Int) := ⟨p.toNat, by omega⟩
      rw [Int.toNat_natCast]
      have hm := Nat.mod_lt k (show 0 < l.length by omega)
      obtain ⟨ad, e, _, f0⟩ := hr.int hm
      subst e
      obtain ⟨x, hx⟩ : ∃ x, l.getD (k % l.length) 0 = x := ⟨_, rfl⟩
      have hx2 : l[k % l.length] = x := by rw [← hx, List.getD, List.getElem?_eq_getElem hm]; rfl
      rw [hx2] at f0
      rw [hx]
      clear hx hx2 h0
      have hmi : (k : Int) % (l.length : Int) = ((k % l.length : Nat) : Int) := by omega
      obtain ⟨j, hj⟩ : ∃ j, k % l.length = j := ⟨_, rfl⟩
      rw [hj] at hm f0 hmi
      have h1' : 0 < l.length := by omega
      clear hj h1
      go_enter Try.func9, Try.ntmps9
      go_wp2_with fail
      go_ret2
      exact ⟨rfl, Below.refl _ _⟩

set_option maxHeartbeats 4000000 in
theorem rround_is (t n : Int) (w : World) : Calls Try.prog 11 #[.int .i64 t, .int .i64 n] w (Wrote w .i64 (roundI t n)) := by
  obtain ⟨ib, hib, hb0, hb1, hb2⟩ := info_parts num_info
  have IB := Lib.hid (⟨hib, hb0, hb1, hb2⟩ : _ ∧ _ ∧ _ ∧ _)
  clear hib hb0 hb1 hb2
  unfold roundI
  obtain ⟨d1, hd1⟩ : ∃ d, decide (t < 1) = d := ⟨_, rfl⟩
  obtain ⟨d2, hd2⟩ : ∃ d, decide (8 < t) = d := ⟨_, rfl⟩
  obtain ⟨d3, hd3⟩ : ∃ d, decide (n < 0) = d := ⟨_, rfl⟩
  obtain ⟨d4, hd4⟩ : ∃ d, decide (4000 < n) = d := ⟨_, rfl⟩
  by_cases hc : t < 1 ∨ 8 < t ∨ n < 0 ∨ 4000 < n
  · rw [if_pos hc]
    have four : d1 = true ∨ (d1 = false ∧ d2 = true) ∨ (d1 = false ∧ d2 = false ∧ d3 = true) ∨ (d1 = false ∧ d2 = false ∧ d3 = false ∧ d4 = true) := by
      subst hd1 hd2 hd3 hd4
      simp only [decide_eq_true_eq, decide_eq_false_iff_not]
      omega
    clear hc
    rcases four with rfl | ⟨rfl, rfl⟩ | ⟨rfl, rfl, rfl⟩ | ⟨rfl, rfl, rfl, rfl⟩
    all_goals
      go_enter Try.func11, Try.ntmps11
      go_wp2_with fail
      go_ret2
      exact wrote_nil (Below.refl _ _)
  · rw [if_neg hc]
    obtain ⟨T, rfl⟩ : ∃ T : Nat, t = (T : Int) := ⟨t.toNat, by omega⟩
    obtain ⟨N, rfl⟩ : ∃ N : Nat, n = (N : Int) := ⟨n.toNat, by omega⟩
    rw [Int.toNat_natCast, Int.toNat_natCast]
    have b1 : 1 ≤ T := by omega
    have b2 : T ≤ 8 := by omega
    have b3 : N ≤ 4000 := by omega
    have e1 : d1 = false := by rw [← hd1, decide_eq_false_iff_not]; omega
    have e2 : d2 = false := by rw [← hd2, decide_eq_false_iff_not]; omega
    have e3 : d3 = false := by rw [← hd3, decide_eq_false_iff_not]; omega
    have e4 : d4 = false := by rw [← hd4, decide_eq_false_iff_not]; omega
    subst e1 e2 e3 e4
    have S : Outs 3 .i64 w (w.alloc (.cells #[] 3)) (.slice (some ⟨w.heap.size, 0, none⟩) 0 0) [] := ⟨World.grownBy_alloc _ _ _, Own.empty (Nat.le_refl _)⟩
    clear hc
    go_enter Try.func11, Try.ntmps11
    go_wp2_with fail
    go_loopg [6, 7] N (fun g out i wr => ∃ k : Nat, k ≤ N ∧ g = N - k ∧ i = .int .i64 k ∧ Outs 3 .i64 w wr out (turnsL T k))
    case atStart => exact ⟨0, Nat.zero_le _, rfl, rfl, S⟩
    case round =>
      clear S
      obtain ⟨k, hk, rfl, rfl, S⟩ := hrel
      by_cases hlt : k < N
      · have t1 : decide ((k : Int) < (N : Int)) = true := by rw [decide_eq_true_eq]; omega
        have hln := turns_len T k
        have hmi : (k : Int) % (T : Int) = ((k % T : Nat) : Int) := by omega
        have hnx : turnsL T (k + 1) = turnsL T k ++ [((k % T : Nat) : Int)] := by unfold turnsL; rw [List.range_succ, List.map_append]; rfl
        obtain ⟨m, hm⟩ : ∃ m, k % T = m := ⟨_, rfl⟩
        rw [hm] at hmi hnx
        have HNX := Lib.hid hnx
        clear hnx hm
        go_wp2_with (at_builtin; refine wpList_append_one rfl (.tmp 28) (.tmp 32) 22 rfl ib (.int .i64 0) 8 Try.underlying22 IB.out.1 IB.out.2.1 IB.out.2.2.1 IB.out.2.2.2 rfl rfl _ (.int .i64 (m : Int)) rfl S.2 rfl (by rw [List.length_map]; simp [maxLen]; omega) (by rw [List.length_map]; omega) S.1.size ?_; intro out' w4 ho hg hb4; have S5 := S.app (ys := turnsL T (k + 1)) (by rw [HNX.out]; simpa using ho) hg)
        clear ho hg hb4
        have HS := Lib.hid S5
        clear S S5
        go_wp2_with fail
        go_roundg (N - (k + 1))
        case measure => omega
        case rel => exact ⟨k + 1, by omega, rfl, by go_num, HS.out⟩
      · obtain rfl : k = N := by omega
        have t1 : decide ((k : Int) < (k : Int)) = false := by rw [decide_eq_false_iff_not]; omega
        go_wp2_with fail
        go_ret2
        exact S.wrote

theorem rhas_is (A : Option Addr) (c B : Nat) (l : List Int) (t : Int) (w : World) (hr : Reads w B A (l.map (Value.int .i64))) (hl : l.length ≤ 100000) :
    Calls Try.prog 20 #[.slice A l.length c, .int .i64 t] w fun e w' => e = .returned (.bool (hasI l t)) ∧ w' = w := by
  have HR := Lib.hid hr
  clear hr
  go_enter Try.func20, Try.ntmps20
  go_wp2_with fail
  go_loopg [5] l.length (fun g i wr => ∃ k : Nat, k ≤ l.length ∧ g = l.length - k ∧ i = .int .i64 k ∧ hasI (l.take k) t = false ∧ wr = w)
  case atStart => exact ⟨0, Nat.zero_le _, rfl, rfl, rfl, rfl⟩
  case round =>
    obtain ⟨k, hk, rfl, rfl, hno, rfl⟩ := hrel
    have HN := Lib.hid hno
    clear hno
    by_cases hlt : k < l.length
    · obtain ⟨ad, rfl, _, f0⟩ := HR.out.int hlt
      have hsu : hasI (l.take (k + 1)) t = (hasI (l.take k) t || (l[k] == t)) := by
        unfold hasI
        rw [List.take_succ_eq_append_getElem hlt, List.any_append]
        simp
      have hyes : (l[k] == t) = true → hasI l t = true := fun h => List.any_eq_true.2 ⟨_, List.getElem_mem hlt, h⟩
      obtain ⟨x, hx⟩ : ∃ x, l[k] = x := ⟨_, rfl⟩
      rw [hx] at f0 hsu hyes
      obtain ⟨d, hd⟩ : ∃ d, (x == t) = d := ⟨_, rfl⟩
      rw [hd] at hsu hyes
      have HS := Lib.hid hsu
      have HY := Lib.hid hyes
      clear hx hsu hyes
      cases d with
      | true =>
        go_wp2_with fail
        go_ret
        exact ⟨ret_bool (HY.out (by trivial)).symm, rfl⟩
      | false =>
        go_wp2_with fail
        go_roundg (l.length - (k + 1))
        case measure => omega
        case rel => exact ⟨k + 1, by omega, rfl, by go_num, by rw [HS.out, HN.out]; rfl, rfl⟩
    · have HF : Hid (false = hasI l t) := Lib.hid (by rw [← HN.out, List.take_of_length_le (by omega)])
      go_wp2_with fail
      go_ret
      exact ⟨ret_bool HF.out, rfl⟩
end Go.Proofs.Ythheehcdicaggaa
