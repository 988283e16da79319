/- The document's Picks. -/
import Derived.Test.YtmjdamcbdclgpaaQrbytes
namespace Go.Proofs.Ytmjdamcbdclgpaa
open Go.RowKit
set_option linter.unusedVariables false
set_option linter.unusedSimpArgs false
set_option maxRecDepth 100000

set_option maxHeartbeats 8000000 in
theorem rpicks_is (A : Option Addr) (c : Nat) (b : List Int) (w : World) (hr : Reads w w.heap.size A (b.map (Value.int .u8))) (hl : b.length ≤ 40000) (hb : ∀ x ∈ b, 0 ≤ x ∧ x < 256) :
    Calls Try.prog 18 #[.slice A b.length c] w (Wrote w .i64 (picksI b)) := by
  obtain ⟨ib, hib, hb0, hb1, hb2⟩ := info_parts int8_info
  have IB := Lib.hid (⟨hib, hb0, hb1, hb2⟩ : _ ∧ _ ∧ _ ∧ _)
  clear hib hb0 hb1 hb2
  have HR := Lib.hid hr
  have HB := Lib.hid hb
  clear hr hb
  obtain ⟨P, hP⟩ : ∃ P, picksI b = P := ⟨_, rfl⟩
  rw [hP]
  have G0 : goesOn [] (b.drop 0) = P := by rw [List.drop_zero, goes_start, hP]
  clear hP
  have S : Outs 3 .i64 w (w.alloc (.cells #[] 3)) (.slice (some ⟨w.heap.size, 0, none⟩) 0 0) [] := ⟨World.grownBy_alloc _ _ _, Own.empty (Nat.le_refl _)⟩
  go_enter Try.func18, Try.ntmps18
  go_wp2_with fail
  go_loopg [4, 5] b.length (fun g out i wr => ∃ (k : Nat) (ls : List Int), k ≤ b.length ∧ g = b.length - k ∧ i = .int .i64 k ∧ ls.length ≤ 4000 ∧ goesOn ls (b.drop k) = P ∧ Outs 3 .i64 w wr out ls)
  case atStart => exact ⟨0, [], Nat.zero_le _, rfl, rfl, by simp, G0, S⟩
  case round =>
    clear S G0
    obtain ⟨i, ls, hi, rfl, rfl, hls, hg, S⟩ := hrel
    have HG := Lib.hid hg
    clear hg
    by_cases hlt : i < b.length
    · obtain ⟨ad, rfl, _⟩ := (HR.out.below S.below).int hlt
      have HRB := Lib.hid (HR.out.below S.below)
      go_wp2_with fail
      go_loopg [6, 7, 8] 9 (fun g n by_ k wi => ∃ j : Nat, j ≤ 9 ∧ g = 9 - j ∧ i + j ≤ b.length ∧ k = .int .i64 j ∧ n = .int .i64 (lowN j (b.drop i) : Nat) ∧ by_ = .int .i64 ((128 ^ min j 8 : Nat) : Int) ∧ (∀ q (h : i + q < b.length), q < j → 128 ≤ b[i + q]) ∧ wi = wr)
      case atStart => exact ⟨0, by omega, rfl, by omega, rfl, rfl, rfl, fun q h hq => by omega, rfl⟩
      case round =>
        obtain ⟨j, hj, rfl, hij, rfl, rfl, rfl, hq, rfl⟩ := hrel
        by_cases hin : i + j < b.length
        · have w4 : (i : Int) + (j : Int) < (b.length : Int) := by omega
          have w5 : decide ((i : Int) + (j : Int) < (b.length : Int)) = true := decide_eq_true w4
          obtain ⟨ad', e', _, f0⟩ := HRB.out.int hin
          cases e'
          have hx := HB.out _ (List.getElem_mem hin)
          obtain ⟨x, hxx⟩ : ∃ x, b[i + j] = x := ⟨_, rfl⟩
          rw [hxx] at f0 hx
          have hlow := lowN_lt (k := j) (r := b.drop i) fun y hy => (HB.out y (List.mem_of_mem_drop hy)).2
          by_cases h7 : 128 ≤ x
          · have h7' : decide (128 ≤ x) = true := decide_eq_true h7
            by_cases h9 : j < 9
            · have w6 : decide ((j : Int) < 9) = true := by rw [decide_eq_true_eq]; omega
              have hmin : min j 8 = j := by omega
              rw [hmin]
              have hsucc := lowN_succ (k := j) (r := b.drop i) (by rw [List.length_drop]; omega)
              rw [List.getElem_drop, hxx] at hsucc
              have hpow : 128 ^ j ≤ 128 ^ 8 := Nat.pow_le_pow_right (by omega) (by omega)
              have hprod : 128 ^ j * (x - 128).toNat ≤ 128 ^ j * 127 := Nat.mul_le_mul_left _ (by omega)
              have hcast : ((128 ^ j : Nat) : Int) * (x - 128) = ((128 ^ j * (x - 128).toNat : Nat) : Int) := by
                rw [Int.natCast_mul]
                congr 1
                omega
              have hq' : ∀ q (h : i + q < b.length), q < j + 1 → 128 ≤ b[i + q] := fun q h hlt => by
                rcases Nat.lt_or_ge q j with e | e
                · exact hq q h e
                · obtain rfl : q = j := by omega
                  rw [hxx]; exact h7
              have HQ := Lib.hid hq'
              have hpj : 128 ^ (j + 1) = 128 * 128 ^ j := by rw [Nat.pow_succ]; omega
              have HPJ := Lib.hid hpj
              have HSU := Lib.hid hsucc
              obtain ⟨Pw, hPw⟩ : ∃ Pw, 128 ^ j = Pw := ⟨_, rfl⟩
              rw [hPw] at hpow hprod hcast hlow
              have HPW := Lib.hid hPw
              rw [hPw]
              obtain ⟨D, hD⟩ : ∃ D, Pw * (x - 128).toNat = D := ⟨_, rfl⟩
              rw [hD] at hprod hcast
              have HD := Lib.hid hD
              obtain ⟨N, hN⟩ : ∃ N, lowN j (b.drop i) = N := ⟨_, rfl⟩
              rw [hN] at hlow ⊢
              have HN := Lib.hid hN
              have hpow' : Pw ≤ 72057594037927936 := hpow
              clear hq hq' hpj hsucc hPw hD hN hpow hmin
              by_cases h8 : j < 8
              · have w7 : decide ((j : Int) < 8) = true := by rw [decide_eq_true_eq]; omega
                have hpow7 : Pw ≤ 562949953421312 := by rw [← HPW.out]; exact Nat.pow_le_pow_right (n := 128) (by omega) (show j ≤ 7 by omega)
                go_wp2_with fail
                go_roundg (9 - (j + 1))
                case measure => omega
                case rel => exact ⟨j + 1, by omega, rfl, by omega, by go_num, by rw [HSU.out, HN.out, HPW.out, HD.out]; go_num, by rw [show min (j + 1) 8 = j + 1 by omega, HPJ.out, HPW.out]; go_num, HQ.out, rfl⟩
              · have w7 : decide ((j : Int) < 8) = false := by rw [decide_eq_false_iff_not]; omega
                go_wp2_with fail
                go_roundg (9 - (j + 1))
                case measure => omega
                case rel => exact ⟨j + 1, by omega, rfl, by omega, by go_num, by rw [HSU.out, HN.out, HPW.out, HD.out]; go_num, by rw [show min (j + 1) 8 = j by omega, HPW.out], HQ.out, rfl⟩
            · have HE := Lib.hid (goes_bad ls (b := b.drop i) (by simp; omega) (dec_cut (k := j) hj hq hij (.inr (by omega))))
              have HF : Hid (P = ([], 11)) := Lib.hid (by rw [← HG.out]; exact HE.out)
              have w6 : decide ((j : Int) < 9) = false := by rw [decide_eq_false_iff_not]; omega
              have w8 : decide ((9 : Int) ≤ (j : Int)) = true := by rw [decide_eq_true_eq]; omega
              clear hq hlow
              generalize lowN j (b.drop i) = N
              generalize 128 ^ min j 8 = Pw
              go_wp2_with fail
              go_ret2
              rw [HF.out]
              exact wrote_nil S.below
          · have h7' : decide (128 ≤ x) = false := decide_eq_false h7
            by_cases h9 : j < 9
            · have w6 : decide ((9 : Int) ≤ (j : Int)) = false := by rw [decide_eq_false_iff_not]; omega
              have w7 : decide ((j : Int) < 9) = true := by rw [decide_eq_true_eq]; omega
              have hd := dec_last h9 hq hin (by rw [hxx]; omega)
              rw [hxx] at hd
              have hmin : min j 8 = j := by omega
              rw [hmin]
              have hpow : 128 ^ j ≤ 128 ^ 8 := Nat.pow_le_pow_right (by omega) (by omega)
              have hprod : 128 ^ j * x.toNat ≤ 128 ^ j * 127 := Nat.mul_le_mul_left _ (by omega)
              have hcast : ((128 ^ j : Nat) : Int) * x = ((128 ^ j * x.toNat : Nat) : Int) := by
                rw [Int.natCast_mul]
                congr 1
                omega
              have hne : b.drop i ≠ [] := by simp; omega
              obtain ⟨Pw, hPw⟩ : ∃ Pw, 128 ^ j = Pw := ⟨_, rfl⟩
              rw [hPw] at hpow hprod hcast hlow hd
              rw [hPw]
              obtain ⟨D, hD⟩ : ∃ D, Pw * x.toNat = D := ⟨_, rfl⟩
              rw [hD] at hprod hcast hd
              obtain ⟨N, hN⟩ : ∃ N, lowN j (b.drop i) = N := ⟨_, rfl⟩
              rw [hN] at hlow hd ⊢
              have hpow' : Pw ≤ 72057594037927936 := hpow
              have HXX := Lib.hid hxx
              have HD := Lib.hid hd
              have HNE := Lib.hid hne
              clear hq hPw hD hN hpow hmin hd hne hxx
              have w9 : decide ((b.length : Int) ≤ (i : Int) + (j : Int)) = false := by rw [decide_eq_false_iff_not]; omega
              have three : (0 < j ∧ x = 0) ∨ j = 0 ∨ (0 < j ∧ x ≠ 0) := by omega
              rcases three with ⟨j0, x0⟩ | hjx
              · have t1 : decide (0 < j) = true := by rw [decide_eq_true_eq]; omega
                have t2 : (x == (0 : Int)) = true := by rw [x0]; rfl
                have HE := Lib.hid (goes_bad ls HNE.out (by rw [HD.out, if_pos ⟨j0, by rw [x0]; rfl⟩]))
                have HF : Hid (P = ([], 11)) := Lib.hid (by rw [← HG.out]; exact HE.out)
                clear x0
                go_wp2_with fail
                go_ret2
                rw [HF.out]
                exact wrote_nil S.below
              · have HS : Hid (dec1 9 (b.drop i) = some (N + D, b.drop (i + j + 1))) := Lib.hid (by rw [HD.out, if_neg (by omega)])
                have tt : decide (0 < j) = false ∨ (decide (0 < j) = true ∧ (x == (0 : Int)) = false) := by
                  rcases hjx with h | ⟨h, h'⟩
                  · exact .inl (by rw [decide_eq_false_iff_not]; omega)
                  · exact .inr ⟨by rw [decide_eq_true_eq]; omega, by simpa using h'⟩
                clear hjx
                by_cases hfull : ls.length = 4000
                · have HF : Hid (P = ([], 6)) := Lib.hid (by rw [← HG.out]; exact goes_full hfull HNE.out HS.out)
                  rcases tt with t1 | ⟨t1, t2⟩
                  all_goals
                    go_wp2_with (at_builtin; refine wpList_append_one rfl (.tmp 89) (.tmp 91) 28 rfl ib (.int .i64 0) 8 Try.underlying28 IB.out.1 IB.out.2.1 IB.out.2.2.1 IB.out.2.2.2 rfl rfl _ (.int .i64 ((N : Int) + (D : Int))) rfl S.2 rfl (by rw [List.length_map]; simp [maxLen]; omega) (by rw [List.length_map]; omega) S.1.size ?_; intro out' w4 ho hg hb4; obtain ⟨A5, c5, hv⟩ := Own.slice ho; rw [List.length_append, List.length_map, List.length_singleton] at hv; subst hv; have HS5 := Lib.hid (S.app (ys := ls ++ [(N : Int) + (D : Int)]) (by simpa using ho) hg); clear ho hg hb4)
                    go_ret2
                    rw [HF.out]
                    exact wrote_nil HS5.out.below
                · have HGN : Hid (goesOn (ls ++ [(N : Int) + (D : Int)]) (b.drop (i + j + 1)) = P) := Lib.hid (by rw [← HG.out, goes_next (by omega) HNE.out HS.out]; rfl)
                  have hls' : ls.length < 4000 := by omega
                  have wl : decide ((4000 : Int) < (ls.length : Int) + 1) = false := by rw [decide_eq_false_iff_not]; omega
                  clear hfull
                  rcases tt with t1 | ⟨t1, t2⟩
                  all_goals
                    go_wp2_with (at_builtin; refine wpList_append_one rfl (.tmp 89) (.tmp 91) 28 rfl ib (.int .i64 0) 8 Try.underlying28 IB.out.1 IB.out.2.1 IB.out.2.2.1 IB.out.2.2.2 rfl rfl _ (.int .i64 ((N : Int) + (D : Int))) rfl S.2 rfl (by rw [List.length_map]; simp [maxLen]; omega) (by rw [List.length_map]; omega) S.1.size ?_; intro out' w4 ho hg hb4; obtain ⟨A5, c5, hv⟩ := Own.slice ho; rw [List.length_append, List.length_map, List.length_singleton] at hv; subst hv; have HS5 := Lib.hid (S.app (ys := ls ++ [(N : Int) + (D : Int)]) (by simpa using ho) hg); clear ho hg hb4)
                    go_wp2_with fail
                    go_roundg (b.length - (i + j + 1))
                    case measure => omega
                    case rel => exact ⟨i + j + 1, ls ++ [(N : Int) + (D : Int)], by omega, rfl, by go_num, by rw [List.length_append, List.length_singleton]; omega, HGN.out, HS5.out⟩
            · have HE := Lib.hid (goes_bad ls (b := b.drop i) (by simp; omega) (dec_cut (k := j) hj hq hij (.inr (by omega))))
              have HF : Hid (P = ([], 11)) := Lib.hid (by rw [← HG.out]; exact HE.out)
              have w6 : decide ((j : Int) < 9) = false := by rw [decide_eq_false_iff_not]; omega
              have w8 : decide ((9 : Int) ≤ (j : Int)) = true := by rw [decide_eq_true_eq]; omega
              clear hq hlow
              generalize lowN j (b.drop i) = N
              generalize 128 ^ min j 8 = Pw
              go_wp2_with fail
              go_ret2
              rw [HF.out]
              exact wrote_nil S.below
        · have w4 : ¬ (i : Int) + (j : Int) < (b.length : Int) := by omega
          have w5 : decide ((i : Int) + (j : Int) < (b.length : Int)) = false := decide_eq_false w4
          have w6 : decide ((b.length : Int) ≤ (i : Int) + (j : Int)) = true := by rw [decide_eq_true_eq]; omega
          have HE := Lib.hid (goes_bad ls (b := b.drop i) (by simp; omega) (dec_cut (k := j) hj hq hij (.inl (by omega))))
          have HF : Hid (P = ([], 11)) := Lib.hid (by rw [← HG.out]; exact HE.out)
          clear hq
          generalize lowN j (b.drop i) = N
          generalize 128 ^ min j 8 = Pw
          go_wp2_with fail
          go_ret2
          rw [HF.out]
          exact wrote_nil S.below
    · obtain rfl : i = b.length := by omega
      have HF : Hid (P = (ls, 0)) := Lib.hid (by rw [← HG.out, List.drop_length, goes_end])
      go_wp2_with fail
      go_ret2
      rw [HF.out]
      exact S.wrote
end Go.Proofs.Ytmjdamcbdclgpaa
