/- SchedRounds, SchedTurns: the walks, over what the program's four calls say. -/
import Derived.Test.YthheehcdicaggaaDlaw1
namespace Go.Proofs.Ythheehcdicaggaa
open Go.RowKit
set_option linter.unusedVariables false
set_option linter.unusedSimpArgs false
set_option maxRecDepth 100000

theorem round_nums {w : World} {A : Option Addr} {c : Nat} {t n : Int} {ys : List Int} (hy : (roundI t n).1 = ys) (hr : Reads w w.heap.size A (ys.map (Value.int .i64))) (h1 : ys.length ≤ c) (h2 : c ≤ maxLen) : NumsIn w A c ys :=
  ⟨hr, h1, h2, fun x hx => by
    rw [← hy] at hx
    unfold roundI at hx
    by_cases hc : t < 1 ∨ 8 < t ∨ n < 0 ∨ 4000 < n
    · rw [if_pos hc] at hx; cases hx
    · rw [if_neg hc] at hx
      unfold turnsL at hx
      obtain ⟨i, hi, rfl⟩ := List.mem_map.1 hx
      have := List.mem_range.1 hi
      have h3 := Nat.mod_le i t.toNat
      unfold I64
      omega⟩

set_option maxHeartbeats 8000000 in
theorem schedRounds_walk (K : Words9) (t n : Int) (w : World) (ht : (Lit.int .i64 t).wf = true) (hn : (Lit.int .i64 n).wf = true) :
    Calls Try.prog 6 #[.int .i64 t, .int .i64 n] w fun e w' => e = .returned (.bool true) ∧ Below w.heap.size w w' := by
  have HK := Lib.hid K
  have VT := Lib.hid (i64_of ht)
  have VN := Lib.hid (i64_of hn)
  have HP := Lib.hid (fun W => picked_is HK.out W)
  have hq := HK.out.round t n w VT.out VN.out
  have herr := @round_err t n
  have hok := @round_ok t n
  have hfa := @round_fair t n
  have hmo := @round_most t n
  have hnu := fun (W : World) (A : Option Addr) (c : Nat) => @round_nums W A c t n _ rfl
  obtain ⟨Y, hY⟩ : ∃ Y, roundI t n = Y := ⟨_, rfl⟩
  rw [hY] at hq herr hok hfa hmo
  simp only [hY] at hnu
  obtain ⟨ys, ye⟩ := Y
  have HERR := Lib.hid herr
  have HOK := Lib.hid hok
  have HFA := Lib.hid hfa
  have HMO := Lib.hid hmo
  have HNU := Lib.hid hnu
  clear K ht hn herr hok hfa hmo hnu hY
  go_enter Try.func6, Try.ntmps6
  go_wp2_with fail
  refine hq.mono ?_
  rintro e W1 ⟨A3, c3, rfl, r3, l3, m3, k1⟩
  clear hq
  have B1 := Lib.hid k1
  have N1 := Lib.hid (HNU.out W1 A3 c3 r3 l3 m3)
  clear k1 r3 l3 m3
  -- an error, or too many: whether it is one is said by the numbers alone
  have refused : ∀ e0 : Bool, (ye == 0) = e0 → e0 = (decide (1 ≤ t) && (decide (t ≤ 8) && (decide (0 ≤ n) && decide (n ≤ 4000)))) := fun e0 h => by rw [← h]; exact HERR.out
  have HREF := Lib.hid refused
  clear refused
  by_cases hbad : ye ≠ 0 ∨ (ye = 0 ∧ 300 < n)
  · obtain ⟨e0, he0⟩ : ∃ e, (ye == 0) = e := ⟨_, rfl⟩
    have hne : (ye != 0) = !e0 := by rw [← he0]; rfl
    have hd := HREF.out e0 he0
    obtain ⟨d1, hd1⟩ : ∃ d, decide (1 ≤ t) = d := ⟨_, rfl⟩
    obtain ⟨d2, hd2⟩ : ∃ d, decide (t ≤ 8) = d := ⟨_, rfl⟩
    obtain ⟨d3, hd3⟩ : ∃ d, decide (0 ≤ n) = d := ⟨_, rfl⟩
    obtain ⟨d4, hd4⟩ : ∃ d, decide (n ≤ 4000) = d := ⟨_, rfl⟩
    rw [hd1, hd2, hd3, hd4] at hd
    have h3 : e0 = true → decide (300 < n) = true := fun h => by
      rcases hbad with hb | ⟨_, hb⟩
      · rw [h] at he0; exact absurd (by simpa using he0) hb
      · exact decide_eq_true hb
    clear hbad
    have five : (d1 = false ∧ e0 = false) ∨ (d1 = true ∧ d2 = false ∧ e0 = false) ∨ (d1 = true ∧ d2 = true ∧ d3 = false ∧ e0 = false) ∨ (d1 = true ∧ d2 = true ∧ d3 = true ∧ d4 = false ∧ e0 = false) ∨ (d1 = true ∧ d2 = true ∧ d3 = true ∧ d4 = true ∧ e0 = true) := by
      rw [hd]
      cases d1 <;> cases d2 <;> cases d3 <;> cases d4 <;> simp
    clear hd
    rcases five with ⟨rfl, rfl⟩ | ⟨rfl, rfl, rfl⟩ | ⟨rfl, rfl, rfl, rfl⟩ | ⟨rfl, rfl, rfl, rfl, rfl⟩ | ⟨rfl, rfl, rfl, rfl, rfl⟩
    case inr.inr.inr.inr =>
      have h300 := h3 rfl
      simp only [Bool.not_true] at hne
      clear h3
      go_wp2_with fail
      refine (HP.out W1).mono ?_
      rintro e W2 ⟨rfl, k2⟩
      have B2 := Lib.hid (below_next B1.out k2)
      clear k2
      go_wp2_with fail
      go_ret
      exact ⟨rfl, B2.out⟩
    all_goals
      simp only [Bool.not_false] at hne
      clear h3
      go_wp2_with fail
      refine (HP.out W1).mono ?_
      rintro e W2 ⟨rfl, k2⟩
      have B2 := Lib.hid (below_next B1.out k2)
      clear k2
      go_wp2_with fail
      go_ret
      exact ⟨rfl, B2.out⟩
  · have hye : ye = 0 := by omega
    subst hye
    have h300 : n ≤ 300 := by omega
    obtain ⟨⟨b1, b2, b3, b4⟩, hys⟩ := HOK.out rfl
    obtain ⟨N, rfl⟩ : ∃ N : Nat, n = (N : Int) := ⟨n.toNat, by omega⟩
    have hlen : ys.length = N := by
      have : ys = turnsL t.toNat (N : Int).toNat := hys
      rw [this, turns_len, Int.toNat_natCast]
    have hff := HFA.out rfl
    have hmm := HMO.out rfl
    have t1 : decide (300 < (N : Int)) = false := by rw [decide_eq_false_iff_not]; omega
    have t2 : ((ys.length : Int) != (N : Int)) = false := by rw [hlen]; simp
    have hq := HK.out.fair A3 c3 ys t t W1 N1.out (by omega) VT.out (by omega) VT.out
    rw [hff] at hq
    have HL := Lib.hid hlen
    have HMM := Lib.hid hmm
    clear hbad hys hff hmm
    subst hlen
    go_wp2_with fail
    refine hq.mono ?_
    rintro e W2 ⟨rfl, k2⟩
    have B2 := Lib.hid (below_next B1.out k2)
    have N2 := Lib.hid (N1.out.below k2)
    clear hq k2
    go_wp2_with fail
    refine (HP.out W2).mono ?_
    rintro e W3 ⟨rfl, k3⟩
    have B3 := Lib.hid (below_next B2.out k3)
    have N3 := Lib.hid (N2.out.below k3)
    clear k3
    obtain ⟨d, hd⟩ : ∃ d, decide ((ys.length : Int) < t) = d := ⟨_, rfl⟩
    cases d with
    | true =>
      go_wp2_with fail
      go_ret
      exact ⟨rfl, B3.out⟩
    | false =>
      have hq := HK.out.most A3 c3 ys t W3 N3.out (by omega) VT.out (by omega)
      rw [HMM.out (by have := of_decide_eq_false hd; omega)] at hq
      go_wp2_with fail
      refine hq.mono ?_
      rintro e W4 ⟨rfl, k4⟩
      have B4 := Lib.hid (below_next B3.out k4)
      clear hq k4
      go_wp2_with fail
      go_ret
      exact ⟨rfl, B4.out⟩

theorem round_pick2 {t n : Int} (h : (roundI t n).2 = 0) {i : Nat} {x : Int} (hx : (roundI t n).1[i]? = some x) : pickI i (turnsL t.toNat t.toNat) = (x, 0) := by
  obtain ⟨hi, rfl⟩ := List.getElem?_eq_some_iff.1 hx
  exact round_pick h hi
theorem turns_id {T k : Nat} (h : k < T) : turnsL T (k + 1) = turnsL T k ++ [(k : Int)] := by
  unfold turnsL
  rw [List.range_succ, List.map_append, List.map_cons, List.map_nil, Nat.mod_eq_of_lt h]

set_option maxHeartbeats 8000000 in
theorem schedTurns_walk (K : Words9) (t n : Int) (w : World) (ht : (Lit.int .i64 t).wf = true) (hn : (Lit.int .i64 n).wf = true) :
    Calls Try.prog 7 #[.int .i64 t, .int .i64 n] w fun e w' => e = .returned (.bool true) ∧ Below w.heap.size w w' := by
  have HK := Lib.hid K
  have VT := Lib.hid (i64_of ht)
  have VN := Lib.hid (i64_of hn)
  have HP := Lib.hid (fun W => picked_is HK.out W)
  obtain ⟨ib, hib, hb0, hb1, hb2⟩ := info_parts num_info
  have IB := Lib.hid (⟨hib, hb0, hb1, hb2⟩ : _ ∧ _ ∧ _ ∧ _)
  clear hib hb0 hb1 hb2
  have hq := HK.out.round t n w VT.out VN.out
  have hok := @round_ok t n
  have hpi := @round_pick2 t n
  have hnu := fun (W : World) (A : Option Addr) (c : Nat) => @round_nums W A c t n _ rfl
  obtain ⟨Y, hY⟩ : ∃ Y, roundI t n = Y := ⟨_, rfl⟩
  rw [hY] at hq hok hpi
  simp only [hY] at hnu
  obtain ⟨ys, ye⟩ := Y
  have HOK := Lib.hid hok
  have HPI := Lib.hid hpi
  have HNU := Lib.hid hnu
  clear K ht hn hok hpi hnu hY
  go_enter Try.func7, Try.ntmps7
  go_wp2_with fail
  refine hq.mono ?_
  rintro e W1 ⟨A3, c3, rfl, r3, l3, m3, k1⟩
  clear hq
  have B1 := Lib.hid k1
  have N1 := Lib.hid (HNU.out W1 A3 c3 r3 l3 m3)
  clear k1 r3 l3 m3
  by_cases hbad : ye ≠ 0 ∨ (ye = 0 ∧ 300 < n)
  · obtain ⟨e0, he0⟩ : ∃ e, (ye != 0) = e := ⟨_, rfl⟩
    have two : e0 = true ∨ (e0 = false ∧ decide (300 < n) = true) := by
      rcases hbad with hb | ⟨hb, h3⟩
      · exact .inl (by rw [← he0]; simpa using hb)
      · exact .inr ⟨by rw [← he0, hb]; rfl, decide_eq_true h3⟩
    clear hbad
    rcases two with rfl | ⟨rfl, h300⟩
    all_goals
      go_wp2_with fail
      refine (HP.out W1).mono ?_
      rintro e W2 ⟨rfl, k2⟩
      have B2 := Lib.hid (below_next B1.out k2)
      clear k2
      go_wp2_with fail
      go_ret
      exact ⟨rfl, B2.out⟩
  · have hye : ye = 0 := by omega
    subst hye
    have h300 : n ≤ 300 := by omega
    obtain ⟨⟨b1, b2, b3, b4⟩, hys⟩ := HOK.out rfl
    obtain ⟨N, rfl⟩ : ∃ N : Nat, n = (N : Int) := ⟨n.toNat, by omega⟩
    obtain ⟨T, rfl⟩ : ∃ T : Nat, t = (T : Int) := ⟨t.toNat, by omega⟩
    have hlen : ys.length = N := by
      have : ys = turnsL (T : Int).toNat (N : Int).toNat := hys
      rw [this, turns_len, Int.toNat_natCast]
    have t1 : decide (300 < (N : Int)) = false := by rw [decide_eq_false_iff_not]; omega
    have t2 : decide (8 < (T : Int)) = false := by rw [decide_eq_false_iff_not]; omega
    have hT : T ≤ 8 := by omega
    have HPK : Hid (∀ i (h : i < ys.length), pickI (i : Int) (turnsL T T) = (ys[i], 0)) := Lib.hid fun i h => by
      have h1 := HPI.out rfl (i := i) (x := ys[i]) (List.getElem?_eq_getElem h)
      rwa [Int.toNat_natCast] at h1
    clear hbad hys b1 b2 b3 b4 HPI HOK
    subst hlen
    have S : Outs 3 .i64 W1 (W1.alloc (.cells #[] 3)) (.slice (some ⟨W1.heap.size, 0, none⟩) 0 0) [] := ⟨World.grownBy_alloc _ _ _, Own.empty (Nat.le_refl _)⟩
    go_wp2_with fail
    go_loopg [7, 8] T (fun g out i wr => ∃ k : Nat, k ≤ T ∧ g = T - k ∧ i = .int .i64 k ∧ Outs 3 .i64 W1 wr out (turnsL T k))
    case atStart => exact ⟨0, Nat.zero_le _, rfl, rfl, S⟩
    case round =>
      clear S
      obtain ⟨k, hk, rfl, rfl, S⟩ := hrel
      by_cases hlt : k < T
      · have t3 : decide ((k : Int) < (T : Int)) = true := by rw [decide_eq_true_eq]; omega
        have t3' : decide (k < T) = true := by rw [decide_eq_true_eq]; omega
        have hln := turns_len T k
        have HNX := Lib.hid (turns_id hlt)
        go_wp2_with (at_builtin; refine wpList_append_one rfl (.tmp 33) (.tmp 35) 22 rfl ib (.int .i64 0) 8 Try.underlying22 IB.out.1 IB.out.2.1 IB.out.2.2.1 IB.out.2.2.2 rfl rfl _ (.int .i64 (k : Int)) rfl S.2 rfl (by rw [List.length_map]; simp [maxLen]; omega) (by rw [List.length_map]; omega) S.1.size ?_; intro out' w4 ho hg hb4; have S5 := S.app (ys := turnsL T (k + 1)) (by rw [HNX.out]; simpa using ho) hg)
        clear ho hg hb4
        have HS := Lib.hid S5
        clear S S5
        go_wp2_with fail
        go_roundg (T - (k + 1))
        case measure => omega
        case rel => exact ⟨k + 1, by omega, rfl, by go_num, HS.out⟩
      · obtain rfl : k = T := by omega
        have t3 : decide ((k : Int) < (k : Int)) = false := by rw [decide_eq_false_iff_not]; omega
        obtain ⟨A7, n7, c7, rfl⟩ := own_form S.2
        obtain ⟨A7', c7', e7⟩ := Own.slice S.2
        cases e7
        have hle := own_le S.2
        have hr7 := Own.reads S.2
        rw [List.length_map] at hle
        have hB := S.below
        have N7 : Hid (NumsIn wr A7 c7 (turnsL k k)) := Lib.hid ⟨hr7, hle.1, hle.2, fun x hx => by
          unfold turnsL at hx
          obtain ⟨i, hi, rfl⟩ := List.mem_map.1 hx
          have h3 := Nat.mod_le i k
          have := List.mem_range.1 hi
          unfold I64
          omega⟩
        have N3 := Lib.hid (N1.out.below hB)
        have B3 := Lib.hid (below_next B1.out hB)
        have HLT := Lib.hid (turns_len k k)
        have hl7 : ((turnsL k k).map (Value.int .i64)).length = (turnsL k k).length := List.length_map ..
        rw [hl7]
        clear S hle hr7 hB hl7
        obtain ⟨W9, hW9⟩ : ∃ W9, W9 = wr := ⟨_, rfl⟩
        subst hW9
        go_wp2_with fail
        go_loopg [9] ys.length (fun g i wi => ∃ q : Nat, q ≤ ys.length ∧ g = ys.length - q ∧ i = .int .i64 q ∧ Below W9.heap.size W9 wi)
        case atStart => exact ⟨0, Nat.zero_le _, rfl, rfl, Below.refl _ _⟩
        case round =>
          obtain ⟨q, hq, rfl, rfl, BR⟩ := hrel
          have HBR := Lib.hid BR
          by_cases hql : q < ys.length
          · have hcall := HK.out.pick (q : Int) A7 c7 (turnsL k k) wr (N7.out.below BR) (by rw [HLT.out]; omega) (by unfold I64; omega)
            rw [HPK.out q hql] at hcall
            have t4 : decide ((q : Int) < (ys.length : Int)) = true := by rw [decide_eq_true_eq]; omega
            have t4' : decide (q < ys.length) = true := by rw [decide_eq_true_eq]; omega
            have hf0 := fun (W : World) (hW : Below W9.heap.size W9 W) => (N3.out.below hW).r.int hql
            obtain ⟨x, hx⟩ : ∃ x, ys[q] = x := ⟨_, rfl⟩
            rw [hx] at hcall hf0
            have HF0 := Lib.hid hf0
            clear hx hf0 BR
            go_wp2_with fail
            refine hcall.mono ?_
            rintro e W5 ⟨rfl, k5⟩
            have B5 := Lib.hid (below_next HBR.out k5)
            clear hcall k5
            obtain ⟨ad, e3, _, f0⟩ := HF0.out W5 B5.out
            rw [e3]
            have HE := Lib.hid e3
            clear e3
            go_wp2_with fail
            rw [← HE.out]
            go_roundg (ys.length - (q + 1))
            case measure => omega
            case rel => exact ⟨q + 1, by omega, rfl, by go_num, B5.out⟩
          · obtain rfl : q = ys.length := by omega
            have t4 : decide ((ys.length : Int) < (ys.length : Int)) = false := by rw [decide_eq_false_iff_not]; omega
            clear BR
            go_wp2_with fail
            refine (HP.out wr).mono ?_
            rintro e W6 ⟨rfl, k6⟩
            have B6 := Lib.hid (below_next (below_next B3.out HBR.out) k6)
            clear k6
            go_wp2_with fail
            go_ret
            exact ⟨rfl, B6.out⟩
end Go.Proofs.Ythheehcdicaggaa
