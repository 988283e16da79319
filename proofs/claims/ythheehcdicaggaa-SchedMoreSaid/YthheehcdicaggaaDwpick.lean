/- sched.Pick, all, Round of the program. -/
import Derived.Test.YthheehcdicaggaaDwnext
namespace Go.Proofs.Ythheehcdicaggaa
open Go.RowKit
set_option linter.unusedVariables false
set_option linter.unusedSimpArgs false
set_option maxRecDepth 100000

theorem pick9_is (p : Int) (A : Option Addr) (c : Nat) (l : List Int) (w : World) (hn : NumsIn w A c l) (hl : l.length ≤ 1000) (hp : I64 p) :
    Calls Try.prog 8 #[.int .i64 p, .slice A l.length c] w (Two9 w (pickI p l)) := by
  unfold pickI
  have hp2 := hp.2
  by_cases h0 : p < 0
  · have t0 : decide (p < 0) = true := decide_eq_true h0
    rw [if_pos h0]
    clear h0 hp
    go_enter Try.func8, Try.ntmps8
    go_wp2_with fail
    go_ret2
    exact ⟨rfl, Below.refl _ _⟩
  · have t0 : decide (p < 0) = false := decide_eq_false h0
    rw [if_neg h0]
    by_cases h1 : l.length = 0
    · have t1 : ((l.length : Int) == 0) = true := by rw [h1]; rfl
      rw [if_pos h1]
      clear h0 hp
      go_enter Try.func8, Try.ntmps8
      go_wp2_with fail
      go_ret2
      exact ⟨rfl, Below.refl _ _⟩
    · have t1 : ((l.length : Int) == 0) = false := by rw [beq_eq_false_iff_ne]; omega
      rw [if_neg h1]
      obtain ⟨k, rfl⟩ : ∃ k : Nat, p = (k : Int) := ⟨p.toNat, by omega⟩
      rw [Int.toNat_natCast]
      have hm := Nat.mod_lt k (show 0 < l.length by omega)
      have hmi : (k : Int) % (l.length : Int) = ((k % l.length : Nat) : Int) := by rw [Int.natCast_emod]
      obtain ⟨j, hj⟩ : ∃ j, k % l.length = j := ⟨_, rfl⟩
      rw [hj] at hm hmi ⊢
      have hcall := cycle_is A c l j w hn.r hm
      have h1' : 0 < l.length := by omega
      obtain ⟨x, hx⟩ : ∃ x, l[j]? = some x := ⟨_, List.getElem?_eq_getElem hm⟩
      rw [List.getD, hx, Option.getD_some]
      have HX := Lib.hid hx
      have HL := Lib.hid hl
      clear hj h0 h1 hn hp hx
      go_enter Try.func8, Try.ntmps8
      go_wp2_with fail
      refine hcall.mono ?_
      rintro e w1 ⟨f, rfl, ⟨rfl, hc⟩, g1, hs⟩
      have hq := next_is _ _ _ A c l j x w1 hc HL.out HX.out
      have G1 := Lib.hid g1
      clear hcall hc g1
      go_wp2_with (first | (go_at_call 22; (with_reducible refine hq.mono ?_); rintro e w2 ⟨rfl, _, g2⟩))
      have G2 := Lib.hid g2
      clear hq g2
      go_ret2
      exact ⟨rfl, ((Below.refl _ _).grown G1.out (Nat.le_refl _) (fun b e => by cases e)).grown G2.out (by omega) (fun b e => by cases e; omega)⟩

theorem zeros_len (n : Nat) : (madeCells (Value.cells (.int .i64 0)) (n * 1)).toList = List.replicate n (.int .i64 0) := by
  refine List.ext_getElem (by simp [madeCells]) fun i h1 h2 => ?_
  simp [madeCells, Value.cells, Nat.mod_one]

/-- The program writes the numbers of a row that it made, one by one: the first k are written. -/
def upTo (l : List Int) (k : Nat) : List Value := (List.range l.length).map fun i => .int .i64 (if i < k then l.getD i 0 else 0)
theorem upTo_at (l : List Int) (k i : Nat) : (upTo l k)[i]? = if i < l.length then some (.int .i64 (if i < k then l.getD i 0 else 0)) else none := by
  unfold upTo
  rw [List.getElem?_map]
  by_cases h : i < l.length
  · rw [List.getElem?_range h, if_pos h]; rfl
  · rw [if_neg h, List.getElem?_eq_none (by simp; omega)]; rfl
theorem upTo_zero (l : List Int) : upTo l 0 = List.replicate l.length (.int .i64 0) := by
  refine List.ext_getElem? fun i => ?_
  rw [upTo_at, List.getElem?_replicate, if_neg (Nat.not_lt_zero i)]
theorem upTo_all (l : List Int) : upTo l l.length = l.map (Value.int .i64) := by
  refine List.ext_getElem? fun i => ?_
  rw [upTo_at, List.getElem?_map]
  by_cases h : i < l.length
  · rw [if_pos h, if_pos h, List.getD, List.getElem?_eq_getElem h]; rfl
  · rw [if_neg h, List.getElem?_eq_none (by omega)]; rfl
theorem upTo_len (l : List Int) (k : Nat) : (upTo l k).length = l.length := by simp [upTo]
theorem upTo_set (l : List Int) {k : Nat} {x : Int} (hx : l[k]? = some x) : (upTo l k).set k (.int .i64 x) = upTo l (k + 1) := by
  have hk := (List.getElem?_eq_some_iff.1 hx).1
  refine List.ext_getElem? fun i => ?_
  rw [List.getElem?_set, upTo_len, upTo_at, upTo_at]
  by_cases h : k = i
  · subst h
    rw [if_pos rfl, if_pos hk, if_pos hk, if_pos (by omega), List.getD, hx]; rfl
  · rw [if_neg h]
    by_cases h2 : i < k
    · rw [if_pos h2, if_pos (show i < k + 1 by omega)]
    · rw [if_neg h2, if_neg (show ¬ i < k + 1 by omega)]

set_option maxHeartbeats 1000000 in
theorem all9_is (n : Nat) (w : World) (hn : n ≤ 8) :
    Calls Try.prog 19 #[.int .i64 n] w fun e w' => ∃ A, e = .returned (.slice A n n) ∧ w.grownBy w' none ∧ Reads w' w'.heap.size A ((turnsL n n).map (Value.int .i64)) := by
  obtain ⟨ib, hib, hb0, hb1, hb2⟩ := info_parts num_info
  have IB := Lib.hid (⟨hib, hb0, hb1, hb2⟩ : _ ∧ _ ∧ _ ∧ _)
  clear hib hb0 hb1 hb2
  go_enter Try.func19, Try.ntmps19
  go_wp2_with (first | refine wpList_make_full w rfl (.tmp 5) (.tmp 5) 22 rfl w.heap.size 3 ib (.int .i64 0) 1 Try.underlying22 IB.out.1 IB.out.2.1 IB.out.2.2.1 .i64 .i64 (n : Int) (n : Int) n rfl rfl rfl rfl (by rw [IB.out.2.2.2]; omega) (by simp [maxLen]; omega) (Nat.le_refl _) ?_; intro w1 ho hg)
  have S : Hid (w1.ownsRow w.heap.size 3 1 (.slice (some ⟨w.heap.size, 0, none⟩) n n) n (upTo (turnsL n n) 0)) := Lib.hid (by rw [upTo_zero, turns_len, ← zeros_len]; exact ho)
  have G := Lib.hid hg
  clear ho hg
  go_loopg [9] n (fun g i wr => ∃ k : Nat, k ≤ n ∧ g = n - k ∧ i = .int .i64 k ∧ wr.ownsRow w.heap.size 3 1 (.slice (some ⟨w.heap.size, 0, none⟩) n n) n (upTo (turnsL n n) k) ∧ w.grownBy wr none)
  case atStart => exact ⟨0, Nat.zero_le _, rfl, rfl, S.out, G.out⟩
  case round =>
    obtain ⟨k, hk, rfl, rfl, ho, hg⟩ := hrel
    by_cases hlt : k < n
    · have t1 : decide ((k : Int) < (n : Int)) = true := by rw [decide_eq_true_eq]; omega
      have t1' : decide (k < n) = true := by rw [decide_eq_true_eq]; omega
      have fz := ho.frozenAt k
      have hcell := ho.cellAt k (by omega)
      rw [upTo_at, turns_len, if_pos hlt] at hcell
      have hx : (turnsL n n)[k]? = some (k : Int) := by rw [turns_at hlt, Nat.mod_eq_of_lt hlt]
      have hst := ho.stored k (.int .i64 (k : Int))
      rw [upTo_set _ hx] at hst
      have HS := Lib.hid hst
      have HG := Lib.hid hg
      clear hst hx ho hg
      go_wp2_with fail
      go_roundg (n - (k + 1))
      case measure => omega
      case rel => exact ⟨k + 1, by omega, rfl, by go_num, HS.out.1, grownBy_over HG.out HS.out.2 (Nat.le_refl _)⟩
    · obtain rfl : k = n := by omega
      have t1 : decide ((k : Int) < (k : Int)) = false := by rw [decide_eq_false_iff_not]; omega
      have HU : Hid (Reads wr wr.heap.size (some ⟨w.heap.size, 0, none⟩) ((turnsL k k).map (Value.int .i64))) := Lib.hid (by
        have h := upTo_all (turnsL k k)
        rw [turns_len] at h
        rw [h] at ho
        exact Reads.of_own ho)
      have HG := Lib.hid hg
      clear ho hg
      go_wp2_with fail
      go_ret
      exact ⟨_, rfl, HG.out, HU.out⟩

theorem row_ne {s s' n m : Nat} (h : s' = s + 2) : (Value.slice (some ⟨s', 0, none⟩) n m).ownBlock ≠ some (s + 1) := by
  simp [Value.ownBlock]; omega
theorem turns_step {T n k : Nat} (hT : 0 < T) (hk : k < n) : (turnsL T T)[k % T]? = (turnsL T n)[k]? := by
  rw [turns_at hk, turns_at (Nat.mod_lt k hT), Nat.mod_mod]

set_option maxHeartbeats 2000000 in
theorem round9_is (t n : Int) (w : World) (ht : I64 t) (hn : I64 n) : Calls Try.prog 10 #[.int .i64 t, .int .i64 n] w (Wrote w .i64 (roundI t n)) := by
  obtain ⟨ib, hib, hb0, hb1, hb2⟩ := info_parts num_info
  have IB := Lib.hid (⟨hib, hb0, hb1, hb2⟩ : _ ∧ _ ∧ _ ∧ _)
  clear hib hb0 hb1 hb2
  unfold roundI
  obtain ⟨d1, hd1⟩ : ∃ d, decide (t < 1) = d := ⟨_, rfl⟩
  obtain ⟨d2, hd2⟩ : ∃ d, decide (8 < t) = d := ⟨_, rfl⟩
  obtain ⟨d3, hd3⟩ : ∃ d, decide (n < 0) = d := ⟨_, rfl⟩
  obtain ⟨d4, hd4⟩ : ∃ d, decide (4000 < n) = d := ⟨_, rfl⟩
  by_cases hc : t < 1 ∨ 8 < t ∨ n < 0 ∨ 4000 < n
  · rw [if_pos hc]
    have four : d1 = true ∨ (d1 = false ∧ d2 = true) ∨ (d1 = false ∧ d2 = false ∧ d3 = true) ∨ (d1 = false ∧ d2 = false ∧ d3 = false ∧ d4 = true) := by
      subst hd1 hd2 hd3 hd4
      simp only [decide_eq_true_eq, decide_eq_false_iff_not]
      omega
    clear hc ht hn
    rcases four with rfl | ⟨rfl, rfl⟩ | ⟨rfl, rfl, rfl⟩ | ⟨rfl, rfl, rfl, rfl⟩
    all_goals
      go_enter Try.func10, Try.ntmps10
      go_wp2_with fail
      go_ret2
      exact wrote_nil (Below.refl _ _)
  · rw [if_neg hc]
    obtain ⟨T, rfl⟩ : ∃ T : Nat, t = (T : Int) := ⟨t.toNat, by omega⟩
    obtain ⟨N, rfl⟩ : ∃ N : Nat, n = (N : Int) := ⟨n.toNat, by omega⟩
    rw [Int.toNat_natCast, Int.toNat_natCast]
    have b1 : 1 ≤ T := by omega
    have b2 : T ≤ 8 := by omega
    have b3 : N ≤ 4000 := by omega
    have e1 : d1 = false := by rw [← hd1, decide_eq_false_iff_not]; omega
    have e2 : d2 = false := by rw [← hd2, decide_eq_false_iff_not]; omega
    have e3 : d3 = false := by rw [← hd3, decide_eq_false_iff_not]; omega
    have e4 : d4 = false := by rw [← hd4, decide_eq_false_iff_not]; omega
    subst e1 e2 e3 e4
    have hall := all9_is T w b2
    have HLT := Lib.hid (turns_len T T)
    clear hc ht hn
    go_enter Try.func10, Try.ntmps10
    go_wp2_with fail
    refine hall.mono ?_
    rintro e w1 ⟨A, rfl, g1, r1⟩
    have hcyc := cycle_is A T (turnsL T T) 0 w1 r1 (by rw [HLT.out]; omega)
    rw [HLT.out] at hcyc
    have G1 := Lib.hid g1
    clear hall g1 r1
    go_wp2_with fail
    refine hcyc.mono ?_
    rintro e w2 ⟨f, rfl, ⟨rfl, hc⟩, g2, hs⟩
    have G2 := Lib.hid (grownBy_trans G1.out g2)
    have HC := Lib.hid hc
    have HSZ := Lib.hid hs
    clear hcyc g2 hc hs
    go_wp2_with (first | refine wpList_make_full w2 rfl (.tmp 26) (.tmp 26) 22 rfl w2.heap.size 3 ib (.int .i64 0) 1 Try.underlying22 IB.out.1 IB.out.2.1 IB.out.2.2.1 .i64 .i64 (N : Int) (N : Int) N rfl rfl rfl rfl (by rw [IB.out.2.2.2]; omega) (by simp [maxLen]; omega) (Nat.le_refl _) ?_; intro w3 ho hg)
    have S : Hid (w3.ownsRow w2.heap.size 3 1 (.slice (some ⟨w2.heap.size, 0, none⟩) N N) N (upTo (turnsL T N) 0)) := Lib.hid (by rw [upTo_zero, turns_len, ← zeros_len]; exact ho)
    have G3 := Lib.hid (grownBy_trans G2.out hg)
    have HC3 := Lib.hid (HC.out.kept hg (fun b e => by cases e))
    clear ho hg
    go_loopg [30] N (fun g i wr => ∃ k : Nat, k ≤ N ∧ g = N - k ∧ i = .int .i64 k ∧ wr.ownsRow w2.heap.size 3 1 (.slice (some ⟨w2.heap.size, 0, none⟩) N N) N (upTo (turnsL T N) k) ∧ w.grownBy wr none ∧ Cyc w1.heap.size w1.heap.size (w1.heap.size + 1) A T (turnsL T T) (k % T) wr)
    case atStart => exact ⟨0, Nat.zero_le _, rfl, rfl, S.out, G3.out, by rw [Nat.zero_mod]; exact HC3.out⟩
    case round =>
      obtain ⟨k, hk, rfl, rfl, ho, hg, hc⟩ := hrel
      by_cases hlt : k < N
      · have t1 : decide ((k : Int) < (N : Int)) = true := by rw [decide_eq_true_eq]; omega
        have t1' : decide (k < N) = true := by rw [decide_eq_true_eq]; omega
        have hx : (turnsL T N)[k]? = some ((k % T : Nat) : Int) := turns_at hlt
        obtain ⟨x, hxx⟩ : ∃ x : Int, ((k % T : Nat) : Int) = x := ⟨_, rfl⟩
        rw [hxx] at hx
        have hq := next_is _ _ _ A T (turnsL T T) (k % T) x wr hc (by rw [HLT.out]; omega) (by rw [turns_step (by omega) hlt]; exact hx)
        have HO := Lib.hid ho
        have HG := Lib.hid hg
        have HX := Lib.hid hx
        have HW := Lib.hid hc.bq
        clear ho hg hx hc hxx
        go_wp2_with (first | (go_at_call 22; (with_reducible refine hq.mono ?_); rintro e w4 ⟨rfl, hc4, g4⟩; have fz := (HO.out.kept g4 (.inr (row_ne HSZ.out))).frozenAt k; have hcell := (HO.out.kept g4 (.inr (row_ne HSZ.out))).cellAt k (by omega); rw [upTo_at, turns_len, if_pos hlt] at hcell))
        have hst := (HO.out.kept g4 (.inr (row_ne HSZ.out))).stored k (.int .i64 x)
        rw [upTo_set _ HX.out] at hst
        have HS := Lib.hid hst
        have HC5 := Lib.hid (hc4.kept hst.2 (fun b e => by cases e; have := HSZ.out; omega))
        have G5 := Lib.hid (grownBy_over (grownBy_over HG.out g4 (by have := G1.out.size; omega)) hst.2 (by have := G2.out.size; omega))
        clear hst hc4 g4 hq fz hcell
        go_roundg (N - (k + 1))
        case measure => omega
        case rel => exact ⟨k + 1, by omega, rfl, by go_num, HS.out.1, G5.out, by have h := HC5.out; rwa [HLT.out, Nat.mod_add_mod] at h⟩
      · obtain rfl : k = N := by omega
        have t1 : decide ((k : Int) < (k : Int)) = false := by rw [decide_eq_false_iff_not]; omega
        have HU : Hid (Wrote w .i64 (turnsL T k, 0) (.returned (.tuple #[.slice (some ⟨w2.heap.size, 0, none⟩) k k, .int .i64 0])) wr) := Lib.hid (by
          have h := upTo_all (turnsL T k)
          rw [turns_len] at h
          rw [h] at ho
          refine ⟨_, _, by rw [turns_len], Reads.of_own ho, by rw [turns_len]; omega, by simp [maxLen]; omega, (Below.refl _ _).grown hg (Nat.le_refl _) (fun b e => by cases e)⟩)
        clear ho hg hc
        go_wp2_with fail
        go_ret2
        exact HU.out
end Go.Proofs.Ythheehcdicaggaa
