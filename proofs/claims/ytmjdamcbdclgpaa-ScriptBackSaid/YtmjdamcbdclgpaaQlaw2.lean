/- The walk of ScriptBack, over what the program's four calls say. -/
import Derived.Test.YtmjdamcbdclgpaaQlaw1
namespace Go.Proofs.Ytmjdamcbdclgpaa
open Go.RowKit
set_option linter.unusedVariables false
set_option linter.unusedSimpArgs false
set_option maxRecDepth 100000

set_option maxHeartbeats 4000000 in
theorem scriptBack_walk (K : Words8) (A : Option Addr) (c : Nat) (l : List Int) (A' : Option Addr) (c' : Nat) (b : List Int) (w : World) (hl : IntsIn .i64 w A c l) (hb : IntsIn .u8 w A' c' b) :
    Calls Try.prog 5 #[.slice A l.length c, .slice A' b.length c'] w fun e w' => e = .returned (.bool true) ∧ Below w.heap.size w w' := by
  have HK := Lib.hid K
  obtain ⟨r1, l1, l2, v1, _⟩ := hl
  obtain ⟨r2, l3, l4, v2, _⟩ := hb
  have R1 := Lib.hid r1
  have R2 := Lib.hid r2
  have V1 := Lib.hid fun x hx => wf_int (v1 x hx)
  have V2 := Lib.hid fun x hx => wf_byte (v2 x hx)
  have C2 := Lib.hid (⟨l3, l4⟩ : _ ∧ _)
  have m1 := Nat.le_trans l1 l2
  have m2 := Nat.le_trans l3 l4
  unfold maxLen at m1 m2
  obtain ⟨d1, hd1⟩ : ∃ d, decide ((5000 : Int) < (l.length : Int)) = d := ⟨_, rfl⟩
  obtain ⟨d2, hd2⟩ : ∃ d, decide ((10000 : Int) < (b.length : Int)) = d := ⟨_, rfl⟩
  clear K r1 r2 v1 v2 l1 l2 l3 l4
  go_enter Try.func5, Try.ntmps5
  cases d1 with
  | true =>
    go_wp2_with fail
    go_ret
    exact ⟨rfl, Below.refl _ _⟩
  | false =>
  cases d2 with
  | true =>
    go_wp2_with fail
    go_ret
    exact ⟨rfl, Below.refl _ _⟩
  | false =>
  have n1 : l.length ≤ 5000 := by have := of_decide_eq_false hd1; omega
  have n2 : b.length ≤ 40000 := by have := of_decide_eq_false hd2; omega
  have hq := HK.out.bytes A c l w R1.out n1 V1.out
  have L1 := Lib.hid (bytes_len V1.out)
  have L1b := Lib.hid (bytes_byte l)
  have L1p := Lib.hid (picks_bytes V1.out)
  have N1 := Lib.hid n1
  have N2 := Lib.hid n2
  clear n1 n2
  obtain ⟨X, hX⟩ : ∃ X, bytesI l = X := ⟨_, rfl⟩
  rw [hX] at hq L1 L1b L1p
  obtain ⟨xs, xe⟩ := X
  simp only at L1 L1b L1p
  clear hX
  go_wp2_with fail
  clear hd1 hd2
  refine hq.mono ?_
  rintro e W1 ⟨A1, c1, rfl, s1, sl1, sl2, k1⟩
  have C1 := Lib.hid (⟨sl1, sl2⟩ : _ ∧ _)
  clear sl1 sl2
  have K1 := Lib.hid k1
  have S1 := Lib.hid s1
  clear k1 s1 hq
  -- what stands behind the first part
  have rest : ∀ W2, Below w.heap.size w W2 → ∃ ys ye, picksI b = (ys, ye) ∧ Calls Try.prog 17 #[.slice A' b.length c'] W2 (Wrote W2 .i64 (ys, ye)) := fun W2 hW => ⟨_, _, rfl, HK.out.picks A' c' b W2 ((R2.out.below hW).more hW.size) C2.out.1 C2.out.2 V2.out⟩
  have REST := Lib.hid rest
  have L2 := Lib.hid (decL_len 4000 b)
  clear rest
  rcases hxe : (xe == (0 : Int)) with _ | _
  · go_wp2_with fail
    obtain ⟨ys, ye, hY, hq⟩ := REST.out W1 K1.out
    have HY := Lib.hid hY
    have hlen := L2.out
    rw [show decL 4000 b = (ys, ye) from hY] at hlen
    simp only at hlen
    clear hY
    refine hq.mono ?_
    rintro e W5 ⟨A5, c5, rfl, s5, _, _, k5⟩
    have K5 := Lib.hid (below_next K1.out k5)
    clear k5 hq
    rcases hye : (ye != (0 : Int)) with _ | _
    · have hz : ye = 0 := by simpa using hye
      have HB := bytes_picks V2.out (by rw [HY.out]; exact hz)
      have HV := (encL_decL (n := 4000) (b := b) (l := ys) V2.out (by have := HY.out; unfold picksI at this; rw [this, hz])).2.2
      rw [HY.out] at HB
      have hq := HK.out.bytes A5 c5 ys W5 s5 (by omega) (fun x hx => (HV x hx).2)
      rw [HB] at hq
      clear hz HB HV s5
      go_wp2_with fail
      refine hq.mono ?_
      rintro e W6 ⟨A6, c6, rfl, s6, _, _, k6⟩
      have K6 := Lib.hid (below_next K5.out k6)
      have S6 := Lib.hid s6
      clear k6 s6 hq
      go_wp2_with fail
      refine (written_is HK.out W6).mono ?_
      rintro e W7 ⟨rfl, k7⟩
      have K7 := Lib.hid (below_next K6.out k7)
      have hq1 := sameB_yes A6 A' c6 c' W7.heap.size w.heap.size b W7 ((S6.out.below k7).more k7.size) (R2.out.below K7.out)
      clear k7
      go_wp2_with fail
      refine hq1.mono ?_
      rintro e W8 ⟨rfl, rfl⟩
      go_wp2_with fail
      go_ret
      exact ⟨rfl, K7.out⟩
    · have hn : ye ≠ 0 := by simpa using hye
      have hnil := picks_nil (b := b) (by rw [HY.out]; exact hn)
      rw [HY.out] at hnil
      simp only at hnil
      subst hnil
      clear hn s5 hlen
      go_wp2_with fail
      refine (written_is HK.out W5).mono ?_
      rintro e W7 ⟨rfl, k7⟩
      have K7 := Lib.hid (below_next K5.out k7)
      clear k7
      go_wp2_with fail
      go_ret
      exact ⟨rfl, K7.out⟩
  · have hz : xe = 0 := by simpa using hxe
    have hq := HK.out.picks A1 c1 xs W1 S1.out C1.out.1 C1.out.2 L1b.out
    rw [L1p.out hz] at hq
    clear hz
    go_wp2_with fail
    refine hq.mono ?_
    rintro e W2 ⟨A2, c2, rfl, s2, _, _, k2⟩
    have K2 := Lib.hid (below_next K1.out k2)
    have hq2 := sameI_yes A2 A c2 c W2.heap.size w.heap.size l W2 (by have := N1.out; simp [maxLen]; omega) (Lib.hid s2) (Lib.hid (R1.out.below K2.out))
    clear k2 hq s2
    go_wp2_with fail
    refine hq2.mono ?_
    rintro e W3 ⟨rfl, k3⟩
    have K3 := Lib.hid (below_next K2.out k3)
    clear k3 hq2
    go_wp2_with fail
    obtain ⟨ys, ye, hY, hq⟩ := REST.out W3 K3.out
    have HY := Lib.hid hY
    have hlen := L2.out
    rw [show decL 4000 b = (ys, ye) from hY] at hlen
    simp only at hlen
    clear hY
    refine hq.mono ?_
    rintro e W5 ⟨A5, c5, rfl, s5, _, _, k5⟩
    have K5 := Lib.hid (below_next K3.out k5)
    clear k5 hq
    rcases hye : (ye != (0 : Int)) with _ | _
    · have hz : ye = 0 := by simpa using hye
      have HB := bytes_picks V2.out (by rw [HY.out]; exact hz)
      have HV := (encL_decL (n := 4000) (b := b) (l := ys) V2.out (by have := HY.out; unfold picksI at this; rw [this, hz])).2.2
      rw [HY.out] at HB
      have hq := HK.out.bytes A5 c5 ys W5 s5 (by omega) (fun x hx => (HV x hx).2)
      rw [HB] at hq
      clear hz HB HV s5
      go_wp2_with fail
      refine hq.mono ?_
      rintro e W6 ⟨A6, c6, rfl, s6, _, _, k6⟩
      have K6 := Lib.hid (below_next K5.out k6)
      have S6 := Lib.hid s6
      clear k6 s6 hq
      go_wp2_with fail
      refine (written_is HK.out W6).mono ?_
      rintro e W7 ⟨rfl, k7⟩
      have K7 := Lib.hid (below_next K6.out k7)
      have hq1 := sameB_yes A6 A' c6 c' W7.heap.size w.heap.size b W7 ((S6.out.below k7).more k7.size) (R2.out.below K7.out)
      clear k7
      go_wp2_with fail
      refine hq1.mono ?_
      rintro e W8 ⟨rfl, rfl⟩
      go_wp2_with fail
      go_ret
      exact ⟨rfl, K7.out⟩
    · have hn : ye ≠ 0 := by simpa using hye
      have hnil := picks_nil (b := b) (by rw [HY.out]; exact hn)
      rw [HY.out] at hnil
      simp only at hnil
      subst hnil
      clear hn s5 hlen
      go_wp2_with fail
      refine (written_is HK.out W5).mono ?_
      rintro e W7 ⟨rfl, k7⟩
      have K7 := Lib.hid (below_next K5.out k7)
      clear k7
      go_wp2_with fail
      go_ret
      exact ⟨rfl, K7.out⟩
end Go.Proofs.Ytmjdamcbdclgpaa
