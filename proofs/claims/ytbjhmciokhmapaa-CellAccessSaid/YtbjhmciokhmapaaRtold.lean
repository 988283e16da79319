/- The document's own Told: what a row of accesses tells. -/
import Derived.Test.YtbjhmciokhmapaaTold
namespace Go.Proofs.Ytbjhmciokhmapaa
open Go.RowKit
set_option linter.unusedVariables false
set_option linter.unusedSimpArgs false
set_option maxRecDepth 100000

/-- A row of the call's own, made since w. -/
def OutOf (w wi : World) (out : Value) (xs : List Int) : Prop := w.grownBy wi none ∧ Own 3 w.heap.size wi out (xs.map (Value.int .i64))
theorem OutOf.app {w wi wj : World} {out out' : Value} {xs ys : List Int} (h : OutOf w wi out xs) (ho : Own 3 w.heap.size wj out' (ys.map (Value.int .i64))) (g : wi.grownBy wj out.ownBlock) : OutOf w wj out' ys := by
  refine ⟨?_, ho⟩
  rcases ho' : out.ownBlock with _ | k
  · rw [ho'] at g; exact grownBy_trans h.1 g
  · rw [ho'] at g; exact grownBy_over h.1 g (h.2.lt k ho').1

def RefAt (w : World) (v : Int) (K A B : List Int) (x out i : Value) (wr : World) : Prop :=
  ∃ k : Nat, k ≤ K.length ∧ i = .int .i64 k ∧ x = .int .i64 (hasAt v K A B k) ∧ OutOf w wr out (tellsTo v K A B k)
def RefSays (w : World) (v : Int) (xs : List Int) (e : Ending) (w' : World) : Prop :=
  ∃ out, e = .returned (.tuple #[out, .int .i64 v]) ∧ OutOf w w' out xs

theorem rtold_is (w : World) (v : Int) (a1 a2 a3 : Option Addr) (c1 c2 c3 : Nat) (K A B : List Int) (hn : K.length ≤ 1000) (hA : A.length = K.length) (hB : B.length = K.length)
    (h1 : Hid (Reads w w.heap.size a1 (K.map (Value.int .i64)))) (h2 : Hid (Reads w w.heap.size a2 (A.map (Value.int .i64)))) (h3 : Hid (Reads w w.heap.size a3 (B.map (Value.int .i64)))) :
    Calls Try.prog 11 #[.int .i64 v, .slice a1 K.length c1, .slice a2 A.length c2, .slice a3 B.length c3] w (RefSays w (hasAt v K A B K.length) (tellsTo v K A B K.length)) := by
  obtain ⟨i0, hi0, hz0, hz1, hz2⟩ := info_parts int_info
  have HI := Lib.hid hi0
  have HZ0 := Lib.hid hz0
  have HZ1 := Lib.hid hz1
  have HZ2 := Lib.hid hz2
  clear hi0 hz0 hz1 hz2
  have HA := Lib.hid hA
  have HB := Lib.hid hB
  clear hA hB
  have S : OutOf w (w.alloc (.cells #[] 3)) (.slice (some ⟨w.heap.size, 0, none⟩) 0 0) [] := ⟨World.grownBy_alloc _ _ _, Own.empty (Nat.le_refl _)⟩
  go_enter Try.func11, Try.ntmps11
  go_wp2_with fail
  go_loopw [0, 10, 11] (fun x out i wr => RefAt w v K A B x out i wr) (fun _ _ i _ => (1000 - intOf i).toNat)
  case atStart => exact ⟨0, by omega, rfl, rfl, S⟩
  case round =>
    obtain ⟨k, hk, rfl, rfl, S⟩ := hrel
    by_cases hl : k < K.length
    · have hlA : k < A.length := by rw [HA.out]; exact hl
      have hlB : k < B.length := by rw [HB.out]; exact hl
      obtain ⟨ad1, rfl, _, hc1⟩ := h1.out.int hl
      obtain ⟨ad2, rfl, _, hc2⟩ := h2.out.int hlA
      obtain ⟨ad3, rfl, _, hc3⟩ := h3.out.int hlB
      have e1 : K.getD k 0 = K[k] := by rw [List.getD_eq_getElem?_getD, List.getElem?_eq_getElem hl]; rfl
      have e2 : A.getD k 0 = A[k] := by rw [List.getD_eq_getElem?_getD, List.getElem?_eq_getElem hlA]; rfl
      have e3 : B.getD k 0 = B[k] := by rw [List.getD_eq_getElem?_getD, List.getElem?_eq_getElem hlB]; rfl
      have n1 : hasAt v K A B (k + 1) = hasV (hasAt v K A B k) K[k] A[k] B[k] := by rw [← e1, ← e2, ← e3]; rfl
      have n2 : tellsTo v K A B (k + 1) = tellsTo v K A B k ++ [tellsV (hasAt v K A B k) K[k] A[k] B[k]] := by rw [← e1, ← e2, ← e3]; rfl
      clear e1 e2 e3
      have hyl := tellsTo_length v K A B k
      have hyl2 : (tellsTo v K A B k).length ≤ 1000 := by omega
      clear hyl
      have N1 := Lib.hid n1
      have N2 := Lib.hid n2
      clear n1 n2
      generalize K[k] = kk at hc1 N1 N2
      generalize A[k] = aa at hc2 N1 N2
      generalize B[k] = bb at hc3 N1 N2
      generalize hasAt v K A B k = X at N1 N2 ⊢
      generalize tellsTo v K A B k = ys at S N2 hyl2
      have HC1 := Lib.hid hc1
      have HC2 := Lib.hid hc2
      have HC3 := Lib.hid hc3
      clear hc1 hc2 hc3
      have g1 := S.1.cell HC1.out (by simp)
      by_cases k0 : kk = 0
      · subst k0
        go_wp2_with (at_builtin; refine wpList_append_one rfl (.tmp 41) (.tmp 43) 22 rfl i0 (.int .i64 0) 8 Try.underlying22 HI.out HZ0.out HZ1.out HZ2.out rfl rfl _ (.int .i64 X) rfl S.2 rfl (by simp [maxLen]; omega) (by simp; omega) S.1.size ?_; intro out' w4 ho hg hb; have S4 := S.app (ys := ys ++ [X]) (by simpa using ho) hg)
        go_roundw
        case rel => exact ⟨k + 1, by omega, by go_num, by rw [N1.out]; rfl, by rw [N2.out]; exact S4⟩
        case measure => simp [intOf]; omega
      · by_cases k1 : kk = 1
        · subst k1
          go_wp2_with (at_builtin; refine wpList_append_one rfl (.tmp 47) (.tmp 48) 22 rfl i0 (.int .i64 0) 8 Try.underlying22 HI.out HZ0.out HZ1.out HZ2.out rfl rfl _ (.int .i64 0) rfl S.2 rfl (by simp [maxLen]; omega) (by simp; omega) S.1.size ?_; intro out' w4 ho hg hb; have S4 := S.app (ys := ys ++ [0]) (by simpa using ho) hg; have gn := S4.1.cell HC2.out (by simp))
          go_roundw
          case rel => exact ⟨k + 1, by omega, by go_num, by rw [N1.out]; rfl, by rw [N2.out]; exact S4⟩
          case measure => simp [intOf]; omega
        · by_cases k2 : kk = 2
          · subst k2
            go_wp2_with (at_builtin; refine wpList_append_one rfl (.tmp 56) (.tmp 58) 22 rfl i0 (.int .i64 0) 8 Try.underlying22 HI.out HZ0.out HZ1.out HZ2.out rfl rfl _ (.int .i64 X) rfl S.2 rfl (by simp [maxLen]; omega) (by simp; omega) S.1.size ?_; intro out' w4 ho hg hb; have S4 := S.app (ys := ys ++ [X]) (by simpa using ho) hg; have gn := S4.1.cell HC2.out (by simp))
            go_roundw
            case rel => exact ⟨k + 1, by omega, by go_num, by rw [N1.out]; rfl, by rw [N2.out]; exact S4⟩
            case measure => simp [intOf]; omega
          · have t0 : (kk == 0) = false := by simpa using k0
            have t1 : (kk == 1) = false := by simpa using k1
            have t2 : (kk == 2) = false := by simpa using k2
            have m1 : hasV X kk aa bb = if X = aa then bb else X := by simp [hasV, k0, k1, k2]
            have m2 : tellsV X kk aa bb = if X = aa then 1 else 0 := by simp [tellsV, k0, k1, k2]
            have M1 := Lib.hid m1
            have M2 := Lib.hid m2
            clear m1 m2 k0 k1 k2
            have g2 := S.1.cell HC2.out (by simp)
            by_cases hX : X = aa
            · have HX := Lib.hid hX
              have hq : (X == aa) = true := by simp [hX]
              clear hX
              go_wp2_with (at_builtin; refine wpList_append_one rfl (.tmp 29) (.tmp 30) 22 rfl i0 (.int .i64 0) 8 Try.underlying22 HI.out HZ0.out HZ1.out HZ2.out rfl rfl _ (.int .i64 1) rfl S.2 rfl (by simp [maxLen]; omega) (by simp; omega) S.1.size ?_; intro out' w4 ho hg hb; have S4 := S.app (ys := ys ++ [1]) (by simpa using ho) hg; have gn := S4.1.cell HC3.out (by simp))
              go_roundw
              case rel => exact ⟨k + 1, by omega, by go_num, by rw [N1.out, M1.out, if_pos HX.out], by rw [N2.out, M2.out, if_pos HX.out]; exact S4⟩
              case measure => simp [intOf]; omega
            · have HX := Lib.hid hX
              have hq : (X == aa) = false := by simp [hX]
              clear hX
              go_wp2_with (at_builtin; refine wpList_append_one rfl (.tmp 36) (.tmp 37) 22 rfl i0 (.int .i64 0) 8 Try.underlying22 HI.out HZ0.out HZ1.out HZ2.out rfl rfl _ (.int .i64 0) rfl S.2 rfl (by simp [maxLen]; omega) (by simp; omega) S.1.size ?_; intro out' w4 ho hg hb; have S4 := S.app (ys := ys ++ [0]) (by simpa using ho) hg)
              go_roundw
              case rel => exact ⟨k + 1, by omega, by go_num, by rw [N1.out, M1.out, if_neg HX.out], by rw [N2.out, M2.out, if_neg HX.out]; exact S4⟩
              case measure => simp [intOf]; omega
    · obtain rfl : k = K.length := by omega
      rename_i out _
      have hm : Hid (∀ out, OutOf w wr out (tellsTo v K A B K.length) → RefSays w (hasAt v K A B K.length) (tellsTo v K A B K.length) (.returned (.tuple #[out, .int .i64 (hasAt v K A B K.length)])) wr) := fun out h => ⟨_, rfl, h⟩
      have HS := Lib.hid S
      clear S
      go_wp2_with fail
      go_ret2
      exact hm.out _ HS.out
end Go.Proofs.Ytbjhmciokhmapaa
