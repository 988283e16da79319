/- told, and the document's own Told: a row of accesses of a cell of numbers. -/
import Derived.Test.YtbjhmciokhmapaaCellOnce
import Derived.StillTailTactics
namespace Go.Proofs.Ytbjhmciokhmapaa
open Go.RowKit
set_option linter.unusedVariables false
set_option linter.unusedSimpArgs false
set_option maxRecDepth 100000

theorem grownBy_drew (w : World) (r : Option Nat) : w.grownBy w.drew r := ⟨rfl, rfl, rfl, Nat.le_refl _, fun _ _ _ => rfl⟩

/-- What a cell that has v has behind an access, and what the access tells. -/
def hasV (v k a b : Int) : Int := if k = 0 then v else if k = 1 then a else if k = 2 then a else if v = a then b else v
def tellsV (v k a b : Int) : Int := if k = 0 then v else if k = 1 then 0 else if k = 2 then v else if v = a then 1 else 0
/-- .. behind j accesses of a row, and what they tell. -/
def hasAt (v : Int) (K A B : List Int) : Nat → Int
  | 0 => v
  | j + 1 => hasV (hasAt v K A B j) (K.getD j 0) (A.getD j 0) (B.getD j 0)
def tellsTo (v : Int) (K A B : List Int) : Nat → List Int
  | 0 => []
  | j + 1 => tellsTo v K A B j ++ [tellsV (hasAt v K A B j) (K.getD j 0) (A.getD j 0) (B.getD j 0)]
theorem tellsTo_length (v : Int) (K A B : List Int) (j : Nat) : (tellsTo v K A B j).length = j := by
  induction j with
  | zero => rfl
  | succ j ih => simp [tellsTo, ih]

def ToldAt (w0 : World) (D : Nat) (v : Int) (K A B : List Int) (out i : Value) (wr : World) : Prop :=
  ∃ k : Nat, k ≤ K.length ∧ i = .int .i64 k ∧ CellOut w0 wr D (hasAt v K A B k) k out (tellsTo v K A B k)

/-- What the call of told leaves. -/
def ToldSays (w0 : World) (D : Nat) (v n : Int) (xs : List Int) (e : Ending) (w' : World) : Prop :=
  ∃ out, e = .returned out ∧ CellOut w0 w' D v n out xs

theorem told_is (w0 w : World) (D : Nat) (v : Int) (a1 a2 a3 : Option Addr) (c1 c2 c3 : Nat) (K A B : List Int) (hn : K.length ≤ 1000) (hA : A.length = K.length) (hB : B.length = K.length)
    (hc : CellI w D v 0) (hD : w0.heap.size ≤ D) (hg : w0.grownBy w none)
    (h1 : Hid (Reads w0 w0.heap.size a1 (K.map (Value.int .i64)))) (h2 : Hid (Reads w0 w0.heap.size a2 (A.map (Value.int .i64)))) (h3 : Hid (Reads w0 w0.heap.size a3 (B.map (Value.int .i64)))) :
    Calls Try.prog 10 #[.pointer (some ⟨D, 0, none⟩), .slice a1 K.length c1, .slice a2 A.length c2, .slice a3 B.length c3] w
      (ToldSays w0 D (hasAt v K A B K.length) K.length (tellsTo v K A B K.length)) := by
  obtain ⟨i0, hi0, hz0, hz1, hz2⟩ := info_parts int_info
  have HI := Lib.hid hi0
  have HZ0 := Lib.hid hz0
  have HZ1 := Lib.hid hz1
  have HZ2 := Lib.hid hz2
  clear hi0 hz0 hz1 hz2
  have HA := Lib.hid hA
  have HB := Lib.hid hB
  clear hA hB
  have S : CellOut w0 (w.alloc (.cells #[] 3)) D v 0 (.slice (some ⟨w.heap.size, 0, none⟩) 0 0) [] := by
    refine ⟨hD, hc.grown0 (World.grownBy_alloc _ _ _), grownBy_trans hg (World.grownBy_alloc _ _ _), Own.empty hg.size, fun p m hp => ?_⟩
    have e : p < w.heap.size := by
      obtain ⟨q, k1, k2⟩ := hc
      have hb := Below.heap_alloc w (.cells #[] 3) D (block_lt k1)
      rw [hb] at hp
      have e := hp.symm.trans k1
      simp at e
      have := block_lt k2
      rw [e.1]
      exact this
    simp [Value.ownBlock]
    omega
  clear hc hg
  go_enter Try.func10, Try.ntmps10
  go_wp2_with fail
  go_loopw [9, 10] (fun out i wr => ToldAt w0 D v K A B out i wr) (fun _ i _ => (1000 - intOf i).toNat)
  case atStart => exact ⟨0, by omega, rfl, S⟩
  case round =>
    obtain ⟨k, hk, rfl, S⟩ := hrel
    by_cases hl : k < K.length
    · have hlA : k < A.length := by rw [HA.out]; exact hl
      have hlB : k < B.length := by rw [HB.out]; exact hl
      obtain ⟨ad1, rfl, _, hc1⟩ := h1.out.int hl
      obtain ⟨ad2, rfl, _, hc2⟩ := h2.out.int hlA
      obtain ⟨ad3, rfl, _, hc3⟩ := h3.out.int hlB
      have e1 : K.getD k 0 = K[k] := by rw [List.getD_eq_getElem?_getD, List.getElem?_eq_getElem hl]; rfl
      have e2 : A.getD k 0 = A[k] := by rw [List.getD_eq_getElem?_getD, List.getElem?_eq_getElem hlA]; rfl
      have e3 : B.getD k 0 = B[k] := by rw [List.getD_eq_getElem?_getD, List.getElem?_eq_getElem hlB]; rfl
      have n1 : hasAt v K A B (k + 1) = hasV (hasAt v K A B k) K[k] A[k] B[k] := by rw [← e1, ← e2, ← e3]; rfl
      have n2 : tellsTo v K A B (k + 1) = tellsTo v K A B k ++ [tellsV (hasAt v K A B k) K[k] A[k] B[k]] := by rw [← e1, ← e2, ← e3]; rfl
      clear e1 e2 e3
      have hyl := tellsTo_length v K A B k
      have hyl2 : (tellsTo v K A B k).length ≤ 1000 := by omega
      clear hyl
      have N1 := Lib.hid n1
      have N2 := Lib.hid n2
      clear n1 n2
      generalize K[k] = kk at hc1 N1 N2
      generalize A[k] = aa at hc2 N1 N2
      generalize B[k] = bb at hc3 N1 N2
      generalize hasAt v K A B k = X at S N1 N2
      generalize tellsTo v K A B k = ys at S N2 hyl2
      have HC1 := Lib.hid hc1
      have HC2 := Lib.hid hc2
      have HC3 := Lib.hid hc3
      clear hc1 hc2 hc3
      have g1 := S.2.2.1.cell HC1.out (by simp)
      have g2 := S.2.2.1.cell HC2.out (by simp)
      have g3 := S.2.2.1.cell HC3.out (by simp)
      by_cases k0 : kk = 0
      · subst k0
        go_wp2_with fail
        refine (loadI' _ _ _ _ S.2.1 (by omega) (by omega)).mono ?_
        rintro e w3 ⟨⟨rfl, kk, g⟩, m⟩
        have S3 := S.go (e := .returned (.int .i64 X)) (r := .int .i64 X) kk g m
        clear S kk g m g1 g2 g3
        go_wp2_with (at_builtin; refine wpList_append_one rfl (.tmp 39) (.tmp 42) 22 rfl i0 (.int .i64 0) 8 Try.underlying22 HI.out HZ0.out HZ1.out HZ2.out rfl rfl _ (.int .i64 X) rfl S3.2.2.2.1 rfl (by simp [maxLen]; omega) (by simp; omega) S3.2.2.1.size ?_; intro out' w4 ho hg hb)
        have S4 := S3.app (ys := ys ++ [X]) (by simpa using ho) hg hb
        clear ho hg hb S3
        go_wp2_with fail
        go_roundw
        case rel => exact ⟨k + 1, by omega, by go_num, by rw [N1.out, N2.out]; exact S4⟩
        case measure => simp [intOf]; omega
      · by_cases k1 : kk = 1
        · subst k1
          go_wp2_with fail
          refine (storeI' _ _ _ _ _ S.2.1 (by omega) (by omega)).mono ?_
          rintro e w3 ⟨⟨rfl, kk, g⟩, m⟩
          have S3 := S.go (e := .returned (.int .i64 X)) (r := .int .i64 X) kk g m
          clear S kk g m g1 g2 g3
          go_wp2_with (at_builtin; refine wpList_append_one rfl (.tmp 52) (.tmp 53) 22 rfl i0 (.int .i64 0) 8 Try.underlying22 HI.out HZ0.out HZ1.out HZ2.out rfl rfl _ (.int .i64 0) rfl S3.2.2.2.1 rfl (by simp [maxLen]; omega) (by simp; omega) S3.2.2.1.size ?_; intro out' w4 ho hg hb)
          have S4 := S3.app (ys := ys ++ [0]) (by simpa using ho) hg hb
          clear ho hg hb S3
          go_wp2_with fail
          go_roundw
          case rel => exact ⟨k + 1, by omega, by go_num, by rw [N1.out, N2.out]; exact S4⟩
          case measure => simp [intOf]; omega
        · by_cases k2 : kk = 2
          · subst k2
            go_wp2_with fail
            refine (swapI' _ _ _ _ _ S.2.1 (by omega) (by omega)).mono ?_
            rintro e w3 ⟨⟨rfl, kk, g⟩, m⟩
            have S3 := S.go (e := .returned (.int .i64 X)) (r := .int .i64 X) kk g m
            clear S kk g m g1 g2 g3
            go_wp2_with (at_builtin; refine wpList_append_one rfl (.tmp 57) (.tmp 64) 22 rfl i0 (.int .i64 0) 8 Try.underlying22 HI.out HZ0.out HZ1.out HZ2.out rfl rfl _ (.int .i64 X) rfl S3.2.2.2.1 rfl (by simp [maxLen]; omega) (by simp; omega) S3.2.2.1.size ?_; intro out' w4 ho hg hb)
            have S4 := S3.app (ys := ys ++ [X]) (by simpa using ho) hg hb
            clear ho hg hb S3
            go_wp2_with fail
            go_roundw
            case rel => exact ⟨k + 1, by omega, by go_num, by rw [N1.out, N2.out]; exact S4⟩
            case measure => simp [intOf]; omega
          · have t0 : (kk == 0) = false := by simpa using k0
            have t1 : (kk == 1) = false := by simpa using k1
            have t2 : (kk == 2) = false := by simpa using k2
            have m1 : hasV X kk aa bb = if X = aa then bb else X := by simp [hasV, k0, k1, k2]
            have m2 : tellsV X kk aa bb = if X = aa then 1 else 0 := by simp [tellsV, k0, k1, k2]
            have M1 := Lib.hid m1
            have M2 := Lib.hid m2
            clear m1 m2 k0 k1 k2
            by_cases hX : X = aa
            · have HX := Lib.hid hX
              have HQ : Hid ((X == aa) = true) := Lib.hid (by simp [hX])
              clear hX
              go_wp2_with fail
              go_still_tail 9, (by kernel_rfl)
              change wpList _ _ _ _ _ wr.drew
              have S2 : CellOut w0 wr.drew D X k u9 ys := S.grown (grownBy_drew _ _)
              clear S g1 g2 g3
              generalize wr.drew = w2 at S2 ⊢
              go_wp2_with fail
              refine (casI_hit' _ _ _ _ _ _ S2.2.1 HQ.out (by omega) (by omega)).mono ?_
              rintro e w3 ⟨⟨rfl, kk, g⟩, m⟩
              have S3 := S2.go (e := .returned (.int .i64 X)) (r := .int .i64 X) kk g m
              clear S2 kk g m
              go_wp2_with (at_builtin; refine wpList_append_one rfl (.tmp 33) (.tmp 35) 22 rfl i0 (.int .i64 0) 8 Try.underlying22 HI.out HZ0.out HZ1.out HZ2.out rfl rfl _ (.int .i64 1) rfl S3.2.2.2.1 rfl (by simp [maxLen]; omega) (by simp; omega) S3.2.2.1.size ?_; intro out' w4 ho hg hb)
              have S4 := S3.app (ys := ys ++ [1]) (by simpa using ho) hg hb
              clear ho hg hb S3
              go_wp2_with fail
              go_roundw
              case rel => exact ⟨k + 1, by omega, by go_num, by rw [N1.out, N2.out, M1.out, M2.out, if_pos HX.out, if_pos HX.out]; exact S4⟩
              case measure => simp [intOf]; omega
            · have HX := Lib.hid hX
              have HQ : Hid ((X == aa) = false) := Lib.hid (by simp [hX])
              clear hX
              go_wp2_with fail
              go_still_tail 9, (by kernel_rfl)
              change wpList _ _ _ _ _ wr.drew
              have S2 : CellOut w0 wr.drew D X k u9 ys := S.grown (grownBy_drew _ _)
              clear S g1 g2 g3
              generalize wr.drew = w2 at S2 ⊢
              go_wp2_with fail
              refine (casI_miss' _ _ _ _ _ _ S2.2.1 HQ.out (by omega) (by omega)).mono ?_
              rintro e w3 ⟨⟨rfl, kk, g⟩, m⟩
              have S3 := S2.go (e := .returned (.int .i64 X)) (r := .int .i64 X) kk g m
              clear S2 kk g m
              go_wp2_with (at_builtin; refine wpList_append_one rfl (.tmp 33) (.tmp 35) 22 rfl i0 (.int .i64 0) 8 Try.underlying22 HI.out HZ0.out HZ1.out HZ2.out rfl rfl _ (.int .i64 0) rfl S3.2.2.2.1 rfl (by simp [maxLen]; omega) (by simp; omega) S3.2.2.1.size ?_; intro out' w4 ho hg hb)
              have S4 := S3.app (ys := ys ++ [0]) (by simpa using ho) hg hb
              clear ho hg hb S3
              go_wp2_with fail
              go_roundw
              case rel => exact ⟨k + 1, by omega, by go_num, by rw [N1.out, N2.out, M1.out, M2.out, if_neg HX.out, if_neg HX.out]; exact S4⟩
              case measure => simp [intOf]; omega
    · obtain rfl : k = K.length := by omega
      have hm : Hid (ToldSays w0 D (hasAt v K A B K.length) K.length (tellsTo v K A B K.length) (.returned u9) wr) := ⟨_, rfl, S⟩
      clear S
      go_wp2_with fail
      go_ret
      exact hm.out
end Go.Proofs.Ytbjhmciokhmapaa
