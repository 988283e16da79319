/- SchedMore: the walk, over what the program's four calls say. -/
import Derived.Test.YthheehcdicaggaaDlaw1
namespace Go.Proofs.Ythheehcdicaggaa
open Go.RowKit
set_option linter.unusedVariables false
set_option linter.unusedSimpArgs false
set_option maxRecDepth 100000

theorem fair_one {l : List Int} {t b : Int} (h : fairI l t b = true) : 1 ≤ b := by
  unfold fairI at h
  simp only [Bool.and_eq_true, decide_eq_true_eq] at h
  exact h.1.2
theorem nums_part {w : World} {ad : Addr} {c : Nat} {l : List Int} (h : NumsIn w (some ad) c l) {f m : Nat} (hl : f + m ≤ l.length) : NumsIn w (some (ad.add f)) (c - f) ((l.drop f).take m) :=
  ⟨by rw [List.map_take, List.map_drop]; exact reads_part h.r f m, by rw [List.length_take, List.length_drop]; have := h.lc; omega, by have := h.cm; omega, fun x hx => h.v x (List.mem_of_mem_drop (List.mem_of_mem_take hx))⟩
theorem nums_empty {w : World} {A : Option Addr} {c : Nat} {l : List Int} (h : NumsIn w A c l) : NumsIn w A 0 [] := ⟨fun hn => absurd hn (by simp), Nat.le_refl _, by simp [maxLen], fun x hx => by cases hx⟩

set_option maxHeartbeats 8000000 in
theorem schedMore_walk (K : Words9) (A : Option Addr) (c : Nat) (l : List Int) (t b f g : Int) (w : World) (hl : IntsIn .i64 w A c l) (ht : (Lit.int .i64 t).wf = true) (hb : (Lit.int .i64 b).wf = true) (hf : (Lit.int .i64 f).wf = true) (hg : (Lit.int .i64 g).wf = true) :
    Calls Try.prog 5 #[.slice A l.length c, .int .i64 t, .int .i64 b, .int .i64 f, .int .i64 g] w fun e w' => e = .returned (.bool true) ∧ Below w.heap.size w w' := by
  have HK := Lib.hid K
  have N0 := Lib.hid (nums_of hl)
  have NA := Lib.hid hl.2.2.2.2
  have VT := Lib.hid (i64_of ht)
  have VB := Lib.hid (i64_of hb)
  have m1 := Nat.le_trans hl.2.1 hl.2.2.1
  have hlc := hl.2.1
  have hcm := hl.2.2.1
  unfold maxLen at m1 hcm
  have HP := Lib.hid (fun W => picked_is HK.out W)
  obtain ⟨d1, hd1⟩ : ∃ d, decide ((200 : Int) < (l.length : Int)) = d := ⟨_, rfl⟩
  obtain ⟨d2, hd2⟩ : ∃ d, decide ((20 : Int) < t) = d := ⟨_, rfl⟩
  obtain ⟨d3, hd3⟩ : ∃ d, decide ((1000 : Int) < b) = d := ⟨_, rfl⟩
  obtain ⟨d4, hd4⟩ : ∃ d, decide (f < (0 : Int)) = d := ⟨_, rfl⟩
  obtain ⟨d5, hd5⟩ : ∃ d, decide (g < f) = d := ⟨_, rfl⟩
  obtain ⟨d6, hd6⟩ : ∃ d, decide ((l.length : Int) < g) = d := ⟨_, rfl⟩
  clear K hl ht hb hf hg
  by_cases hall : d1 = true ∨ (d1 = false ∧ d2 = true) ∨ (d1 = false ∧ d2 = false ∧ d3 = true)
  · rcases hall with rfl | ⟨rfl, rfl⟩ | ⟨rfl, rfl, rfl⟩
    all_goals
      go_enter Try.func5, Try.ntmps5
      go_wp2_with fail
      refine (HP.out w).mono ?_
      rintro e W1 ⟨rfl, k1⟩
      go_wp2_with fail
      go_ret
      exact ⟨rfl, k1⟩
  obtain ⟨rfl, rfl, rfl⟩ : d1 = false ∧ d2 = false ∧ d3 = false := by
    cases d1 <;> cases d2 <;> cases d3 <;> simp at hall ⊢
  clear hall
  have n1 : l.length ≤ 200 := by have := of_decide_eq_false hd1; omega
  have n2 : t ≤ 20 := by have := of_decide_eq_false hd2; omega
  have n3 : b ≤ 1000 := by have := of_decide_eq_false hd3; omega
  have N1 := Lib.hid n1
  have N2 := Lib.hid n2
  have N3 := Lib.hid n3
  have hq := HK.out.fair A c l t b w N0.out (by omega) VT.out n2 VB.out
  obtain ⟨R, hR⟩ : ∃ R, fairI l t b = R := ⟨_, rfl⟩
  rw [hR] at hq
  have HR := Lib.hid hR
  clear hR n1 n2
  cases R with
  | false =>
    go_enter Try.func5, Try.ntmps5
    go_wp2_with fail
    refine hq.mono ?_
    rintro e W1 ⟨rfl, k1⟩
    clear hq
    have B1 := Lib.hid k1
    clear k1
    go_wp2_with fail
    refine (HP.out W1).mono ?_
    rintro e W2 ⟨rfl, k2⟩
    go_wp2_with fail
    go_ret
    exact ⟨rfl, below_next B1.out k2⟩
  | true =>
  have hb1 := fair_one HR.out
  by_cases hall : d4 = true ∨ (d4 = false ∧ d5 = true) ∨ (d4 = false ∧ d5 = false ∧ d6 = true)
  · rcases hall with rfl | ⟨rfl, rfl⟩ | ⟨rfl, rfl, rfl⟩
    all_goals
      go_enter Try.func5, Try.ntmps5
      go_wp2_with fail
      refine hq.mono ?_
      rintro e W1 ⟨rfl, k1⟩
      clear hq
      have B1 := Lib.hid k1
      clear k1
      go_wp2_with fail
      refine (HP.out W1).mono ?_
      rintro e W2 ⟨rfl, k2⟩
      go_wp2_with fail
      go_ret
      exact ⟨rfl, below_next B1.out k2⟩
  obtain ⟨rfl, rfl, rfl⟩ : d4 = false ∧ d5 = false ∧ d6 = false := by
    cases d4 <;> cases d5 <;> cases d6 <;> simp at hall ⊢
  clear hall
  have h4 := of_decide_eq_false hd4
  have h5 := of_decide_eq_false hd5
  have h6 := of_decide_eq_false hd6
  obtain ⟨f, rfl⟩ : ∃ k : Nat, f = (k : Int) := ⟨f.toNat, by omega⟩
  obtain ⟨g, rfl⟩ : ∃ k : Nat, g = (k : Int) := ⟨g.toNat, by omega⟩
  have hfg : f ≤ g := by omega
  have hgl : g ≤ l.length := by omega
  clear h4 h5 h6
  have HMO := Lib.hid (fairI_more HR.out)
  have HMS := Lib.hid (fairI_most HR.out)
  have hb2 : b + 1 ≤ 1001 := by omega
  have VB1 : Hid (I64 (b + 1)) := Lib.hid (by unfold I64; omega)
  go_enter Try.func5, Try.ntmps5
  go_wp2_with fail
  refine hq.mono ?_
  rintro e W1 ⟨rfl, k1⟩
  clear hq
  have B1 := Lib.hid k1
  have M1 := Lib.hid (N0.out.below k1)
  clear k1
  go_wp2_with fail
  refine (HP.out W1).mono ?_
  rintro e W2 ⟨rfl, k2⟩
  have B2 := Lib.hid (below_next B1.out k2)
  have M2 := Lib.hid (M1.out.below k2)
  clear k2
  have hq := HK.out.fair A c l t (b + 1) W2 M2.out (by have := N1.out; omega) VT.out N2.out VB1.out
  rw [HMO.out] at hq
  go_wp2_with fail
  refine hq.mono ?_
  rintro e W3 ⟨rfl, k3⟩
  have B3 := Lib.hid (below_next B2.out k3)
  have M3 := Lib.hid (M2.out.below k3)
  clear hq k3
  -- the part, as it is spelt: nothing at the row's end, or from f on
  have hqA : c = f → Calls Try.prog 14 #[.slice A (g - f) 0, .int .i64 t, .int .i64 b] W3 (Says W3 true) := fun e => by
    have e0 : g - f = 0 := by omega
    have h1 := HK.out.fair A 0 [] t b W3 (nums_empty M3.out) (by simp) VT.out N2.out VB.out
    have h2 := fairI_part HR.out (f := f) (m := 0) (by omega)
    rw [List.take_zero] at h2
    rw [h2] at h1
    rw [e0]
    exact h1
  have hqB : c ≠ f → Calls Try.prog 14 #[.slice (Option.map (fun x => x.add f) A) (g - f) (c - f), .int .i64 t, .int .i64 b] W3 (Says W3 true) := fun e => by
    rcases hA : A with _ | ad
    · have := NA.out hA
      omega
    · have hM := M3.out
      rw [hA] at hM
      have h1 := HK.out.fair (some (ad.add f)) (c - f) ((l.drop f).take (g - f)) t b W3 (nums_part hM (by omega)) (by rw [List.length_take, List.length_drop]; have := N1.out; omega) VT.out N2.out VB.out
      rw [fairI_part HR.out (f := f) (m := g - f) (by omega), show ((l.drop f).take (g - f)).length = g - f by rw [List.length_take, List.length_drop]; omega] at h1
      exact h1
  have HA := Lib.hid hqA
  have HB := Lib.hid hqB
  clear hqA hqB
  go_wp2_with fail
  case' inl =>
    have hcf : c = f := by omega
    subst hcf
    refine (HA.out rfl).mono ?_
  case' inr => refine (HB.out (by omega)).mono ?_
  all_goals
    rintro e W4 ⟨rfl, k4⟩
    have B4 := Lib.hid (below_next B3.out k4)
    have hq := HK.out.most _ _ l t W4 (M3.out.below k4) (by have := N1.out; omega) VT.out N2.out
    clear k4 HA HB
    have hms := HMS.out
    obtain ⟨Q, hQ⟩ : ∃ Q, mostI l t = Q := ⟨_, rfl⟩
    rw [hQ] at hq hms
    clear hQ
    go_wp2_with fail
    refine hq.mono ?_
    rintro e W5 ⟨rfl, k5⟩
    have B5 := Lib.hid (below_next B4.out k5)
    have e1 : decide (Q ≤ b) = true := decide_eq_true hms
    have e2 : max b 1 = b := by omega
    clear hq k5
    go_wp2_with fail
    go_ret
    exact ⟨rfl, B5.out⟩
end Go.Proofs.Ythheehcdicaggaa
