/- The walk of RoutesMore. -/
import Derived.Test.YtnjacobimndnbaaRone
import Derived.Test.YtnjacobimndnbaaRmore
import Derived.Test.YtnjacobimndnbaaRgrow
import Derived.Deep.RegionHeld3
namespace Go.Proofs.Ytnjacobimndnbaa
open Go.RowKit
set_option linter.unusedVariables false
set_option linter.unusedSimpArgs false
set_option maxRecDepth 100000

theorem short_more {l : List Rl} {r : Rl} (h : Short l) (h1 : r.host.size ≤ 2000) (h2 : r.path.size ≤ 2000) : Short (l ++ [r]) := fun x hx => by
  rcases List.mem_append.1 hx with hx | hx
  · exact h x hx
  · simp at hx; subst hx; exact ⟨h1, h2⟩

theorem end_four (l : List Rl) (f : Rl → Bool) (r : Rl) :
    (numO (bestO l f) = 0 ∧ errO (bestO l f) = 5 ∧ numO (bestO (l ++ [r]) f) = 0 ∧ errO (bestO (l ++ [r]) f) = 5) ∨
    (numO (bestO l f) = 0 ∧ errO (bestO l f) = 5 ∧ numO (bestO (l ++ [r]) f) = l.length ∧ errO (bestO (l ++ [r]) f) = 0 ∧ f r = true) ∨
    (∃ x, ∃ h : x < l.length, numO (bestO l f) = x ∧ errO (bestO l f) = 0 ∧ numO (bestO (l ++ [r]) f) = l.length ∧ errO (bestO (l ++ [r]) f) = 0 ∧ f r = true ∧ btB r l[x] = true) ∨
    (∃ x, ∃ h : x < l.length, numO (bestO l f) = x ∧ errO (bestO l f) = 0 ∧ numO (bestO (l ++ [r]) f) = x ∧ errO (bestO (l ++ [r]) f) = 0) := by
  rcases end_more l f r with ⟨h0, _, h2⟩ | ⟨h0, h1, h2⟩ | ⟨x, hx, h1, h2, h3⟩ | ⟨x, hx, _, h2⟩
  · exact .inl ⟨by rw [h0]; rfl, by rw [h0]; rfl, by rw [h2]; rfl, by rw [h2]; rfl⟩
  · exact .inr (.inl ⟨by rw [h0]; rfl, by rw [h0]; rfl, h2.num, h2.err, h1⟩)
  · exact .inr (.inr (.inl ⟨x, hx.lt, hx.num, hx.err, h3.num, h3.err, h1, h2⟩))
  · exact .inr (.inr (.inr ⟨x, hx.lt, hx.num, hx.err, h2.num, h2.err⟩))

set_option maxHeartbeats 8000000 in
theorem routesMore_walk (A : Option Addr) (c : Nat) (l : List Rl) (n : Int) (h p : ByteArray) (r : Rl) (w : World) (hin : RulesIn w w.heap.size A c l) (wf : (Lit.int .i64 n).wf = true) (hs : h.size ≤ maxLen) (ps : p.size ≤ maxLen) :
    Calls Try.prog 6 #[.slice A l.length c, .int .i64 n, .string h, .string p, r.val] w fun e w' => e = .returned (.bool true) ∧ Below w.heap.size w w' := by
  obtain ⟨ir, hir, hr0, hr1, hr2⟩ := info_parts rule_info
  have IR := Lib.hid (⟨hir, hr0, hr1, hr2⟩ : _ ∧ _ ∧ _ ∧ _)
  clear hir hr0 hr1 hr2 wf
  obtain ⟨wb, hwb⟩ : ∃ wb, w.alloc (.cells #[.int .i64 r.listen, .string r.host, .string r.path, .int .i64 r.cluster] 31) = wb := ⟨_, rfl⟩
  have hB0 : Below w.heap.size w wb := by rw [← hwb]; exact boxed w _
  have hX : Box4 wb w.heap.size r := by rw [← hwb]; exact Box4.new w r
  have BX := Lib.hid hB0
  have XX := Lib.hid hX
  have hL := long_is A c l h p wb (hin.next hB0)
  obtain ⟨b, hb⟩ : ∃ b, longB l h p = b := ⟨_, rfl⟩
  rw [hb] at hL
  have HIN := Lib.hid (hin.next hB0)
  have HB := Lib.hid hb
  clear hb hin hB0
  obtain ⟨x1, hx1⟩ : ∃ b, decide (100 < (r.host.size : Int)) = b := ⟨_, rfl⟩
  obtain ⟨x2, hx2⟩ : ∃ b, decide (100 < (r.path.size : Int)) = b := ⟨_, rfl⟩
  obtain ⟨f0, f1, f2, f3⟩ := hX.four
  clear hX
  unfold Rl.val
  by_cases hi : b = true ∨ x1 = true ∨ x2 = true
  · have HXX := Lib.hid hi
    clear hi HB
    cases b <;> cases x1 <;> cases x2
    case false.false.false => exact absurd HXX.out (by decide)
    all_goals
      clear HXX
      go_enter Try.func6, Try.ntmps6
      go_wp2_with fail
      refine hL.mono ?_
      rintro e wx ⟨rfl, rfl⟩
      clear hL
      go_wp2_with fail
      go_ret
      exact ⟨rfl, BX.out⟩
  · obtain rfl : b = false := by cases b <;> simp_all
    obtain rfl : x1 = false := by cases x1 <;> simp_all
    obtain rfl : x2 = false := by cases x2 <;> simp_all
    clear hi
    have F := Lib.hid (Fine.of HB.out)
    have hm : l.length ≤ 9223372036854775807 := HIN.out.len
    have h50 : l.length ≤ 50 := F.out.len
    have RH := Lib.hid (show r.host.size ≤ 2000 from by have := of_decide_eq_false hx1; omega)
    have RP := Lib.hid (show r.path.size ≤ 2000 from by have := of_decide_eq_false hx2; omega)
    have MM := Lib.hid (MadeR.start (Below.refl wb.heap.size wb))
    have HR := Lib.hid (HIN.out.below (boxed wb (.cells #[] 31))).rows
    have EM := Lib.hid (end_four l (fitsB n h p) r)
    go_enter Try.func6, Try.ntmps6
    go_wp2_with fail
    refine hL.mono ?_
    rintro e wx ⟨rfl, rfl⟩
    clear hL hwb
    have FF := Lib.hid (⟨f0, f1, f2, f3⟩ : _ ∧ _ ∧ _ ∧ _)
    go_wp2_with (first
      | (at_builtin; refine wpList_append_any4 rfl (.tmp 33) (.tmp 34) 22 rfl ir (.agg #[.int .i64 0, .string ⟨#[]⟩, .string ⟨#[]⟩, .int .i64 0]) 48 Try.underlying22 IR.out.1 IR.out.2.1 IR.out.2.2.1 IR.out.2.2.2 rfl rfl _ (rs := []) (ys := l.map Rl.cells) MM.out.own (cells4 l) (by rw [List.length_map]; rfl) HR.out (cells1 l) (by simp [maxLen]; omega) (by simp; omega) MM.out.B.size ?_; intro v' w4 ho hg hb4; have M1 := Lib.hid (MM.out.grown (m := l) hg ho); clear f0 f1 f2 f3; obtain ⟨f0, f1, f2, f3⟩ := (XX.out.below M1.out.B).four; clear ho hg hb4)
      | (at_builtin; refine wpList_append_one4 rfl (.tmp 36) (.tmp 38) 22 rfl ir (.agg #[.int .i64 0, .string ⟨#[]⟩, .string ⟨#[]⟩, .int .i64 0]) 48 Try.underlying22 IR.out.1 IR.out.2.1 IR.out.2.2.1 IR.out.2.2.2 rfl rfl _ _ _ _ _ (by simp [Value.oneCell']) M1.out.own rfl (by simp [maxLen]; omega) (by simp; omega) M1.out.B.size ?_; intro v'' w5 ho hg hb4; have M2 := Lib.hid (M1.out.grown (m := [r]) hg ho); clear ho hg hb4))
    have M3 : MadeR wb w5 v'' (l ++ [r]) := M2.out
    clear M2 M1 f0 f1 f2 f3 MM HR FF
    obtain ⟨A2, c2, hv, R2⟩ := M3.rules
    subst hv
    have B5 := M3.B
    have h1 := best_calls A c l n h p w5 (HIN.out.next B5) F.out.h F.out.paths
    have h2 := fun (W : World) (hW : RulesIn W W.heap.size A2 c2 (l ++ [r])) => best_calls A2 c2 (l ++ [r]) n h p W hW F.out.h (fun x hx => (short_more F.out.short RH.out RP.out x hx).2)
    have hE := EM.out
    clear EM
    generalize numO (bestO (l ++ [r]) (fitsB n h p)) = a2 at h2 hE
    generalize errO (bestO (l ++ [r]) (fitsB n h p)) = d2 at h2 hE
    generalize numO (bestO l (fitsB n h p)) = a1 at h1 hE
    generalize errO (bestO l (fitsB n h p)) = d1 at h1 hE
    have HE := Lib.hid hE
    clear hE
    have H2 := Lib.hid h2
    have HR2 := Lib.hid R2
    clear h2 R2 M3
    generalize (l ++ [r]).length = len2 at *
    refine h1.mono ?_
    rintro e W6 ⟨rfl, kk⟩
    have B6 := below_next B5 kk
    have h2 := H2.out W6 (HR2.out.next kk)
    clear h1 kk H2 HR2
    go_wp2_with fail
    refine h2.mono ?_
    rintro e W7 ⟨rfl, kk⟩
    have B7 := below_next B6 kk
    clear h2 kk B5 B6
    have hf := fun W => fits_is r n h p W F.out.h RP.out
    unfold Rl.val at hf
    rcases HE.out with ⟨rfl, rfl, rfl, rfl⟩ | ⟨rfl, rfl, rfl, rfl, hr⟩ | ⟨x, hx, rfl, rfl, rfl, rfl, hr, hbt⟩ | ⟨x, hx, rfl, rfl, rfl, rfl⟩
    · clear HE hf
      go_wp2_with (go_at_call 11; ((with_reducible refine (chosen_is _).mono ?_); rintro e W8 ⟨rfl, kk⟩; have B8 := below_next B7 kk))
      go_ret
      exact ⟨rfl, below_next BX.out B8⟩
    · rw [hr] at hf
      clear HE hr
      go_wp2_with fail
      refine wp_region_any (by kernel_rfl) ?_
      change wpAny _ _ _ _ _ _ _ (World.drew _)
      have B8 := below_drew B7
      refine wpAny_ready (rs := [0]) (by kernel_rfl) (by simp) ?_
      refine AllReady.cons rfl (fun K hK => ?_) AllReady.nil
      go_simp
      refine (chosen_is _).mono ?_
      rintro e W8 ⟨rfl, kk⟩
      have B9 := below_next B8 kk
      obtain ⟨f0, f1, f2, f3⟩ := (XX.out.below B9).four
      refine hK _ _ ?_
      clear hK K kk B8
      refine wpAny_take (i := 1) (oi := { dst := some 65, op := _, type := _, pos := _, after := _, guard := _ }) (v := .bool true) rfl (by kernel_rfl) (by kernel_rfl) (by kernel_rfl) (fun _ _ _ h => h) (Or.inl ⟨by rfl, fun w => by go_simp⟩) ?_
      simp only [Act.put, List.setIfInBounds_toArray, List.set_cons_zero, List.set_cons_succ]
      refine wpAny_take (i := 3) (oi := { dst := some 67, op := _, type := _, pos := _, after := _, guard := _ }) (v := .int .i64 n) rfl (by kernel_rfl) (by kernel_rfl) (by kernel_rfl) (fun _ _ _ h => h) (Or.inl ⟨by rfl, fun w => by go_simp⟩) ?_
      simp only [Act.put, List.setIfInBounds_toArray, List.set_cons_zero, List.set_cons_succ]
      refine wpAny_take (i := 4) (oi := { dst := some 68, op := _, type := _, pos := _, after := _, guard := _ }) (v := .string h) rfl (by kernel_rfl) (by kernel_rfl) (by kernel_rfl) (fun _ _ _ h => h) (Or.inl ⟨by rfl, fun w => by go_simp⟩) ?_
      simp only [Act.put, List.setIfInBounds_toArray, List.set_cons_zero, List.set_cons_succ]
      refine wpAny_take (i := 5) (oi := { dst := some 69, op := _, type := _, pos := _, after := _, guard := _ }) (v := .string p) rfl (by kernel_rfl) (by kernel_rfl) (by kernel_rfl) (fun _ _ _ h => h) (Or.inl ⟨by rfl, fun w => by go_simp⟩) ?_
      simp only [Act.put, List.setIfInBounds_toArray, List.set_cons_zero, List.set_cons_succ]
      refine wpAny_ready (rs := [2]) (by kernel_rfl) (by simp) ?_
      refine AllReady.cons rfl (fun K hK => ?_) AllReady.nil
      go_simp
      refine hK _ _ ?_
      clear hK K
      refine wpAny_ready (rs := [6]) (by kernel_rfl) (by simp) ?_
      refine AllReady.cons rfl (fun K hK => ?_) AllReady.nil
      go_simp
      refine (hf _).mono ?_
      rintro e W9 ⟨rfl, kk⟩
      have B10 := below_next B9 kk
      refine hK _ _ ?_
      clear hK K kk f0 f1 f2 f3
      refine wpAny_take (i := 7) (oi := { dst := some 71, op := _, type := _, pos := _, after := _, guard := _ }) (v := .bool true) rfl (by kernel_rfl) (by kernel_rfl) (by kernel_rfl) (fun _ _ _ h => h) (Or.inl ⟨by rfl, fun w => by go_simp⟩) ?_
      simp only [Act.put, List.setIfInBounds_toArray, List.set_cons_zero, List.set_cons_succ]
      refine wpAny_take (i := 8) (oi := { dst := some 72, op := _, type := _, pos := _, after := _, guard := _ }) (v := .bool true) rfl (by kernel_rfl) (by kernel_rfl) (by kernel_rfl) (fun _ _ _ h => h) (Or.inl ⟨by rfl, fun w => by go_simp⟩) ?_
      simp only [Act.put, List.setIfInBounds_toArray, List.set_cons_zero, List.set_cons_succ]
      refine wpAny_take (i := 9) (oi := { dst := some 73, op := _, type := _, pos := _, after := _, guard := _ }) (v := .int .i64 5) rfl (by kernel_rfl) (by kernel_rfl) (by kernel_rfl) (fun _ _ _ h => h) (Or.inl ⟨by rfl, fun w => by go_simp⟩) ?_
      simp only [Act.put, List.setIfInBounds_toArray, List.set_cons_zero, List.set_cons_succ]
      refine wpAny_take (i := 10) (oi := { dst := some 74, op := _, type := _, pos := _, after := _, guard := _ }) (v := .bool true) rfl (by kernel_rfl) (by kernel_rfl) (by kernel_rfl) (fun _ _ _ h => h) (Or.inl ⟨by rfl, fun w => by go_simp⟩) ?_
      simp only [Act.put, List.setIfInBounds_toArray, List.set_cons_zero, List.set_cons_succ]
      refine wpAny_take (i := 11) (oi := { dst := some 75, op := _, type := _, pos := _, after := _, guard := _ }) (v := .bool true) rfl (by kernel_rfl) (by kernel_rfl) (by kernel_rfl) (fun _ _ _ h => h) (Or.inl ⟨by rfl, fun w => by go_simp⟩) ?_
      simp only [Act.put, List.setIfInBounds_toArray, List.set_cons_zero, List.set_cons_succ]
      refine wpAny_take (i := 12) (oi := { dst := some 76, op := _, type := _, pos := _, after := _, guard := _ }) (v := undef) rfl (by kernel_rfl) (by kernel_rfl) (by kernel_rfl) (fun _ _ _ h => h) (Or.inr ⟨by rfl, rfl⟩) ?_
      simp only [Act.put, List.setIfInBounds_toArray, List.set_cons_zero, List.set_cons_succ]
      refine wpAny_take (i := 13) (oi := { dst := some 77, op := _, type := _, pos := _, after := _, guard := _ }) (v := undef) rfl (by kernel_rfl) (by kernel_rfl) (by kernel_rfl) (fun _ _ _ h => h) (Or.inr ⟨by rfl, rfl⟩) ?_
      simp only [Act.put, List.setIfInBounds_toArray, List.set_cons_zero, List.set_cons_succ]
      refine wpAny_take (i := 14) (oi := { dst := some 78, op := _, type := _, pos := _, after := _, guard := _ }) (v := undef) rfl (by kernel_rfl) (by kernel_rfl) (by kernel_rfl) (fun _ _ _ h => h) (Or.inr ⟨by rfl, rfl⟩) ?_
      simp only [Act.put, List.setIfInBounds_toArray, List.set_cons_zero, List.set_cons_succ]
      refine wpAny_take (i := 15) (oi := { dst := some 79, op := _, type := _, pos := _, after := _, guard := _ }) (v := undef) rfl (by kernel_rfl) (by kernel_rfl) (by kernel_rfl) (fun _ _ _ h => h) (Or.inr ⟨by rfl, rfl⟩) ?_
      simp only [Act.put, List.setIfInBounds_toArray, List.set_cons_zero, List.set_cons_succ]
      refine wpAny_take (i := 16) (oi := { dst := some 80, op := _, type := _, pos := _, after := _, guard := _ }) (v := undef) rfl (by kernel_rfl) (by kernel_rfl) (by kernel_rfl) (fun _ _ _ h => h) (Or.inr ⟨by rfl, rfl⟩) ?_
      simp only [Act.put, List.setIfInBounds_toArray, List.set_cons_zero, List.set_cons_succ]
      refine wpAny_take (i := 17) (oi := { dst := some 81, op := _, type := _, pos := _, after := _, guard := _ }) (v := undef) rfl (by kernel_rfl) (by kernel_rfl) (by kernel_rfl) (fun _ _ _ h => h) (Or.inr ⟨by rfl, rfl⟩) ?_
      simp only [Act.put, List.setIfInBounds_toArray, List.set_cons_zero, List.set_cons_succ]
      refine wpAny_take (i := 18) (oi := { dst := some 82, op := _, type := _, pos := _, after := _, guard := _ }) (v := undef) rfl (by kernel_rfl) (by kernel_rfl) (by kernel_rfl) (fun _ _ _ h => h) (Or.inr ⟨by rfl, rfl⟩) ?_
      simp only [Act.put, List.setIfInBounds_toArray, List.set_cons_zero, List.set_cons_succ]
      refine wpAny_take (i := 19) (oi := { dst := some 83, op := _, type := _, pos := _, after := _, guard := _ }) (v := undef) rfl (by kernel_rfl) (by kernel_rfl) (by kernel_rfl) (fun _ _ _ h => h) (Or.inr ⟨by rfl, rfl⟩) ?_
      simp only [Act.put, List.setIfInBounds_toArray, List.set_cons_zero, List.set_cons_succ]
      refine wpAny_take (i := 20) (oi := { dst := some 84, op := _, type := _, pos := _, after := _, guard := _ }) (v := undef) rfl (by kernel_rfl) (by kernel_rfl) (by kernel_rfl) (fun _ _ _ h => h) (Or.inr ⟨by rfl, rfl⟩) ?_
      simp only [Act.put, List.setIfInBounds_toArray, List.set_cons_zero, List.set_cons_succ]
      refine wpAny_take (i := 21) (oi := { dst := some 85, op := _, type := _, pos := _, after := _, guard := _ }) (v := undef) rfl (by kernel_rfl) (by kernel_rfl) (by kernel_rfl) (fun _ _ _ h => h) (Or.inr ⟨by rfl, rfl⟩) ?_
      simp only [Act.put, List.setIfInBounds_toArray, List.set_cons_zero, List.set_cons_succ]
      refine wpAny_take (i := 22) (oi := { dst := some 86, op := _, type := _, pos := _, after := _, guard := _ }) (v := undef) rfl (by kernel_rfl) (by kernel_rfl) (by kernel_rfl) (fun _ _ _ h => h) (Or.inr ⟨by rfl, rfl⟩) ?_
      simp only [Act.put, List.setIfInBounds_toArray, List.set_cons_zero, List.set_cons_succ]
      refine wpAny_take (i := 23) (oi := { dst := some 87, op := _, type := _, pos := _, after := _, guard := _ }) (v := undef) rfl (by kernel_rfl) (by kernel_rfl) (by kernel_rfl) (fun _ _ _ h => h) (Or.inr ⟨by rfl, rfl⟩) ?_
      simp only [Act.put, List.setIfInBounds_toArray, List.set_cons_zero, List.set_cons_succ]
      refine wpAny_take (i := 24) (oi := { dst := some 88, op := _, type := _, pos := _, after := _, guard := _ }) (v := undef) rfl (by kernel_rfl) (by kernel_rfl) (by kernel_rfl) (fun _ _ _ h => h) (Or.inr ⟨by rfl, rfl⟩) ?_
      simp only [Act.put, List.setIfInBounds_toArray, List.set_cons_zero, List.set_cons_succ]
      refine wpAny_take (i := 25) (oi := { dst := some 89, op := _, type := _, pos := _, after := _, guard := _ }) (v := undef) rfl (by kernel_rfl) (by kernel_rfl) (by kernel_rfl) (fun _ _ _ h => h) (Or.inr ⟨by rfl, rfl⟩) ?_
      simp only [Act.put, List.setIfInBounds_toArray, List.set_cons_zero, List.set_cons_succ]
      refine wpAny_take (i := 26) (oi := { dst := some 90, op := _, type := _, pos := _, after := _, guard := _ }) (v := undef) rfl (by kernel_rfl) (by kernel_rfl) (by kernel_rfl) (fun _ _ _ h => h) (Or.inr ⟨by rfl, rfl⟩) ?_
      simp only [Act.put, List.setIfInBounds_toArray, List.set_cons_zero, List.set_cons_succ]
      refine wpAny_take (i := 27) (oi := { dst := some 91, op := _, type := _, pos := _, after := _, guard := _ }) (v := undef) rfl (by kernel_rfl) (by kernel_rfl) (by kernel_rfl) (fun _ _ _ h => h) (Or.inr ⟨by rfl, rfl⟩) ?_
      simp only [Act.put, List.setIfInBounds_toArray, List.set_cons_zero, List.set_cons_succ]
      refine wpAny_take (i := 28) (oi := { dst := some 92, op := _, type := _, pos := _, after := _, guard := _ }) (v := undef) rfl (by kernel_rfl) (by kernel_rfl) (by kernel_rfl) (fun _ _ _ h => h) (Or.inr ⟨by rfl, rfl⟩) ?_
      simp only [Act.put, List.setIfInBounds_toArray, List.set_cons_zero, List.set_cons_succ]
      refine wpAny_take (i := 29) (oi := { dst := some 93, op := _, type := _, pos := _, after := _, guard := _ }) (v := undef) rfl (by kernel_rfl) (by kernel_rfl) (by kernel_rfl) (fun _ _ _ h => h) (Or.inr ⟨by rfl, rfl⟩) ?_
      simp only [Act.put, List.setIfInBounds_toArray, List.set_cons_zero, List.set_cons_succ]
      refine wpAny_take (i := 30) (oi := { dst := some 94, op := _, type := _, pos := _, after := _, guard := _ }) (v := undef) rfl (by kernel_rfl) (by kernel_rfl) (by kernel_rfl) (fun _ _ _ h => h) (Or.inr ⟨by rfl, rfl⟩) ?_
      simp only [Act.put, List.setIfInBounds_toArray, List.set_cons_zero, List.set_cons_succ]
      refine wpAny_take (i := 31) (oi := { dst := some 95, op := _, type := _, pos := _, after := _, guard := _ }) (v := undef) rfl (by kernel_rfl) (by kernel_rfl) (by kernel_rfl) (fun _ _ _ h => h) (Or.inr ⟨by rfl, rfl⟩) ?_
      simp only [Act.put, List.setIfInBounds_toArray, List.set_cons_zero, List.set_cons_succ]
      refine wpAny_take (i := 32) (oi := { dst := some 96, op := _, type := _, pos := _, after := _, guard := _ }) (v := undef) rfl (by kernel_rfl) (by kernel_rfl) (by kernel_rfl) (fun _ _ _ h => h) (Or.inr ⟨by rfl, rfl⟩) ?_
      simp only [Act.put, List.setIfInBounds_toArray, List.set_cons_zero, List.set_cons_succ]
      refine wpAny_take (i := 33) (oi := { dst := some 97, op := _, type := _, pos := _, after := _, guard := _ }) (v := undef) rfl (by kernel_rfl) (by kernel_rfl) (by kernel_rfl) (fun _ _ _ h => h) (Or.inr ⟨by rfl, rfl⟩) ?_
      simp only [Act.put, List.setIfInBounds_toArray, List.set_cons_zero, List.set_cons_succ]
      refine wpAny_take (i := 34) (oi := { dst := some 98, op := _, type := _, pos := _, after := _, guard := _ }) (v := undef) rfl (by kernel_rfl) (by kernel_rfl) (by kernel_rfl) (fun _ _ _ h => h) (Or.inr ⟨by rfl, rfl⟩) ?_
      simp only [Act.put, List.setIfInBounds_toArray, List.set_cons_zero, List.set_cons_succ]
      refine wpAny_take (i := 35) (oi := { dst := some 99, op := _, type := _, pos := _, after := _, guard := _ }) (v := undef) rfl (by kernel_rfl) (by kernel_rfl) (by kernel_rfl) (fun _ _ _ h => h) (Or.inr ⟨by rfl, rfl⟩) ?_
      simp only [Act.put, List.setIfInBounds_toArray, List.set_cons_zero, List.set_cons_succ]
      refine wpAny_take (i := 36) (oi := { dst := some 100, op := _, type := _, pos := _, after := _, guard := _ }) (v := undef) rfl (by kernel_rfl) (by kernel_rfl) (by kernel_rfl) (fun _ _ _ h => h) (Or.inr ⟨by rfl, rfl⟩) ?_
      simp only [Act.put, List.setIfInBounds_toArray, List.set_cons_zero, List.set_cons_succ]
      refine wpAny_take (i := 37) (oi := { dst := some 101, op := _, type := _, pos := _, after := _, guard := _ }) (v := .bool true) rfl (by kernel_rfl) (by kernel_rfl) (by kernel_rfl) (fun _ _ _ h => h) (Or.inl ⟨by rfl, fun w => by go_simp⟩) ?_
      simp only [Act.put, List.setIfInBounds_toArray, List.set_cons_zero, List.set_cons_succ]
      refine wpAny_take (i := 38) (oi := { dst := some 102, op := _, type := _, pos := _, after := _, guard := _ }) (v := .bool true) rfl (by kernel_rfl) (by kernel_rfl) (by kernel_rfl) (fun _ _ _ h => h) (Or.inl ⟨by rfl, fun w => by go_simp⟩) ?_
      simp only [Act.put, List.setIfInBounds_toArray, List.set_cons_zero, List.set_cons_succ]
      refine wpAny_take (i := 39) (oi := { dst := some 10, op := _, type := _, pos := _, after := _, guard := _ }) (v := .bool true) rfl (by kernel_rfl) (by kernel_rfl) (by kernel_rfl) (fun _ _ _ h => h) (Or.inl ⟨by rfl, fun w => by go_simp⟩) ?_
      refine wpAny_done (by kernel_rfl) ?_ _
      simp only [Act.put, List.setIfInBounds_toArray, List.set_cons_zero, List.set_cons_succ]
      go_wp2_with fail
      go_ret
      exact ⟨rfl, below_next BX.out B10⟩
    · rw [hr] at hf
      obtain ⟨ad, e, _⟩ := HIN.out.ad hx
      subst e
      have hb := fun W => better_is r.host r.path l[x].host l[x].path W
      have e3 : betterB r.host r.path l[x].host l[x].path = true := hbt
      rw [e3] at hb
      have t7 : decide (x < l.length) = true := decide_eq_true hx
      have tail : ∀ W, Below wb.heap.size wb W → (W.cell? ⟨w.heap.size, 0, none⟩ = some (.int .i64 r.listen) ∧ W.cell? ⟨w.heap.size, 1, none⟩ = some (.string r.host) ∧ W.cell? ⟨w.heap.size, 2, none⟩ = some (.string r.path) ∧ W.cell? ⟨w.heap.size, 3, none⟩ = some (.int .i64 r.cluster)) ∧ W.cell? ⟨(ad.add (x * 4)).block, (ad.add (x * 4)).off + 1, none⟩ = some (.string l[x].host) ∧ W.cell? ⟨(ad.add (x * 4)).block, (ad.add (x * 4)).off + 2, none⟩ = some (.string l[x].path) := fun W hW => by
        obtain ⟨_, h3, h4, _⟩ := HIN.out.at_ hx (fun q hq => hW.cell hq)
        exact ⟨(XX.out.below hW).four, h3, h4⟩
      have T2 := Lib.hid tail
      clear HE hr hbt e3 tail
      generalize l[x] = rx at *
      go_wp2_with fail
      have B := below_drew B7
      have cK := T2.out _ B
      go_region_held3 (fun wk => (wk.cell? ⟨w.heap.size, 0, none⟩ = some (.int .i64 r.listen) ∧ wk.cell? ⟨w.heap.size, 1, none⟩ = some (.string r.host) ∧ wk.cell? ⟨w.heap.size, 2, none⟩ = some (.string r.path) ∧ wk.cell? ⟨w.heap.size, 3, none⟩ = some (.int .i64 r.cluster)) ∧ wk.cell? ⟨(ad.add (x * 4)).block, (ad.add (x * 4)).off + 1, none⟩ = some (.string rx.host) ∧ wk.cell? ⟨(ad.add (x * 4)).block, (ad.add (x * 4)).off + 2, none⟩ = some (.string rx.path)) (exact cK)
        (first
          | (go_at_call 11; ((with_reducible refine (chosen_is _).mono ?_); rintro e wx ⟨rfl, kk⟩; replace B := below_next B kk; clear kk; replace cK := T2.out _ B))
          | (go_at_call 12; ((with_reducible refine (hf _).mono ?_); rintro e wx ⟨rfl, kk⟩; replace B := below_next B kk; clear kk; replace cK := T2.out _ B))
          | (go_at_call 14; ((with_reducible refine (hb _).mono ?_); rintro e wx ⟨rfl, kk⟩; replace B := below_next B kk; clear kk; replace cK := T2.out _ B)))
      clear cK
      go_wp2_with fail
      go_ret
      exact ⟨rfl, below_next BX.out B⟩
    · clear HE hf
      have t7 : (x == l.length) = false := by rw [beq_eq_false_iff_ne]; omega
      clear hx
      go_wp2_with (go_at_call 11; ((with_reducible refine (chosen_is _).mono ?_); rintro e W8 ⟨rfl, kk⟩; have B8 := below_next B7 kk))
      go_ret
      exact ⟨rfl, below_next BX.out B8⟩
end Go.Proofs.Ytnjacobimndnbaa
