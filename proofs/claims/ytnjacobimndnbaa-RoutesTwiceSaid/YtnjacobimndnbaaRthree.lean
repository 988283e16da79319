/- The walk of RoutesTwice. -/
import Derived.Test.YtnjacobimndnbaaRone
import Derived.Test.YtnjacobimndnbaaRmore
import Derived.Test.YtnjacobimndnbaaRgrow
namespace Go.Proofs.Ytnjacobimndnbaa
open Go.RowKit
set_option linter.unusedVariables false
set_option linter.unusedSimpArgs false
set_option maxRecDepth 100000

set_option maxHeartbeats 4000000 in
theorem routesTwice_walk (A : Option Addr) (c : Nat) (l : List Rl) (n : Int) (h p : ByteArray) (i : Int) (w : World) (hin : RulesIn w w.heap.size A c l) (wf : (Lit.int .i64 n).wf = true) (hs : h.size ≤ maxLen) (ps : p.size ≤ maxLen) (wi : (Lit.int .i64 i).wf = true) :
    Calls Try.prog 7 #[.slice A l.length c, .int .i64 n, .string h, .string p, .int .i64 i] w fun e w' => e = .returned (.bool true) ∧ Below w.heap.size w w' := by
  obtain ⟨ir, hir, hr0, hr1, hr2⟩ := info_parts rule_info
  have IR := Lib.hid (⟨hir, hr0, hr1, hr2⟩ : _ ∧ _ ∧ _ ∧ _)
  clear hir hr0 hr1 hr2 wf wi
  have hL := long_is A c l h p w hin
  obtain ⟨b, hb⟩ : ∃ b, longB l h p = b := ⟨_, rfl⟩
  rw [hb] at hL
  have HIN := Lib.hid hin
  have HB := Lib.hid hb
  clear hb hin
  by_cases hi : b = true ∨ i < 0 ∨ (l.length : Int) ≤ i
  · obtain ⟨x1, hx1⟩ : ∃ b, decide (i < 0) = b := ⟨_, rfl⟩
    obtain ⟨x2, hx2⟩ : ∃ b, decide ((l.length : Int) ≤ i) = b := ⟨_, rfl⟩
    have hxx : b = true ∨ x1 = true ∨ x2 = true := by rw [← hx1, ← hx2, decide_eq_true_eq, decide_eq_true_eq]; exact hi
    have HXX := Lib.hid hxx
    clear hi hxx HB
    cases b <;> cases x1 <;> cases x2
    case false.false.false => exact absurd HXX.out (by decide)
    all_goals
      clear HXX
      go_enter Try.func7, Try.ntmps7
      go_wp2_with (first
        | (go_at_call 8; ((with_reducible refine hL.mono ?_); rintro e wx ⟨rfl, rfl⟩))
        | (go_at_call 11; ((with_reducible refine (chosen_is _).mono ?_); rintro e W2 ⟨rfl, kk⟩)))
      go_ret
      exact ⟨rfl, kk⟩
  · obtain rfl : b = false := by cases b <;> simp_all
    obtain ⟨k, rfl⟩ : ∃ k : Nat, i = (k : Int) := ⟨i.toNat, by omega⟩
    have hk : k < l.length := by omega
    have t1 : decide ((k : Int) < 0) = false := decide_eq_false (by omega)
    have t2 : decide (l.length ≤ k) = false := decide_eq_false (by omega)
    clear hi
    have F := Lib.hid (Fine.of HB.out)
    have hm : l.length ≤ 9223372036854775807 := HIN.out.len
    have h50 : l.length ≤ 50 := F.out.len
    obtain ⟨ad, e, _⟩ := HIN.out.ad hk
    subst e
    have tail : ∀ W, Below w.heap.size w W → Four W (ad.add (k * 4)) (.int .i64 l[k].listen) (.string l[k].host) (.string l[k].path) (.int .i64 l[k].cluster) := fun W hW => HIN.out.at_ hk (fun q hq => hW.cell hq)
    have TL := Lib.hid tail
    clear tail
    have M0 := MadeR.start (Below.refl w.heap.size w)
    have MM := Lib.hid M0
    have HR := Lib.hid (HIN.out.below (boxed w (.cells #[] 31))).rows
    have ss : Short (l ++ [l[k]]) := fun r hr => by
      rcases List.mem_append.1 hr with hr | hr
      · exact F.out.short r hr
      · simp at hr; subst hr; exact F.out.short _ (List.getElem_mem hk)
    have SS := Lib.hid ss
    have tw := end_twice (f := fitsB n h p) hk
    have TW := Lib.hid tw
    clear M0 ss tw
    go_enter Try.func7, Try.ntmps7
    go_wp2_with fail
    refine hL.mono ?_
    rintro e wx ⟨rfl, rfl⟩
    clear hL
    go_wp2_with (first
      | (at_builtin; refine wpList_append_any4 rfl (.tmp 32) (.tmp 33) 22 rfl ir (.agg #[.int .i64 0, .string ⟨#[]⟩, .string ⟨#[]⟩, .int .i64 0]) 48 Try.underlying22 IR.out.1 IR.out.2.1 IR.out.2.2.1 IR.out.2.2.2 rfl rfl _ (rs := []) (ys := l.map Rl.cells) MM.out.own (cells4 l) (by rw [List.length_map]; rfl) HR.out (cells1 l) (by simp [maxLen]; omega) (by simp; omega) MM.out.B.size ?_; intro v' w4 ho hg hb4; have M1 := Lib.hid (MM.out.grown (m := l) hg ho); obtain ⟨f0, f1, f2, f3⟩ := TL.out _ M1.out.B; clear ho hg hb4)
      | (at_builtin; refine wpList_append_one4 rfl (.tmp 35) (.tmp 40) 22 rfl ir (.agg #[.int .i64 0, .string ⟨#[]⟩, .string ⟨#[]⟩, .int .i64 0]) 48 Try.underlying22 IR.out.1 IR.out.2.1 IR.out.2.2.1 IR.out.2.2.2 rfl rfl _ _ _ _ _ (by simp [Value.oneCell']) M1.out.own rfl (by simp [maxLen]; omega) (by simp; omega) M1.out.B.size ?_; intro v'' w5 ho hg hb4; have M2 := Lib.hid (M1.out.grown (m := [l[k]]) hg ho); clear ho hg hb4))
    have M3 : MadeR w w5 v'' (l ++ [l[k]]) := M2.out
    clear M2 M1 f0 f1 f2 f3 MM HR
    obtain ⟨A2, c2, hv, R2⟩ := M3.rules
    subst hv
    have B5 := M3.B
    have h1 := best_calls (some ad) c l n h p w5 (HIN.out.next B5) F.out.h F.out.paths
    have h2 := fun (W : World) (hW : RulesIn W W.heap.size A2 c2 (l ++ [l[k]])) => best_calls A2 c2 (l ++ [l[k]]) n h p W hW F.out.h (fun r hr => (SS.out r hr).2)
    rw [TW.out.1, TW.out.2] at h2
    have H2 := Lib.hid h2
    have HR2 := Lib.hid R2
    clear h2 R2 M3 TW
    generalize (l ++ [l[k]]).length = len2 at *
    generalize numO (bestO l (fitsB n h p)) = a at h1 H2
    generalize errO (bestO l (fitsB n h p)) = d at h1 H2
    refine h1.mono ?_
    rintro e W6 ⟨rfl, kk⟩
    have B6 := below_next B5 kk
    have h2 := H2.out W6 (HR2.out.next kk)
    clear h1 kk H2 HR2
    go_wp2_with fail
    refine h2.mono ?_
    rintro e W7 ⟨rfl, kk⟩
    have B7 := below_next B6 kk
    clear h2 kk
    go_wp2_with fail
    refine (chosen_is W7).mono ?_
    rintro e W8 ⟨rfl, kk⟩
    have B8 := below_next B7 kk
    clear kk
    go_wp2_with fail
    go_ret
    exact ⟨rfl, B8⟩
end Go.Proofs.Ytnjacobimndnbaa
