/- The walk of HostsDeep. -/
import Derived.Test.YtfljjpkblleflaaHmatched
import Derived.Laws.IdiomStrings
namespace Go.Proofs.Ytfljjpkblleflaa
open Go.RowKit
set_option linter.unusedVariables false
set_option linter.unusedSimpArgs false
set_option maxRecDepth 100000

/-- HostsDeep, by what the calls answer. -/
theorem hostsDeep_run (t h a : ByteArray) (w : World) (h1 : t.size ≤ 200) (h2 : h.size ≤ 200) (h3 : a.size ≤ 200) (x y p q : Bool) (u v d : ByteArray)
    (hu : (⟨#[42, 46]⟩ : ByteArray) ++ t = u) (hv : (⟨#[42, 46]⟩ : ByteArray) ++ h = v) (hd : a ++ ⟨#[46]⟩ ++ h = d)
    (n1 : ∀ w, Calls Try.prog 17 #[.string d] w (Says w x))
    (n2 : ∀ w, Calls Try.prog 17 #[.string h] w (Says w y))
    (n3 : ∀ w, Calls Try.prog 9 #[.string u, .string h] w (Says w p))
    (n4 : ∀ w, Calls Try.prog 9 #[.string u, .string d] w (Says w q))
    (n5 : x = true → y = true → ∀ w, Calls Try.prog 9 #[.string v, .string d] w (Says w true))
    (n6 : ∀ w, Calls Try.prog 9 #[.string v, .string h] w (Says w false))
    (g : x = true → y = true → p = true → q = true) :
    Calls Try.prog 7 #[.string t, .string h, .string a] w fun e w' => e = .returned (.bool true) ∧ Below w.heap.size w w' := by
  have B : Below w.heap.size w w := Below.refl _ _
  have t1 : decide ((200 : Int) < (t.size : Int)) = false := by simp; omega
  have t2 : decide ((200 : Int) < (h.size : Int)) = false := by simp; omega
  have t3 : decide ((200 : Int) < (a.size : Int)) = false := by simp; omega
  cases x <;> cases y <;> cases p <;> cases q
  all_goals first | (exact absurd (g rfl rfl rfl) (by decide)) | clear g
  all_goals first | (replace n5 := n5 rfl rfl) | clear n5
  all_goals
    go_enter Try.func7, Try.ntmps7
    go_wp2_with (first
      | (go_at_call 8; ((with_reducible refine (matched_is _).mono ?_); rintro e wx ⟨rfl, kk⟩; replace B := below_next B kk; clear kk))
      | (go_at_call 17; ((with_reducible refine (n1 _).mono ?_); rintro e wx ⟨rfl, kk⟩; replace B := below_next B kk; clear kk))
      | (go_at_call 17; ((with_reducible refine (n2 _).mono ?_); rintro e wx ⟨rfl, kk⟩; replace B := below_next B kk; clear kk))
      | (go_at_call 9; ((with_reducible refine (n3 _).mono ?_); rintro e wx ⟨rfl, kk⟩; replace B := below_next B kk; clear kk))
      | (go_at_call 9; ((with_reducible refine (n4 _).mono ?_); rintro e wx ⟨rfl, kk⟩; replace B := below_next B kk; clear kk))
      | (go_at_call 9; ((with_reducible refine (n5 _).mono ?_); rintro e wx ⟨rfl, kk⟩; replace B := below_next B kk; clear kk))
      | (go_at_call 9; ((with_reducible refine (n6 _).mono ?_); rintro e wx ⟨rfl, kk⟩; replace B := below_next B kk; clear kk)))
    go_ret
    exact ⟨rfl, B⟩

theorem deep_list (a h : ByteArray) : (a ++ ⟨#[46]⟩ ++ h).data.toList = a.data.toList ++ 46 :: h.data.toList := by
  rw [append_list, append_list, List.append_assoc]; rfl
theorem star_list (h : ByteArray) : ((⟨#[42, 46]⟩ : ByteArray) ++ h).data.toList = 42 :: 46 :: h.data.toList := append_list _ _
theorem deep_size (a h : ByteArray) : (a ++ ⟨#[46]⟩ ++ h).size = a.size + 1 + h.size := by
  rw [ByteArray.size_append, ByteArray.size_append]; rfl

theorem match_deep_all (t h a : ByteArray) (hx : hostB (a ++ ⟨#[46]⟩ ++ h) = true) (hp : matchB (⟨#[42, 46]⟩ ++ t) h = true) : matchB (⟨#[42, 46]⟩ ++ t) (a ++ ⟨#[46]⟩ ++ h) = true := by
  have lu := star_list t
  have ld := deep_list a h
  generalize (⟨#[42, 46]⟩ : ByteArray) ++ t = u at lu hp ⊢
  generalize a ++ ⟨#[46]⟩ ++ h = d at ld hx ⊢
  exact match_deep lu hp hx (x := a.data.toList ++ [46]) (by rw [ld, List.append_assoc]; rfl)

theorem hostsDeep_walk (t h a : ByteArray) (w : World) (ht : t.size ≤ maxLen) (hh : h.size ≤ maxLen) (ha : a.size ≤ maxLen) :
    Calls Try.prog 7 #[.string t, .string h, .string a] w fun e w' => e = .returned (.bool true) ∧ Below w.heap.size w w' := by
  unfold maxLen at ht hh ha
  by_cases hz : t.size ≤ 200 ∧ h.size ≤ 200 ∧ a.size ≤ 200
  · obtain ⟨h1, h2, h3⟩ := hz
    have ds := deep_size a h
    have hs := match_deep_all t h a
    have lv := star_list h
    have ld := deep_list a h
    obtain ⟨u, hu⟩ : ∃ u, (⟨#[42, 46]⟩ : ByteArray) ++ t = u := ⟨_, rfl⟩
    obtain ⟨v, hv⟩ : ∃ v, (⟨#[42, 46]⟩ : ByteArray) ++ h = v := ⟨_, rfl⟩
    obtain ⟨d, hd⟩ : ∃ d, a ++ ⟨#[46]⟩ ++ h = d := ⟨_, rfl⟩
    rw [hd] at ds ld
    rw [hv] at lv
    rw [hu, hd] at hs
    have sd : d.size ≤ 2000 := by omega
    have sh : h.size ≤ 2000 := by omega
    exact hostsDeep_run t h a w h1 h2 h3 (hostB d) (hostB h) (matchB u h) (matchB u d) u v d hu hv hd (fun w => host_is _ w) (fun w => host_is _ w)
      (fun w => match_is _ _ w sh) (fun w => match_is _ _ w sd)
      (fun hx hy w => (match_is _ _ w sd).mono fun _ _ k => k.of (match_tail lv hy hx ld))
      (fun w => (match_is _ _ w sh).mono fun _ _ k => k.of (match_not lv))
      (fun hx hy hp => hs hx hp)
  · have B : Below w.heap.size w w := Below.refl _ _
    obtain ⟨x1, hx1⟩ : ∃ x, decide ((200 : Int) < (t.size : Int)) = x := ⟨_, rfl⟩
    obtain ⟨x2, hx2⟩ : ∃ x, decide ((200 : Int) < (h.size : Int)) = x := ⟨_, rfl⟩
    obtain ⟨x3, hx3⟩ : ∃ x, decide ((200 : Int) < (a.size : Int)) = x := ⟨_, rfl⟩
    have hx : x1 = true ∨ x2 = true ∨ x3 = true := by
      rw [← hx1, ← hx2, ← hx3, decide_eq_true_eq, decide_eq_true_eq, decide_eq_true_eq]; omega
    clear hz
    cases x1 <;> cases x2 <;> cases x3
    all_goals first | (exact absurd hx (by decide)) | clear hx
    all_goals
      go_enter Try.func7, Try.ntmps7
      go_wp2_with fail
      go_ret
      exact ⟨rfl, B⟩
end Go.Proofs.Ytfljjpkblleflaa
