/- The walk of NamesCut. -/
import Derived.Test.YtkdiefpajljppaaNamed
import Derived.Test.YtkdiefpajljppaaNkind
namespace Go.Proofs.Ytkdiefpajljppaa
open Go.RowKit
set_option linter.unusedVariables false
set_option linter.unusedSimpArgs false
set_option maxRecDepth 100000

theorem namesCut_run (s : ByteArray) (k : Nat) (w : World) (h : s.size ≤ 2000) (hk : k < s.size) (u v x : ByteArray) (hu : s.extract 0 (k + 1) = u) (hv : s.extract (k + 1) s.size = v) (hx : s.extract 0 k = x) (a c d t : Bool)
    (n1 : ∀ w, Calls Try.prog 9 #[.string s] w (Says w a)) (n2 : a = true → ∀ w, Calls Try.prog 9 #[.string u] w (Says w true))
    (h3 : ∀ w, Calls Try.prog 11 #[.string s] w (Says w c)) (h4 : c = true → t = false → ∀ w, Calls Try.prog 11 #[.string v] w (Says w true))
    (h6 : c = true → t = false → ∀ w, Calls Try.prog 11 #[.string x] w (Says w true))
    (q1 : ∀ w, Calls Try.prog 15 #[.string s] w (Says w d)) (q2 : d = true → ∀ w, Calls Try.prog 15 #[.string u] w (Says w true)) (ht : ((s[k].toNat : Int) != 46) = t) :
    Calls Try.prog 7 #[.string s, .int .i64 ((k : Int) + 1)] w (Says w true) := by
  have h1 : decide ((2000 : Int) < (s.size : Int)) = false := by simp; omega
  have h2 : decide ((k : Int) + 1 < 1) = false := by simp; omega
  have h5 : decide ((s.size : Int) < (k : Int) + 1) = false := by simp; omega
  have B : Below w.heap.size w w := Below.refl _ _
  cases a <;> cases c <;> cases d <;> cases t
  all_goals first | (replace n2 := n2 rfl) | clear n2
  all_goals first | (replace h4 := h4 rfl rfl) | clear h4
  all_goals first | (replace h6 := h6 rfl rfl) | clear h6
  all_goals first | (replace q2 := q2 rfl) | clear q2
  all_goals
    go_enter Try.func7, Try.ntmps7
    go_wp2_with (first
      | (go_at_call 8; refine (named_is _).mono ?_; rintro e wx ⟨rfl, kk⟩; replace B := below_next B kk; clear kk)
      | (go_at_call 9; ((with_reducible refine (n1 _).mono ?_); rintro e wx ⟨rfl, kk⟩; replace B := below_next B kk; clear kk))
      | (go_at_call 9; ((with_reducible refine (n2 _).mono ?_); rintro e wx ⟨rfl, kk⟩; replace B := below_next B kk; clear kk))
      | (go_at_call 11; ((with_reducible refine (h3 _).mono ?_); rintro e wx ⟨rfl, kk⟩; replace B := below_next B kk; clear kk))
      | (go_at_call 11; ((with_reducible refine (h4 _).mono ?_); rintro e wx ⟨rfl, kk⟩; replace B := below_next B kk; clear kk))
      | (go_at_call 11; ((with_reducible refine (h6 _).mono ?_); rintro e wx ⟨rfl, kk⟩; replace B := below_next B kk; clear kk))
      | (go_at_call 15; ((with_reducible refine (q1 _).mono ?_); rintro e wx ⟨rfl, kk⟩; replace B := below_next B kk; clear kk))
      | (go_at_call 15; ((with_reducible refine (q2 _).mono ?_); rintro e wx ⟨rfl, kk⟩; replace B := below_next B kk; clear kk)))
    go_ret
    exact ⟨rfl, B⟩

theorem namesCut_not (s : ByteArray) (n : Int) (w : World) (h : 2000 < s.size ∨ n < 1 ∨ (s.size : Int) < n) :
    Calls Try.prog 7 #[.string s, .int .i64 n] w (Says w true) := by
  obtain ⟨a, ha⟩ : ∃ a, decide ((2000 : Int) < (s.size : Int)) = a := ⟨_, rfl⟩
  obtain ⟨b, hb⟩ : ∃ b, decide (n < 1) = b := ⟨_, rfl⟩
  obtain ⟨c, hc⟩ : ∃ c, decide ((s.size : Int) < n) = c := ⟨_, rfl⟩
  have habc : a = true ∨ b = true ∨ c = true := by
    rcases h with h | h | h
    · exact .inl (by rw [← ha]; simp; omega)
    · exact .inr (.inl (by rw [← hb]; simp; omega))
    · exact .inr (.inr (by rw [← hc]; simp; omega))
  clear h
  have B : Below w.heap.size w w := Below.refl _ _
  cases a <;> cases b <;> cases c
  all_goals first | (exact absurd habc (by decide)) | clear habc
  all_goals
    go_enter Try.func7, Try.ntmps7
    go_wp2_with (go_at_call 8; refine (named_is _).mono ?_; rintro e wx ⟨rfl, kk⟩; replace B := below_next B kk; clear kk)
    go_ret
    exact ⟨rfl, B⟩

theorem namesCut_walk (s : ByteArray) (n : Int) (w : World) (hs : s.size ≤ maxLen) (hn : (Lit.int .i64 n).wf = true) :
    Calls Try.prog 7 #[.string s, .int .i64 n] w fun e w' => e = .returned (.bool true) ∧ Below w.heap.size w w' := by
  by_cases h : 2000 < s.size ∨ n < 1 ∨ (s.size : Int) < n
  · exact namesCut_not s n w h
  · obtain ⟨k, rfl⟩ : ∃ k : Nat, n = (k : Int) + 1 := ⟨(n - 1).toNat, by omega⟩
    have hk : k < s.size := by omega
    have cut : hostB s = true → ((s[k].toNat : Int) != 46) = false → hostB (s.extract (k + 1) s.size) = true ∧ hostB (s.extract 0 k) = true := fun hc ht => host_cut s hk hc (by simpa using ht)
    exact namesCut_run s k w (by omega) hk _ _ _ rfl rfl rfl (nameB s) (hostB s) (pathB s) _ (fun w => name_is s w) (fun ha w => (name_is _ w).mono fun _ _ q => q.of (name_take s ha (by omega)))
      (fun w => host_is s w) (fun hc ht w => (host_is _ w).mono fun _ _ q => q.of (cut hc ht).1) (fun hc ht w => (host_is _ w).mono fun _ _ q => q.of (cut hc ht).2)
      (fun w => path_is s w) (fun hd w => (path_is _ w).mono fun _ _ q => q.of (path_take s hd (by omega))) rfl
end Go.Proofs.Ytkdiefpajljppaa
