/- Comparisons of rows of numbers and of bytes: of equal rows they answer true. -/
import Derived.Test.YtmjdamcbdclgpaaQrbytes
import Derived.Laws.BytesArg
import Derived.BigQuiet
import Derived.Deep.QuietTactic
namespace Go.Proofs.Ytmjdamcbdclgpaa
open Go.RowKit
set_option linter.unusedVariables false
set_option linter.unusedSimpArgs false
set_option maxRecDepth 100000

theorem sameI_yes (A A' : Option Addr) (c c' B B' : Nat) (xs : List Int) (w : World) (hl : xs.length ≤ maxLen)
    (hx : Hid (Reads w B A (xs.map (Value.int .i64)))) (hy : Hid (Reads w B' A' (xs.map (Value.int .i64)))) :
    Calls Try.prog 20 #[.slice A xs.length c, .slice A' xs.length c'] w (Says w true) := by
  unfold maxLen at hl
  go_enter Try.func20, Try.ntmps20
  go_wp2_with fail
  go_loopw [5] (fun i wr => ∃ k : Nat, k ≤ xs.length ∧ i = .int .i64 k ∧ ∃ n, wr = w.drewN n) (fun i _ => xs.length - (intOf i).toNat)
  case atStart => exact ⟨0, by omega, rfl, 0, rfl⟩
  case round =>
    obtain ⟨k, hk, rfl, n, rfl⟩ := hrel
    by_cases hlt : k < xs.length
    · obtain ⟨ad, rfl, _, hc⟩ := hx.out.int hlt
      obtain ⟨ad', rfl, _, hc'⟩ := hy.out.int hlt
      generalize xs[k] = z at hc hc'
      go_wp2_with fail
      go_quiet (fail)
      go_wp2_with fail
      go_roundw
      case rel => exact ⟨k + 1, by omega, by go_num, _, rfl⟩
      case measure => simp [intOf]; omega
    · go_wp2_with fail
      go_ret
      exact ⟨rfl, below_drewN (Below.refl _ _) _⟩

theorem conv_bytes {P : Program} {w : World} {B : Nat} {A : Option Addr} {xs : List Int} (h : Reads w B A (xs.map (Value.int .u8))) (c : Nat) (src e dst : TypeId) (hs : P.underlying src = some (.slice e)) (he : P.underlying e = some (.int .u8)) (hd : P.underlying dst = some .string) :
    (convert src dst (.slice A xs.length c)).run P w = .ok (.string (strOfNums xs)) w := by
  rcases A with _ | ad
  · have hx : xs = [] := by
      rcases Nat.eq_zero_or_pos xs.length with h0 | h0
      · exact List.eq_nil_of_length_eq_zero h0
      · obtain ⟨ad, e, _⟩ := h (by rw [List.length_map]; exact h0)
        cases e
    subst hx
    exact run_convert_bytes_nil w src e hs he _ _ dst hd
  · have hl : (loadCells ad xs.length).run P w = .ok (xs.map (Value.int .u8)).toArray w := by
      have := run_loadCells_list (P := P) w ad (xs.map (Value.int .u8)) (fun j v hj => by
        have hp : 0 < (xs.map (Value.int .u8)).length := Nat.lt_of_le_of_lt (Nat.zero_le _) (List.getElem?_eq_some_iff.1 hj).1
        obtain ⟨ad', e', _, hc⟩ := h hp
        cases e'
        exact hc j v hj)
      simpa using this
    rw [run_convert_bytes_string w src dst e _ xs.length c hs he hd, run_bytesToString w _ xs.length c xs hl, foldl_push_bytes]
    simp [strOfNums, ByteArray.empty, ByteArray.emptyWithCapacity]
    rfl
theorem sameB_yes (A A' : Option Addr) (c c' B B' : Nat) (xs : List Int) (w : World) (hx : Reads w B A (xs.map (Value.int .u8))) (hy : Reads w B' A' (xs.map (Value.int .u8))) :
    Calls Try.prog 19 #[.slice A xs.length c, .slice A' xs.length c'] w fun e w' => e = .returned (.bool true) ∧ w = w' := by
  have h1 := conv_bytes hx c 35 5 9 Try.underlying35 Try.underlying5 Try.underlying9
  have h2 := conv_bytes hy c' 35 5 9 Try.underlying35 Try.underlying5 Try.underlying9
  generalize strOfNums xs = s at h1 h2
  go_enter Try.func19, Try.ntmps19
  go_wp2_with fail
  go_ret
  exact ⟨rfl, rfl⟩
end Go.Proofs.Ytmjdamcbdclgpaa
