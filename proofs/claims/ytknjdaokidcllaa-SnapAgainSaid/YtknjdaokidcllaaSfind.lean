/- The document's searches, with the number that they tell. -/
import Derived.Test.YtknjdaokidcllaaSpure
import Derived.Test.YtknjdaokidcllaaM2
namespace Go.Proofs.Ytknjdaokidcllaa
open Go.RowKit
set_option linter.unusedVariables false
set_option linter.unusedSimpArgs false
set_option maxRecDepth 100000

theorem rnumL_is (A : Option Addr) (c B : Nat) (xs : List ByteArray) (s : ByteArray) (w : World) (hr : Reads w B A (xs.map Value.string)) (hl : xs.length ≤ c) (hm : c ≤ maxLen) :
    Calls Try.prog 23 #[.slice A xs.length c, .string s] w fun e w' => e = .returned (.int .i64 (numL xs s)) ∧ w = w' := by
  unfold maxLen at hm
  go_enter Try.func23, Try.ntmps23
  go_wp2
  go_loop [5] (fun i => ∃ k : Nat, k ≤ xs.length ∧ i = .int .i64 k ∧ ((xs.take k).any fun x => eqB x s) = false) (fun i => xs.length - (intOf i).toNat)
  case atStart => exact ⟨0, Nat.zero_le _, rfl, rfl⟩
  case round =>
    obtain ⟨k, hk, rfl, hno⟩ := hrel
    have HN := Lib.hid hno
    clear hno
    by_cases hlt : k < xs.length
    · obtain ⟨ad, rfl, hb, hc⟩ := hr.str hlt
      obtain ⟨b, hb⟩ : ∃ b, (xs[k].toList == s.toList) = b := ⟨_, rfl⟩
      have HB := Lib.hid hb
      generalize xs[k] = x at hc hb
      cases b with
      | true =>
        go_wp2
        go_ret
        rw [numL, findI_hit (p := fun x => eqB x s) hlt HB.out HN.out]
        exact ⟨rfl, rfl⟩
      | false =>
        go_wp2
        go_round
        case rel => exact ⟨k + 1, by omega, by go_num, by rw [any_next hlt, HN.out, Bool.false_or]; exact HB.out⟩
        case measure => simp [intOf]; omega
    · go_wp2
      go_ret
      rw [numL, findI_none (any_end hlt HN.out)]
      exact ⟨rfl, rfl⟩

theorem rnumC_is (A : Option Addr) (c B : Nat) (xs : List Cl) (s : ByteArray) (w : World) (hr : Rows4 w B A (xs.map Cl.cells)) (hl : xs.length ≤ c) (hm : c ≤ maxLen) :
    Calls Try.prog 24 #[.slice A xs.length c, .string s] w fun e w' => e = .returned (.int .i64 (numC xs s)) ∧ w = w' := by
  unfold maxLen at hm
  go_enter Try.func24, Try.ntmps24
  go_wp2
  go_loop [5] (fun i => ∃ k : Nat, k ≤ xs.length ∧ i = .int .i64 k ∧ ((xs.take k).any fun x => eqB x.name s) = false) (fun i => xs.length - (intOf i).toNat)
  case atStart => exact ⟨0, Nat.zero_le _, rfl, rfl⟩
  case round =>
    obtain ⟨k, hk, rfl, hno⟩ := hrel
    have HN := Lib.hid hno
    clear hno
    by_cases hlt : k < xs.length
    · obtain ⟨ad, rfl, hb, hcell⟩ := hr (by rw [List.length_map]; omega)
      obtain ⟨f0, f1, f2, f3⟩ := four_of (hcell k xs[k].cells (by rw [List.getElem?_map, List.getElem?_eq_getElem hlt]; rfl)) rfl
      clear hcell f1 f2 f3
      obtain ⟨b, hb⟩ : ∃ b, (xs[k].name.toList == s.toList) = b := ⟨_, rfl⟩
      have HB := Lib.hid hb
      generalize xs[k].name = x at f0 hb
      cases b with
      | true =>
        go_wp2
        go_ret
        rw [numC, findI_hit (p := fun x : Cl => eqB x.name s) hlt HB.out HN.out]
        exact ⟨rfl, rfl⟩
      | false =>
        go_wp2
        go_round
        case rel => exact ⟨k + 1, by omega, by go_num, by rw [any_next hlt, HN.out, Bool.false_or]; exact HB.out⟩
        case measure => simp [intOf]; omega
    · go_wp2
      go_ret
      rw [numC, findI_none (any_end hlt HN.out)]
      exact ⟨rfl, rfl⟩
end Go.Proofs.Ytknjdaokidcllaa
