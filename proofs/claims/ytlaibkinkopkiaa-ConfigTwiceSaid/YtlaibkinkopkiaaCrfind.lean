/- The document's searches: Listen, Cluster. -/
import Derived.Test.YtlaibkinkopkiaaCfind
namespace Go.Proofs.Ytlaibkinkopkiaa
open Go.RowKit
set_option linter.unusedVariables false
set_option linter.unusedSimpArgs false
set_option maxRecDepth 100000

theorem eqB_comm (a b : ByteArray) : eqB a b = eqB b a := by
  unfold eqB
  rw [Bool.eq_iff_iff, beq_iff_eq, beq_iff_eq]
  exact eq_comm
theorem hasL_comm (ls : List ByteArray) (s : ByteArray) : (ls.any fun x => eqB x s) = hasL ls s := by
  unfold hasL
  congr 1
  funext x
  exact eqB_comm x s

theorem rListen_is (A : Option Addr) (c B : Nat) (xs : List ByteArray) (s : ByteArray) (w : World) (hr : Reads w B A (xs.map Value.string)) (hl : xs.length ≤ c) (hm : c ≤ maxLen) :
    Calls Try.prog 12 #[.slice A xs.length c, .string s] w (FoundS w (hasL xs s)) := by
  unfold maxLen at hm
  rw [← hasL_comm]
  go_enter Try.func12, Try.ntmps12
  go_wp2
  go_loop [5] (fun i => ∃ k : Nat, k ≤ xs.length ∧ i = .int .i64 k ∧ ((xs.take k).any fun x => eqB x s) = false) (fun i => xs.length - (intOf i).toNat)
  case atStart => exact ⟨0, Nat.zero_le _, rfl, rfl⟩
  case round =>
    obtain ⟨k, hk, rfl, hno⟩ := hrel
    have HN := Lib.hid hno
    clear hno
    by_cases hlt : k < xs.length
    · obtain ⟨ad, rfl, hb, hc⟩ := hr.str hlt
      obtain ⟨b, hb⟩ : ∃ b, (xs[k].toList == s.toList) = b := ⟨_, rfl⟩
      have HB := Lib.hid hb
      generalize xs[k] = x at hc hb
      cases b with
      | true =>
        go_wp2
        go_ret
        exact foundS_yes (any_hit hlt HB.out)
      | false =>
        go_wp2
        go_round
        case rel => exact ⟨k + 1, by omega, by go_num, by rw [any_next hlt, HN.out, Bool.false_or]; exact HB.out⟩
        case measure => simp [intOf]; omega
    · go_wp2
      go_ret
      exact foundS_no (any_end hlt HN.out)

theorem rCluster_is (A : Option Addr) (c B : Nat) (xs : List Cl) (s : ByteArray) (w : World) (hr : Rows4 w B A (xs.map Cl.cells)) (hl : xs.length ≤ c) (hm : c ≤ maxLen) :
    Calls Try.prog 13 #[.slice A xs.length c, .string s] w (FoundS w (hasC xs s)) := by
  unfold maxLen at hm
  go_enter Try.func13, Try.ntmps13
  go_wp2
  go_loop [5] (fun i => ∃ k : Nat, k ≤ xs.length ∧ i = .int .i64 k ∧ ((xs.take k).any fun x => eqB x.name s) = false) (fun i => xs.length - (intOf i).toNat)
  case atStart => exact ⟨0, Nat.zero_le _, rfl, rfl⟩
  case round =>
    obtain ⟨k, hk, rfl, hno⟩ := hrel
    have HN := Lib.hid hno
    clear hno
    by_cases hlt : k < xs.length
    · obtain ⟨ad, rfl, hb, hcell⟩ := hr (by rw [List.length_map]; omega)
      obtain ⟨f0, f1, f2, f3⟩ := four_of (hcell k xs[k].cells (by rw [List.getElem?_map, List.getElem?_eq_getElem hlt]; rfl)) rfl
      clear hcell f1 f2 f3
      obtain ⟨b, hb⟩ : ∃ b, (xs[k].name.toList == s.toList) = b := ⟨_, rfl⟩
      have HB := Lib.hid hb
      generalize xs[k].name = x at f0 hb
      cases b with
      | true =>
        go_wp2
        go_ret
        exact foundS_yes (any_hit hlt HB.out)
      | false =>
        go_wp2
        go_round
        case rel => exact ⟨k + 1, by omega, by go_num, by rw [any_next hlt, HN.out, Bool.false_or]; exact HB.out⟩
        case measure => simp [intOf]; omega
    · go_wp2
      go_ret
      exact foundS_no (any_end hlt HN.out)
end Go.Proofs.Ytlaibkinkopkiaa
