/- The document's own Host. -/
import Derived.Test.YtnjacobimndnbaaNrlist
import Derived.Test.YtnjacobimndnbaaNref
namespace Go.Proofs.Ytnjacobimndnbaa
open Go.RowKit
set_option linter.unusedVariables false
set_option linter.unusedSimpArgs false
set_option maxRecDepth 100000

theorem map_string_length (xs : List ByteArray) : (xs.map Value.string).length = xs.length := List.length_map ..

theorem rhost_is (s : ByteArray) (w : World) (h : s.size ≤ 2000) : Calls Try.prog 35 #[.string s] w (Says w (hostB s)) := by
  have hlen := partsB_count s 46
  go_enter Try.func35, Try.ntmps35
  go_wp2_with fail
  refine (rparts_is s 46 w h).mono ?_
  rintro e w1 ⟨v, rfl, ho, hb⟩
  obtain ⟨A, c, rfl⟩ := ho.slice
  rw [map_string_length]
  have hr := Lib.hid ho.reads
  obtain ⟨xs, hxs⟩ : ∃ xs, partsB s 46 = xs := ⟨_, rfl⟩
  rw [hxs] at hr hlen ⊢
  have HX := Lib.hid hxs
  clear hxs ho
  go_wp2_with fail
  go_loop [4] (fun i => ∃ k : Nat, k ≤ xs.length ∧ i = .int .i64 k ∧ ∀ y ∈ xs.take k, nameB y = true) (fun i => xs.length - (intOf i).toNat)
  case atStart => exact ⟨0, by omega, rfl, fun y hy => by simp at hy⟩
  case round =>
    obtain ⟨k, hk, rfl, hp⟩ := hrel
    have HP := Lib.hid hp
    clear hp
    by_cases hlt : k < xs.length
    · obtain ⟨ad, rfl, _, hc⟩ := hr.out.str hlt
      have ht : xs.take (k + 1) = xs.take k ++ [xs[k]] := List.take_succ_eq_append_getElem hlt
      have HT := Lib.hid ht
      have HM := Lib.hid (List.getElem_mem hlt)
      clear ht
      generalize xs[k] = z at hc HT HM
      have hN := rname_is z w1
      obtain ⟨c, hc'⟩ : ∃ c, nameB z = c := ⟨_, rfl⟩
      rw [hc'] at hN
      have HC := Lib.hid hc'
      clear hc'
      cases c with
      | false =>
        go_wp2_with fail
        refine hN.mono ?_
        rintro e w' ⟨rfl, rfl⟩
        go_wp2_with fail
        go_ret
        refine ⟨ret_bool ?_, hb⟩
        rw [hostB, HX.out]
        symm
        rw [Bool.and_eq_false_iff]
        refine .inr ?_
        rw [Bool.eq_false_iff]
        intro ha
        have := List.all_eq_true.1 ha z HM.out
        rw [HC.out] at this
        cases this
      | true =>
        go_wp2_with fail
        refine hN.mono ?_
        rintro e w' ⟨rfl, rfl⟩
        go_wp2_with fail
        go_round
        case rel => exact ⟨k + 1, by omega, by go_num, fun y hy => by
          rw [HT.out] at hy
          rcases List.mem_append.1 hy with hy | hy
          · exact HP.out y hy
          · simp at hy; subst hy; exact HC.out⟩
        case measure => simp [intOf]; omega
    · obtain rfl : k = xs.length := by omega
      have hq : xs.all nameB = true := by
        rw [List.all_eq_true]; intro y hy; exact HP.out y (by rw [List.take_length]; exact hy)
      have HQ := Lib.hid hq
      clear hq
      go_wp2_with fail
      go_ret
      refine ⟨ret_bool ?_, hb⟩
      rw [hostB, HX.out, HQ.out, Bool.and_true]
      first | rfl | (congr 1; apply propext; omega)
end Go.Proofs.Ytnjacobimndnbaa
