/- The walks of NamesAre and NamesParts. -/
import Derived.Test.YtkdiefpajljppaaNamed
import Derived.Test.YtkdiefpajljppaaNref
namespace Go.Proofs.Ytkdiefpajljppaa
open Go.RowKit
set_option linter.unusedVariables false
set_option linter.unusedSimpArgs false
set_option maxRecDepth 100000

theorem namesAre_walk (s : ByteArray) (w : World) (hs : s.size ≤ maxLen) :
    Calls Try.prog 3 #[.string s] w fun e w' => e = .returned (.bool true) ∧ Below w.heap.size w w' := by
  unfold maxLen at hs
  by_cases h : 2000 < s.size
  · have h1 : decide ((2000 : Int) < (s.size : Int)) = true := by simp; omega
    go_enter Try.func3, Try.ntmps3
    go_wp2_with fail
    go_ret
    exact ⟨rfl, Below.refl _ _⟩
  · have h1 : decide ((2000 : Int) < (s.size : Int)) = false := by simp; omega
    have n1 := fun w => name_is s w
    have n2 := fun w => rname_is s w
    have h3 := fun w => host_is s w
    have h4 := fun w => rhost_is s w (by omega)
    have p1 := fun w => pattern_is s w
    have p2 := fun w => rpattern_is s w (by omega)
    have q1 := fun w => path_is s w
    have q2 := fun w => rpath_is s w
    generalize nameB s = a at n1 n2
    generalize hostB s = b at h3 h4
    generalize patternB s = c at p1 p2
    generalize pathB s = d at q1 q2
    have ta : (a == a) = true := beq_self_eq_true _
    have tb : (b == b) = true := beq_self_eq_true _
    have tc : (c == c) = true := beq_self_eq_true _
    have td : (d == d) = true := beq_self_eq_true _
    have B : Below w.heap.size w w := Below.refl _ _
    go_enter Try.func3, Try.ntmps3
    go_wp2_with fail
    refine (named_is _).mono ?_
    rintro e w1 ⟨rfl, k⟩
    replace B := below_next B k
    clear k
    go_wp2_with fail
    refine (n1 _).mono ?_
    rintro e w2 ⟨rfl, k⟩
    replace B := below_next B k
    clear k
    go_wp2_with fail
    refine (n2 _).mono ?_
    rintro e w' ⟨rfl, rfl⟩
    go_wp2_with fail
    refine (h3 _).mono ?_
    rintro e w3 ⟨rfl, k⟩
    replace B := below_next B k
    clear k
    go_wp2_with fail
    refine (h4 _).mono ?_
    rintro e w4 ⟨rfl, k⟩
    replace B := below_next B k
    clear k
    go_wp2_with fail
    refine (p1 _).mono ?_
    rintro e w5 ⟨rfl, k⟩
    replace B := below_next B k
    clear k
    go_wp2_with fail
    refine (p2 _).mono ?_
    rintro e w6 ⟨rfl, k⟩
    replace B := below_next B k
    clear k
    go_wp2_with fail
    refine (q1 _).mono ?_
    rintro e w7 ⟨rfl, k⟩
    replace B := below_next B k
    clear k
    go_wp2_with fail
    refine (q2 _).mono ?_
    rintro e w' ⟨rfl, rfl⟩
    go_wp2_with fail
    go_ret
    exact ⟨rfl, B⟩

theorem namesParts_walk (s : ByteArray) (b : Int) (w : World) (hs : s.size ≤ maxLen) (hb : (Lit.int .u8 b).wf = true) :
    Calls Try.prog 4 #[.string s, .int .u8 b] w fun e w' => e = .returned (.bool true) ∧ Below w.heap.size w w' := by
  unfold maxLen at hs
  by_cases h : 2000 < s.size
  · have h1 : decide ((2000 : Int) < (s.size : Int)) = true := by simp; omega
    go_enter Try.func4, Try.ntmps4
    go_wp2_with fail
    go_ret
    exact ⟨rfl, Below.refl _ _⟩
  · have h1 : decide ((2000 : Int) < (s.size : Int)) = false := by simp; omega
    have hlen := partsB_count s b
    have B : Below w.heap.size w w := Below.refl _ _
    go_enter Try.func4, Try.ntmps4
    go_wp2_with fail
    refine (named_is _).mono ?_
    rintro e w1 ⟨rfl, k⟩
    replace B := below_next B k
    clear k
    go_wp2_with fail
    refine (parts_is s b _ (by omega)).mono ?_
    rintro e w2 ⟨v, rfl, ho, k⟩
    obtain ⟨A, c, rfl⟩ := ho.slice
    have hr := ho.reads
    rw [map_string_length]
    replace B := below_next B k
    clear k ho
    go_wp2_with fail
    refine (rparts_is s b _ (by omega)).mono ?_
    rintro e w3 ⟨v', rfl, ho, k⟩
    obtain ⟨A', c', rfl⟩ := ho.slice
    have hr' := Lib.hid ho.reads
    have hr1 := Lib.hid ((hr.below k).more k.size)
    rw [map_string_length]
    replace B := below_next B k
    clear k ho hr
    go_wp2_with fail
    refine (same_yes _ _ _ _ (partsB s b) _ (by unfold maxLen; omega) hr1 hr').mono ?_
    rintro e w4 ⟨rfl, k⟩
    replace B := below_next B k
    go_wp2_with fail
    go_ret
    exact ⟨rfl, B⟩
end Go.Proofs.Ytkdiefpajljppaa
