/- Layer 4's examples, asked ahead of each of its statements: they answer true. -/
import Derived.Test.YtfljjpkblleflaaHosts
namespace Go.Proofs.Ytfljjpkblleflaa
open Go.RowKit
set_option linter.unusedVariables false
set_option linter.unusedSimpArgs false
set_option maxRecDepth 100000

theorem tell0 (w : World) : Calls Try.prog 9 #[.string ⟨#[42]⟩, .string ⟨#[97, 46, 98]⟩] w (Says w true) := (match_is _ _ w (by decide)).mono fun _ _ h => h.of (by kernel_rfl)
theorem tell1 (w : World) : Calls Try.prog 9 #[.string ⟨#[42, 46, 98]⟩, .string ⟨#[97, 46, 98]⟩] w (Says w true) := (match_is _ _ w (by decide)).mono fun _ _ h => h.of (by kernel_rfl)
theorem tell2 (w : World) : Calls Try.prog 9 #[.string ⟨#[42, 46, 98]⟩, .string ⟨#[98]⟩] w (Says w false) := (match_is _ _ w (by decide)).mono fun _ _ h => h.of (by kernel_rfl)
theorem tell3 (w : World) : Calls Try.prog 9 #[.string ⟨#[42, 46, 98]⟩, .string ⟨#[97, 98]⟩] w (Says w false) := (match_is _ _ w (by decide)).mono fun _ _ h => h.of (by kernel_rfl)
theorem tell4 (w : World) : Calls Try.prog 9 #[.string ⟨#[97]⟩, .string ⟨#[97]⟩] w (Says w true) := (match_is _ _ w (by decide)).mono fun _ _ h => h.of (by kernel_rfl)
theorem tell5 (w : World) : Calls Try.prog 9 #[.string ⟨#[97]⟩, .string ⟨#[98]⟩] w (Says w false) := (match_is _ _ w (by decide)).mono fun _ _ h => h.of (by kernel_rfl)
theorem tell6 (w : World) : Calls Try.prog 11 #[.string ⟨#[47, 97, 47, 98]⟩, .string ⟨#[47, 97]⟩] w (Says w true) := (under_is _ _ w (by decide)).mono fun _ _ h => h.of (by kernel_rfl)
theorem tell7 (w : World) : Calls Try.prog 11 #[.string ⟨#[47, 97, 98]⟩, .string ⟨#[47, 97]⟩] w (Says w false) := (under_is _ _ w (by decide)).mono fun _ _ h => h.of (by kernel_rfl)
theorem tell8 (w : World) : Calls Try.prog 11 #[.string ⟨#[47, 97, 98]⟩, .string ⟨#[47]⟩] w (Says w true) := (under_is _ _ w (by decide)).mono fun _ _ h => h.of (by kernel_rfl)
theorem tell9 (w : World) : Calls Try.prog 13 #[.string ⟨#[42, 46, 97, 98]⟩] w (SaysI w 2) := (weight_is _ w ).mono fun _ _ h => h.of (by kernel_rfl)
theorem tell10 (w : World) : Calls Try.prog 13 #[.string ⟨#[97, 98]⟩] w (SaysI w 100) := (weight_is _ w ).mono fun _ _ h => h.of (by kernel_rfl)
theorem tell11 (w : World) : Calls Try.prog 13 #[.string ⟨#[42]⟩] w (SaysI w 0) := (weight_is _ w ).mono fun _ _ h => h.of (by kernel_rfl)
theorem tell12 (w : World) : Calls Try.prog 15 #[.string ⟨#[42, 46, 97]⟩, .string ⟨#[47]⟩, .string ⟨#[42]⟩, .string ⟨#[47, 97, 97, 97]⟩] w (Says w true) := (better_is _ _ _ _ w ).mono fun _ _ h => h.of (by kernel_rfl)
theorem tell13 (w : World) : Calls Try.prog 15 #[.string ⟨#[42]⟩, .string ⟨#[47, 97]⟩, .string ⟨#[42]⟩, .string ⟨#[47, 98]⟩] w (Says w false) := (better_is _ _ _ _ w ).mono fun _ _ h => h.of (by kernel_rfl)

theorem matched_is (w : World) : Calls Try.prog 8 #[] w (Says w true) := by
  go_enter Try.func8, Try.ntmps8
  have B : Below w.heap.size w w := Below.refl _ _
  go_wp2_with fail
  refine (tell0 _).mono ?_
  rintro e w0 ⟨rfl, h⟩
  replace B := below_next B h
  clear h
  go_wp2_with fail
  refine (tell1 _).mono ?_
  rintro e w1 ⟨rfl, h⟩
  replace B := below_next B h
  clear h
  go_wp2_with fail
  refine (tell2 _).mono ?_
  rintro e w2 ⟨rfl, h⟩
  replace B := below_next B h
  clear h
  go_wp2_with fail
  refine (tell3 _).mono ?_
  rintro e w3 ⟨rfl, h⟩
  replace B := below_next B h
  clear h
  go_wp2_with fail
  refine (tell4 _).mono ?_
  rintro e w4 ⟨rfl, h⟩
  replace B := below_next B h
  clear h
  go_wp2_with fail
  refine (tell5 _).mono ?_
  rintro e w5 ⟨rfl, h⟩
  replace B := below_next B h
  clear h
  go_wp2_with fail
  refine (tell6 _).mono ?_
  rintro e w6 ⟨rfl, h⟩
  replace B := below_next B h
  clear h
  go_wp2_with fail
  refine (tell7 _).mono ?_
  rintro e w7 ⟨rfl, h⟩
  replace B := below_next B h
  clear h
  go_wp2_with fail
  refine (tell8 _).mono ?_
  rintro e w8 ⟨rfl, h⟩
  replace B := below_next B h
  clear h
  go_wp2_with fail
  refine (tell9 _).mono ?_
  rintro e w9 ⟨rfl, h⟩
  replace B := below_next B h
  clear h
  go_wp2_with fail
  refine (tell10 _).mono ?_
  rintro e w10 ⟨rfl, h⟩
  replace B := below_next B h
  clear h
  go_wp2_with fail
  refine (tell11 _).mono ?_
  rintro e w11 ⟨rfl, h⟩
  replace B := below_next B h
  clear h
  go_wp2_with fail
  refine (tell12 _).mono ?_
  rintro e w12 ⟨rfl, h⟩
  replace B := below_next B h
  clear h
  go_wp2_with fail
  refine (tell13 _).mono ?_
  rintro e w13 ⟨rfl, h⟩
  replace B := below_next B h
  clear h
  go_wp2_with fail
  go_ret
  exact ⟨rfl, B⟩
end Go.Proofs.Ytfljjpkblleflaa
