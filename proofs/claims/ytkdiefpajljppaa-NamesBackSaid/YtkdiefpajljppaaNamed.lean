/- The chapter's examples, asked ahead of each statement of layer 3: they answer true. -/
import Derived.Test.YtkdiefpajljppaaNstar
import Derived.Test.YtkdiefpajljppaaNhasP
namespace Go.Proofs.Ytkdiefpajljppaa
open Go.RowKit
set_option linter.unusedVariables false
set_option linter.unusedSimpArgs false
set_option maxRecDepth 100000

/-- A row that was just made of these texts reads so. -/
theorem reads_made (w : World) (xs : List ByteArray) (E : TypeId) : Reads (w.alloc (.cells (xs.map Value.string).toArray E)) (w.heap.size + 1) (some ⟨w.heap.size, 0, none⟩) (xs.map Value.string) := fun _ =>
  ⟨_, rfl, Nat.lt_succ_self _, fun j u hu => by
    have : (⟨w.heap.size, 0, none⟩ : Addr).add j = ⟨w.heap.size, j, none⟩ := by simp [Addr.add]; intro h; exact h.symm
    rw [this, World.cell?_alloc_new]
    simpa using hu⟩

theorem say0 (w : World) : Calls Try.prog 9 #[.string ⟨#[119, 101, 98, 45, 49]⟩] w (Says w true) := (name_is _ w).mono fun _ _ h => h.of (by kernel_rfl)
theorem say1 (w : World) : Calls Try.prog 9 #[.string ⟨#[49, 119, 101, 98]⟩] w (Says w false) := (name_is _ w).mono fun _ _ h => h.of (by kernel_rfl)
theorem say2 (w : World) : Calls Try.prog 9 #[.string ⟨#[]⟩] w (Says w false) := (name_is _ w).mono fun _ _ h => h.of (by kernel_rfl)
theorem say3 (w : World) : Calls Try.prog 11 #[.string ⟨#[97, 46, 98, 45, 99]⟩] w (Says w true) := (host_is _ w).mono fun _ _ h => h.of (by kernel_rfl)
theorem say4 (w : World) : Calls Try.prog 11 #[.string ⟨#[97, 46, 46, 98]⟩] w (Says w false) := (host_is _ w).mono fun _ _ h => h.of (by kernel_rfl)
theorem say5 (w : World) : Calls Try.prog 13 #[.string ⟨#[42]⟩] w (Says w true) := (pattern_is _ w).mono fun _ _ h => h.of (by kernel_rfl)
theorem say6 (w : World) : Calls Try.prog 13 #[.string ⟨#[42, 46, 97, 46, 98]⟩] w (Says w true) := (pattern_is _ w).mono fun _ _ h => h.of (by kernel_rfl)
theorem say7 (w : World) : Calls Try.prog 13 #[.string ⟨#[97, 46, 98]⟩] w (Says w true) := (pattern_is _ w).mono fun _ _ h => h.of (by kernel_rfl)
theorem say8 (w : World) : Calls Try.prog 13 #[.string ⟨#[42, 97]⟩] w (Says w false) := (pattern_is _ w).mono fun _ _ h => h.of (by kernel_rfl)
theorem say9 (w : World) : Calls Try.prog 15 #[.string ⟨#[47, 97, 47, 98]⟩] w (Says w true) := (path_is _ w).mono fun _ _ h => h.of (by kernel_rfl)
theorem say10 (w : World) : Calls Try.prog 15 #[.string ⟨#[97]⟩] w (Says w false) := (path_is _ w).mono fun _ _ h => h.of (by kernel_rfl)
theorem cut0 : partsB ⟨#[97, 46, 46, 98]⟩ 46 = [⟨#[97]⟩, ⟨#[]⟩, ⟨#[98]⟩] := by kernel_rfl
theorem cut1 : partsB ⟨#[]⟩ 46 = [⟨#[]⟩] := by kernel_rfl

theorem named_is (w : World) : Calls Try.prog 8 #[] w (Says w true) := by
  go_enter Try.func8, Try.ntmps8
  have B : Below w.heap.size w w := Below.refl _ _
  go_wp2_with fail
  refine (say0 _).mono ?_
  rintro e w0 ⟨rfl, h⟩
  replace B := below_next B h
  clear h
  go_wp2_with fail
  refine (say1 _).mono ?_
  rintro e w1 ⟨rfl, h⟩
  replace B := below_next B h
  clear h
  go_wp2_with fail
  refine (say2 _).mono ?_
  rintro e w2 ⟨rfl, h⟩
  replace B := below_next B h
  clear h
  go_wp2_with fail
  refine (say3 _).mono ?_
  rintro e w3 ⟨rfl, h⟩
  replace B := below_next B h
  clear h
  go_wp2_with fail
  refine (say4 _).mono ?_
  rintro e w4 ⟨rfl, h⟩
  replace B := below_next B h
  clear h
  go_wp2_with fail
  refine (say5 _).mono ?_
  rintro e w5 ⟨rfl, h⟩
  replace B := below_next B h
  clear h
  go_wp2_with fail
  refine (say6 _).mono ?_
  rintro e w6 ⟨rfl, h⟩
  replace B := below_next B h
  clear h
  go_wp2_with fail
  refine (say7 _).mono ?_
  rintro e w7 ⟨rfl, h⟩
  replace B := below_next B h
  clear h
  go_wp2_with fail
  refine (say8 _).mono ?_
  rintro e w8 ⟨rfl, h⟩
  replace B := below_next B h
  clear h
  go_wp2_with fail
  refine (say9 _).mono ?_
  rintro e w9 ⟨rfl, h⟩
  replace B := below_next B h
  clear h
  go_wp2_with fail
  refine (say10 _).mono ?_
  rintro e w10 ⟨rfl, h⟩
  replace B := below_next B h
  clear h
  go_wp2_with fail
  refine (parts_is ⟨#[97, 46, 46, 98]⟩ 46 _ (by decide)).mono ?_
  rintro e w11 ⟨v, rfl, ho, h⟩
  rw [cut0] at ho
  obtain ⟨A, c, rfl⟩ := ho.slice
  have hr := ho.reads
  replace B := below_next B h
  clear h ho
  have ha := (Below.refl w11.heap.size w11).alloc (Nat.le_refl _) (.cells (([⟨#[97]⟩, ⟨#[]⟩, ⟨#[98]⟩] : List ByteArray).map Value.string).toArray 9)
  have hr1 := Lib.hid ((hr.below ha).more (Nat.le_succ _))
  have hr2 := Lib.hid (reads_made w11 [⟨#[97]⟩, ⟨#[]⟩, ⟨#[98]⟩] 9)
  have hz : Hid (w11.heap.size + 1 = (w11.alloc (.cells (([⟨#[97]⟩, ⟨#[]⟩, ⟨#[98]⟩] : List ByteArray).map Value.string).toArray 9)).heap.size) := Lib.hid (World.size_alloc ..).symm
  clear hr
  go_wp2_with fail
  refine (same_yes _ _ _ _ [⟨#[97]⟩, ⟨#[]⟩, ⟨#[98]⟩] _ (by decide) (Lib.hid (hz.out ▸ hr1.out)) (Lib.hid (hz.out ▸ hr2.out))).mono ?_
  rintro e w12 ⟨rfl, h⟩
  replace B := below_next (below_next B ha) h
  clear h ha hr1 hr2 hz
  go_wp2_with fail
  refine (parts_is ⟨#[]⟩ 46 _ (by decide)).mono ?_
  rintro e w13 ⟨v, rfl, ho, h⟩
  rw [cut1] at ho
  obtain ⟨A, c, rfl⟩ := ho.slice
  have hr := ho.reads
  replace B := below_next B h
  clear h ho
  have ha := (Below.refl w13.heap.size w13).alloc (Nat.le_refl _) (.cells (([⟨#[]⟩] : List ByteArray).map Value.string).toArray 9)
  have hr1 := Lib.hid ((hr.below ha).more (Nat.le_succ _))
  have hr2 := Lib.hid (reads_made w13 [⟨#[]⟩] 9)
  have hz : Hid (w13.heap.size + 1 = (w13.alloc (.cells (([⟨#[]⟩] : List ByteArray).map Value.string).toArray 9)).heap.size) := Lib.hid (World.size_alloc ..).symm
  clear hr
  go_wp2_with fail
  refine (same_yes _ _ _ _ [⟨#[]⟩] _ (by decide) (Lib.hid (hz.out ▸ hr1.out)) (Lib.hid (hz.out ▸ hr2.out))).mono ?_
  rintro e w14 ⟨rfl, h⟩
  replace B := below_next (below_next B ha) h
  clear h ha hr1 hr2 hz
  go_wp2_with fail
  go_ret
  exact ⟨rfl, B⟩
end Go.Proofs.Ytkdiefpajljppaa
