/- CellTexts: the walk. -/
import Derived.Test.YtbjhmciokhmapaaCellCas
import Derived.Test.YtbjhmciokhmapaaArgs
import Derived.Deep.RegionHeld3
namespace Go.Proofs.Ytbjhmciokhmapaa
open Go.RowKit
set_option linter.unusedVariables false
set_option linter.unusedSimpArgs false
set_option maxRecDepth 100000

theorem toList_inj {a b : ByteArray} (h : a.toList = b.toList) : a = b := by
  rw [ByteArray.toList_eq, ByteArray.toList_eq] at h
  exact Go.WideShapes.bytes_inj h

/-- A cell of texts, made since w. -/
def Text (w wi : World) (B : Nat) (s : ByteArray) (n : Int) : Prop := w.heap.size ≤ B ∧ CellS wi B s n ∧ w.grownBy wi none
theorem Text.go {w wi wj : World} {B : Nat} {s s' : ByteArray} {n n' : Int} (h : Text w wi B s n) (k : CellS wj B s' n') (g : wi.grownBy wj (some B)) : Text w wj B s' n' :=
  ⟨h.1, k, grownBy_over h.2.2 g h.1⟩
theorem Text.drew {w wi : World} {B : Nat} {s : ByteArray} {n : Int} (h : Text w wi B s n) : Text w wi.drew B s n :=
  ⟨h.1, h.2.1.grown0 ⟨rfl, rfl, rfl, Nat.le_refl _, fun _ _ _ => rfl⟩, grownBy_trans h.2.2 ⟨rfl, rfl, rfl, Nat.le_refl _, fun _ _ _ => rfl⟩⟩
def TextAt (w : World) (B n : Nat) (s i : Value) (wr : World) : Prop :=
  ∃ (k : Nat) (t : ByteArray) (m : Int), k ≤ n ∧ i = .int .i64 k ∧ s = .string t ∧ Text w wr B t m ∧ 0 ≤ m ∧ m ≤ 3 * k

theorem cellTexts_long (v : ByteArray) (A : Option Addr) (n c : Nat) (w : World) (h : 1000 < n) (hn : n ≤ maxLen) :
    Calls Try.prog 4 #[.string v, .slice A n c] w (Says w true) := by
  unfold maxLen at hn
  go_enter Try.func4, Try.ntmps4
  go_wp2_with fail
  go_ret
  exact ⟨rfl, World.grownBy.refl _ _⟩

theorem cellTexts_short (v : ByteArray) (A : Option Addr) (c : Nat) (xs : List ByteArray) (w : World) (h : xs.length ≤ 1000)
    (hx : Hid (Reads w w.heap.size A (xs.map Value.string))) :
    Calls Try.prog 4 #[.string v, .slice A xs.length c] w (Says w true) := by
  go_enter Try.func4, Try.ntmps4
  go_wp2_with fail
  refine (newS _ _).mono ?_
  rintro e w1 ⟨B, hB, rfl, hc1, hg1⟩
  have S : Text w w1 B v 0 := ⟨hB, hc1, hg1⟩
  clear hB hc1 hg1
  go_wp2_with fail
  go_loopw [0, 6] (fun s i wr => TextAt w B xs.length s i wr) (fun _ i _ => (1000 - intOf i).toNat)
  case atStart => exact ⟨0, v, 0, by omega, rfl, rfl, S, by omega, by omega⟩
  case round =>
    obtain ⟨k, s, m, hk, rfl, rfl, S, hm0, hm1⟩ := hrel
    have HV : Hid ((s.toList == s.toList) = true) := Lib.hid (beq_self_eq_true _)
    by_cases hl : k < xs.length
    · obtain ⟨ad, rfl, _, hc0⟩ := hx.out.str hl
      generalize xs[k] = z at hc0
      have HC0 := Lib.hid hc0
      clear hc0
      have hc := S.2.2.cell HC0.out (by simp)
      go_wp2_with fail
      have SD := S.drew
      go_region_held3 (fun wk => wk.cell? (ad.add k) = some (.string z)) (first | exact hc | exact hc3 | exact hc4)
        (first
          | (go_at_call 16; refine (casS_hit _ _ _ _ _ _ SD.2.1 HV.out (by omega) (by omega)).mono ?_; rintro e w3 ⟨rfl, kk, g⟩; have S3 := SD.go kk g; have hc3 := S3.2.2.cell HC0.out (by simp))
          | (go_at_call 17; refine (loadS _ _ _ _ S3.2.1 (by omega) (by omega)).mono ?_; rintro e w4 ⟨rfl, kk, g⟩; have S4 := S3.go kk g; have hc4 := S4.2.2.cell HC0.out (by simp)))
      by_cases hz : z = s
      · subst hz
        clear S SD S3 hc hc3 kk
        go_wp2_with fail
        go_roundw
        case rel => exact ⟨k + 1, z, _, by omega, by go_num, rfl, S4, by omega, by omega⟩
        case measure => simp [intOf]; omega
      · have b0 : ¬ z.toList = s.toList := fun e => hz (toList_inj e)
        have b1 : (z.toList == s.toList) = false := by simpa using b0
        have hq : Hid ((z.toList == s.toList) = false) := Lib.hid b1
        clear hz S SD S3 hc hc3 kk
        go_wp2_with fail
        refine (casS_miss _ _ _ _ _ _ S4.2.1 hq.out (by omega) (by omega)).mono ?_
        rintro e w5 ⟨rfl, kk, g5⟩
        have S5 := S4.go kk g5
        have hc5 := S5.2.2.cell HC0.out (by simp)
        clear S4 hc4 kk g5
        go_wp2_with fail
        go_roundw
        case rel => exact ⟨k + 1, z, _, by omega, by go_num, rfl, S5, by omega, by omega⟩
        case measure => simp [intOf]; omega
    · go_wp2_with fail
      refine (held_is _).mono ?_
      rintro e w3 ⟨rfl, g⟩
      have S3 : Text w w3 B s m := ⟨S.1, S.2.1.grown0 g, grownBy_trans S.2.2 g⟩
      clear S g
      go_wp2_with fail
      refine (loadS _ _ _ _ S3.2.1 (by omega) (by omega)).mono ?_
      rintro e w4 ⟨rfl, kk, g⟩
      have S4 := S3.go kk g
      clear S3 kk g
      go_wp2_with fail
      go_ret
      exact ⟨rfl, S4.2.2⟩

theorem cellTexts_walk (v : ByteArray) (A : Option Addr) (c : Nat) (xs : List ByteArray) (w : World) (w0 : v.size ≤ maxLen) (hx : StrsIn w A c xs) :
    Calls Try.prog 4 #[.string v, .slice A xs.length c] w fun e w' => e = .returned (.bool true) ∧ Below w.heap.size w w' := by
  by_cases h : 1000 < xs.length
  · exact (cellTexts_long v A xs.length c w h (Nat.le_trans hx.2.1 hx.2.2.1)).mono fun _ _ h => says_below h
  · exact (cellTexts_short v A c xs w (by omega) (Lib.hid hx.1)).mono fun _ _ h => says_below h
end Go.Proofs.Ytbjhmciokhmapaa
