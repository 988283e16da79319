/- The document's own Parts. -/
import Derived.Test.YtnjacobimndnbaaNrow
import Derived.Test.YtnjacobimndnbaaNparts
import Derived.RegionTactic
namespace Go.Proofs.Ytnjacobimndnbaa
open Go.RowKit
set_option linter.unusedVariables false
set_option linter.unusedSimpArgs false
set_option maxRecDepth 100000

/-- A row of the call's own, made since w. -/
def Mine (w wi : World) (v : Value) (xs : List ByteArray) : Prop := w.grownBy wi none ∧ Go.Proofs.Ytnjacobimndnbaa.Own 9 w.heap.size wi v (xs.map Value.string)
theorem Mine.app {w wi wj : World} {v v' : Value} {xs ys : List ByteArray} (h : Mine w wi v xs) (ho : Go.Proofs.Ytnjacobimndnbaa.Own 9 w.heap.size wj v' (ys.map Value.string)) (g : wi.grownBy wj v.ownBlock) : Mine w wj v' ys := by
  refine ⟨?_, ho⟩
  rcases ho' : v.ownBlock with _ | k
  · rw [ho'] at g; exact grownBy_trans h.1 g
  · rw [ho'] at g; exact grownBy_over h.1 g (h.2.lt k ho').1
theorem Mine.row {w w' : World} {v : Value} {xs : List ByteArray} (h : Mine w w' v xs) : RowOf w xs (.returned v) w' :=
  ⟨v, rfl, h.2, (Below.refl _ _).grown h.1 (Nat.le_refl _) (fun k e => by cases e)⟩

def RpartsAt (w : World) (s : ByteArray) (b : Int) (out at_ i : Value) (wr : World) : Prop :=
  ∃ k : Nat, k ≤ s.size ∧ i = .int .i64 k ∧ at_ = .int .i64 (cuts s b k).2 ∧ Mine w wr out (cuts s b k).1

theorem rparts_is (s : ByteArray) (b : Int) (w : World) (h : s.size ≤ 2000) : Calls Try.prog 48 #[.string s, .int .u8 b] w (RowOf w (partsB s b)) := by
  obtain ⟨i0, hi0, hz0, hz1, hz2⟩ := info_parts str_info
  have HI := Lib.hid hi0
  have HZ0 := Lib.hid hz0
  have HZ1 := Lib.hid hz1
  have HZ2 := Lib.hid hz2
  clear hi0 hz0 hz1 hz2
  have S : Mine w (w.alloc (.cells #[] 9)) (.slice (some ⟨w.heap.size, 0, none⟩) 0 0) [] := ⟨World.grownBy_alloc _ _ _, Own.empty (Nat.le_refl _)⟩
  go_enter Try.func48, Try.ntmps48
  go_wp2_with fail
  go_loopw [5, 6, 7] (fun out at_ i wr => RpartsAt w s b out at_ i wr) (fun _ _ i _ => s.size - (intOf i).toNat)
  case atStart => exact ⟨0, by omega, rfl, rfl, S⟩
  case round =>
    obtain ⟨k, hk, rfl, rfl, S⟩ := hrel
    have hat := cuts_at s b k
    have hcc := cuts_count s b k
    by_cases hlt : k < s.size
    · by_cases hb : (s[k].toNat : Int) = b
      · have hn1 := cuts_hit hlt hb
        have HN := Lib.hid hn1
        have t1 : ((s[k].toNat : Int) == b) = true := by simp [hb]
        clear hb hn1
        go_wp2_with (at_builtin; refine wpList_append_one rfl (.tmp 20) (.tmp 25) 59 rfl i0 (.string ⟨#[]⟩) 16 Try.underlying59 HI.out HZ0.out HZ1.out HZ2.out rfl rfl _ (.string (s.extract (cuts s b k).2 k)) rfl S.2 rfl (by simp [maxLen]; omega) (by simp; omega) S.1.size ?_; intro out' w4 ho hg hb4; have S4 := S.app (ys := (cuts s b k).1 ++ [s.extract (cuts s b k).2 k]) (by simpa using ho) hg)
        go_roundw
        case rel => exact ⟨k + 1, by omega, by go_num, by rw [HN.out]; go_num, by rw [HN.out]; exact S4⟩
        case measure => simp [intOf]; omega
      · have hn1 := cuts_miss hlt hb
        have HN := Lib.hid hn1
        have t1 : ((s[k].toNat : Int) == b) = false := by simp [hb]
        clear hb hn1
        go_wp2_with fail
        go_roundw
        case rel => exact ⟨k + 1, by omega, by go_num, by rw [HN.out], by rw [HN.out]; exact S⟩
        case measure => simp [intOf]; omega
    · obtain rfl : k = s.size := by omega
      go_wp2_with (at_builtin; refine wpList_append_one rfl (.tmp 29) (.tmp 33) 59 rfl i0 (.string ⟨#[]⟩) 16 Try.underlying59 HI.out HZ0.out HZ1.out HZ2.out rfl rfl _ (.string (s.extract (cuts s b s.size).2 s.size)) rfl S.2 rfl (by simp [maxLen]; omega) (by simp; omega) S.1.size ?_; intro out' w4 ho hg hb4; have S4 := S.app (ys := partsB s b) (by simpa [partsB] using ho) hg)
      go_ret
      exact S4.row

theorem grownBy_drewN (w : World) (n : Nat) (r : Option Nat) : w.grownBy (w.drewN n) r := ⟨rfl, rfl, rfl, Nat.le_refl _, fun _ _ _ => rfl⟩
end Go.Proofs.Ytnjacobimndnbaa
