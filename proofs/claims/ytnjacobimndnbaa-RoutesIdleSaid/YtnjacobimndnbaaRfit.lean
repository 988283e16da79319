/- Which rule fits, and which is better: the program's words and the document's. -/
import Derived.Test.YtnjacobimndnbaaRin
import Derived.Test.YtnjacobimndnbaaHosts
import Derived.Test.YtnjacobimndnbaaHrund
namespace Go.Proofs.Ytnjacobimndnbaa
open Go.RowKit
set_option linter.unusedVariables false
set_option linter.unusedSimpArgs false
set_option maxRecDepth 100000

theorem fits_is (r : Rl) (n : Int) (h p : ByteArray) (w : World) (hh : h.size ≤ 2000) (hp : r.path.size ≤ 2000) :
    Calls Try.prog 12 #[r.val, .int .i64 n, .string h, .string p] w (Says w (fitsB n h p r)) := by
  have B := boxed w (.cells #[.int .i64 r.listen, .string r.host, .string r.path, .int .i64 r.cluster] 31)
  obtain ⟨f0, f1, f2, f3⟩ := four_in4' w (.int .i64 r.listen) (.string r.host) (.string r.path) (.int .i64 r.cluster) 31
  have hsz := World.size_alloc w (.cells #[.int .i64 r.listen, .string r.host, .string r.path, .int .i64 r.cluster] 31)
  have hm := fun w => match_is r.host h w hh
  have hu := fun w => under_is p r.path w hp
  obtain ⟨b1, hb1⟩ : ∃ b, (r.listen == n) = b := ⟨_, rfl⟩
  unfold fitsB
  rw [hb1]
  generalize matchB r.host h = b2 at hm ⊢
  generalize underB p r.path = b3 at hu ⊢
  unfold Rl.val
  cases b1 with
  | false =>
    go_enter Try.func12, Try.ntmps12
    go_wp2_with fail
    go_ret
    exact ⟨rfl, B⟩
  | true =>
  cases b2 with
  | false =>
    go_enter Try.func12, Try.ntmps12
    go_wp2_with (go_at_call 20; ((with_reducible refine (hm _).mono ?_); rintro e w1 ⟨rfl, kk⟩))
    go_ret
    exact ⟨rfl, below_next B kk⟩
  | true =>
    go_enter Try.func12, Try.ntmps12
    go_wp2_with fail
    refine (hm _).mono ?_
    rintro e w1 ⟨rfl, kk⟩
    have g2 := (kk.cell (p := ⟨w.heap.size, 2, none⟩) (by simp [hsz])).trans f2
    have B1 := below_next B kk
    clear f0 f1 f2 f3 hsz kk B
    go_wp2_with (go_at_call 21; ((with_reducible refine (hu _).mono ?_); rintro e w2 ⟨rfl, kk⟩))
    go_ret
    exact ⟨rfl, below_next B1 kk⟩

theorem rfits_is (r : Rl) (n : Int) (h p : ByteArray) (w : World) (hh : h.size ≤ 2000) (ho : r.host.size ≤ 2000) (hp : r.path.size ≤ 2000) (hq : p.size ≤ 2000) :
    Calls Try.prog 13 #[r.val, .int .i64 n, .string h, .string p] w (Says w (fitsB n h p r)) := by
  have B := boxed w (.cells #[.int .i64 r.listen, .string r.host, .string r.path, .int .i64 r.cluster] 31)
  obtain ⟨f0, f1, f2, f3⟩ := four_in4' w (.int .i64 r.listen) (.string r.host) (.string r.path) (.int .i64 r.cluster) 31
  have hsz := World.size_alloc w (.cells #[.int .i64 r.listen, .string r.host, .string r.path, .int .i64 r.cluster] 31)
  have hm := fun w => rmatch_is r.host h w ho hh
  have hu := fun w => runder_is p r.path w hq hp
  obtain ⟨b1, hb1⟩ : ∃ b, (r.listen == n) = b := ⟨_, rfl⟩
  unfold fitsB
  rw [hb1]
  generalize matchB r.host h = b2 at hm ⊢
  generalize underB p r.path = b3 at hu ⊢
  unfold Rl.val
  cases b1 with
  | false =>
    go_enter Try.func13, Try.ntmps13
    go_wp2_with fail
    go_ret
    exact ⟨rfl, B⟩
  | true =>
  cases b2 with
  | false =>
    go_enter Try.func13, Try.ntmps13
    go_wp2_with (go_at_call 22; ((with_reducible refine (hm _).mono ?_); rintro e w1 ⟨rfl, kk⟩))
    go_ret
    exact ⟨rfl, below_next B kk⟩
  | true =>
    go_enter Try.func13, Try.ntmps13
    go_wp2_with fail
    refine (hm _).mono ?_
    rintro e w1 ⟨rfl, kk⟩
    have g2 := (kk.cell (p := ⟨w.heap.size, 2, none⟩) (by simp [hsz])).trans f2
    have B1 := below_next B kk
    clear f0 f1 f2 f3 hsz kk B
    go_wp2_with (go_at_call 23; ((with_reducible refine (hu _).mono ?_); rintro e w2 ⟨rfl, kk⟩))
    go_ret
    exact ⟨rfl, below_next B1 kk⟩

theorem better2_is (a b : Rl) (w : World) : Calls Try.prog 17 #[a.val, b.val] w (Says w (btB a b)) := by
  have B := boxed w (.cells #[.int .i64 a.listen, .string a.host, .string a.path, .int .i64 a.cluster] 31)
  have C := boxed (w.alloc (.cells #[.int .i64 a.listen, .string a.host, .string a.path, .int .i64 a.cluster] 31)) (.cells #[.int .i64 b.listen, .string b.host, .string b.path, .int .i64 b.cluster] 31)
  have hsz := World.size_alloc w (.cells #[.int .i64 a.listen, .string a.host, .string a.path, .int .i64 a.cluster] 31)
  obtain ⟨f0, f1, f2, f3⟩ := four_below (by rw [hsz]; omega) (four_in4' w (.int .i64 a.listen) (.string a.host) (.string a.path) (.int .i64 a.cluster) 31) C
  obtain ⟨g0, g1, g2, g3⟩ := four_in4 w (.cells #[.int .i64 a.listen, .string a.host, .string a.path, .int .i64 a.cluster] 31) (.int .i64 b.listen) (.string b.host) (.string b.path) (.int .i64 b.cluster) 31
  replace B := below_next B C
  have hb := fun w => better_is a.host a.path b.host b.path w
  unfold btB
  generalize betterB a.host a.path b.host b.path = x at hb ⊢
  unfold Rl.val
  clear f0 f3 g0 g3 C hsz
  go_enter Try.func17, Try.ntmps17
  go_wp2_with fail
  refine (hb _).mono ?_
  rintro e w1 ⟨rfl, kk⟩
  go_wp2_with fail
  go_ret
  exact ⟨rfl, below_next B kk⟩
end Go.Proofs.Ytnjacobimndnbaa
