/- Which rule fits, and which is better: the program's words and the document's. -/
import Derived.Test.YtknjdaokidcllaaM1
import Derived.Test.YtknjdaokidcllaaHosts
namespace Go.Proofs.Ytknjdaokidcllaa
open Go.RowKit
set_option linter.unusedVariables false
set_option linter.unusedSimpArgs false
set_option maxRecDepth 100000

theorem fits_is (r : Rl) (n : Int) (h p : ByteArray) (w : World) (hh : h.size ≤ 2000) (hp : r.path.size ≤ 2000) :
    Calls Try.prog 70 #[r.val, .int .i64 n, .string h, .string p] w (Says w (fitB n h p r)) := by
  have B := boxed w (.cells #[.int .i64 r.listen, .string r.host, .string r.path, .int .i64 r.cluster] 54)
  obtain ⟨f0, f1, f2, f3⟩ := four_in4' w (.int .i64 r.listen) (.string r.host) (.string r.path) (.int .i64 r.cluster) 54
  have hsz := World.size_alloc w (.cells #[.int .i64 r.listen, .string r.host, .string r.path, .int .i64 r.cluster] 54)
  have hm := fun w => match_is r.host h w hh
  have hu := fun w => under_is p r.path w hp
  obtain ⟨b1, hb1⟩ : ∃ b, (r.listen == n) = b := ⟨_, rfl⟩
  unfold fitB
  rw [hb1]
  generalize matchB r.host h = b2 at hm ⊢
  generalize underB p r.path = b3 at hu ⊢
  unfold Rl.val
  cases b1 with
  | false =>
    go_enter Try.func70, Try.ntmps70
    go_wp2_with fail
    go_ret
    exact ⟨rfl, B⟩
  | true =>
  cases b2 with
  | false =>
    go_enter Try.func70, Try.ntmps70
    go_wp2_with (go_at_call 86; ((with_reducible refine (hm _).mono ?_); rintro e w1 ⟨rfl, kk⟩))
    go_ret
    exact ⟨rfl, below_next B kk⟩
  | true =>
    go_enter Try.func70, Try.ntmps70
    go_wp2_with fail
    refine (hm _).mono ?_
    rintro e w1 ⟨rfl, kk⟩
    have g2 := (kk.cell (p := ⟨w.heap.size, 2, none⟩) (by simp [hsz])).trans f2
    have B1 := below_next B kk
    clear f0 f1 f2 f3 hsz kk B
    go_wp2_with (go_at_call 87; ((with_reducible refine (hu _).mono ?_); rintro e w2 ⟨rfl, kk⟩))
    go_ret
    exact ⟨rfl, below_next B1 kk⟩


theorem better2_is (a b : Rl) (w : World) : Calls Try.prog 57 #[a.val, b.val] w (Says w (btB a b)) := by
  have B := boxed w (.cells #[.int .i64 a.listen, .string a.host, .string a.path, .int .i64 a.cluster] 54)
  have C := boxed (w.alloc (.cells #[.int .i64 a.listen, .string a.host, .string a.path, .int .i64 a.cluster] 54)) (.cells #[.int .i64 b.listen, .string b.host, .string b.path, .int .i64 b.cluster] 54)
  have hsz := World.size_alloc w (.cells #[.int .i64 a.listen, .string a.host, .string a.path, .int .i64 a.cluster] 54)
  obtain ⟨f0, f1, f2, f3⟩ := four_below (by rw [hsz]; omega) (four_in4' w (.int .i64 a.listen) (.string a.host) (.string a.path) (.int .i64 a.cluster) 54) C
  obtain ⟨g0, g1, g2, g3⟩ := four_in4 w (.cells #[.int .i64 a.listen, .string a.host, .string a.path, .int .i64 a.cluster] 54) (.int .i64 b.listen) (.string b.host) (.string b.path) (.int .i64 b.cluster) 54
  replace B := below_next B C
  have hb := fun w => better_is a.host a.path b.host b.path w
  unfold btB
  generalize betterB a.host a.path b.host b.path = x at hb ⊢
  unfold Rl.val
  clear f0 f3 g0 g3 C hsz
  go_enter Try.func57, Try.ntmps57
  go_wp2_with fail
  refine (hb _).mono ?_
  rintro e w1 ⟨rfl, kk⟩
  go_wp2_with fail
  go_ret
  exact ⟨rfl, below_next B kk⟩
end Go.Proofs.Ytknjdaokidcllaa
