/- The program's four calls of package snap say what they are to say. -/
import Derived.Test.YtknjdaokidcllaaSconfig
import Derived.Test.YtknjdaokidcllaaSmake
import Derived.Test.YtknjdaokidcllaaSseek
namespace Go.Proofs.Ytknjdaokidcllaa
open Go.RowKit
set_option linter.unusedVariables false
set_option linter.unusedSimpArgs false
set_option maxRecDepth 100000

set_option maxHeartbeats 1000000 in
theorem is_is (s : Sn) (hs : List (List Bool)) (w : World) (h : SnIn w w.heap.size s) (hh : HealthIn w w.heap.size s.cs hs) (few : Few s) : Calls Try.prog 13 #[s.val] w (Says w (isI s)) := by
  obtain ⟨w0, hw0⟩ : ∃ w0, w.alloc (.cells #[.slice s.la s.ls.length s.lc, .slice s.ra s.rs.length s.rc, .slice s.ca s.cs.length s.cc] 30) = w0 := ⟨_, rfl⟩
  have B0 : Below w.heap.size w w0 := by rw [← hw0]; exact boxed _ _
  have hbx : w0.heap[w.heap.size]? = some (.cells #[.slice s.la s.ls.length s.lc, .slice s.ra s.rs.length s.rc, .slice s.ca s.cs.length s.cc] 30 (0, 0)) := by rw [← hw0]; exact one_alloc _ _
  have f0 : w0.cell? ⟨w.heap.size, 0, none⟩ = some (.slice s.la s.ls.length s.lc) := by rw [block_cell hbx]; rfl
  have f1 : w0.cell? ⟨w.heap.size, 1, none⟩ = some (.slice s.ra s.rs.length s.rc) := by rw [block_cell hbx]; rfl
  have f2 : w0.cell? ⟨w.heap.size, 2, none⟩ = some (.slice s.ca s.cs.length s.cc) := by rw [block_cell hbx]; rfl
  have hq := conf_is s hs w0 (h.next B0) ((hh.below B0).more B0.size) few
  obtain ⟨i, hi⟩ : ∃ i, isI s = i := ⟨_, rfl⟩
  rw [hi]
  have HI := Lib.hid hi
  have BB := Lib.hid B0
  clear hbx B0 h hh few hi
  unfold Sn.val at hq ⊢
  go_enter Try.func13, Try.ntmps13
  go_wp2_with fail
  refine hq.mono ?_
  rintro e w1 ⟨c, rfl, hc, _, e1, e2, e3, k1⟩
  have hk := check_is c w1 hc
  have hz : ((checkI c.ls c.rs c.cs).1 == 0) = i := by rw [e1, e3, e2.ok]; exact HI.out
  have B1 := Lib.hid (below_next BB.out k1)
  clear hq hc e1 e2 e3 k1 f0 f1 f2 hw0
  generalize checkI c.ls c.rs c.cs = p at hk hz
  unfold Cfg.val at hk ⊢
  go_wp2_with fail
  refine hk.mono ?_
  rintro e w2 ⟨rfl, k2⟩
  go_wp2_with fail
  go_ret
  exact ⟨rfl, below_next B1.out k2⟩
theorem words : Words := ⟨build_is, conf_is, is_is, find_is⟩
end Go.Proofs.Ytknjdaokidcllaa
