/- The walk of ConfigChecks. -/
import Derived.Test.YtlaibkinkopkiaaCopen
import Derived.Test.YtlaibkinkopkiaaCchkwalk
import Derived.Test.YtlaibkinkopkiaaCref
import Derived.Test.YtlaibkinkopkiaaCbig
namespace Go.Proofs.Ytlaibkinkopkiaa
open Go.RowKit
set_option linter.unusedVariables false
set_option linter.unusedSimpArgs false
set_option maxRecDepth 100000

theorem big_hosts {c : Cfg} (h : bigB c.ls c.rs c.cs = false) : ∀ r ∈ c.rs, r.host.size ≤ 2000 := fun r hr => Nat.le_trans (big_host h hr) (by decide)

/-- The box of the law's own configuration, and what is read of it behind calls. -/
theorem box3 {w W : World} {a b c : Value} {t : TypeId} (B : Below (w.alloc (.cells #[a, b, c] t)).heap.size (w.alloc (.cells #[a, b, c] t)) W) :
    W.cell? ⟨w.heap.size, 0, none⟩ = some a ∧ W.cell? ⟨w.heap.size, 1, none⟩ = some b ∧ W.cell? ⟨w.heap.size, 2, none⟩ = some c := by
  obtain ⟨h0, h1, h2⟩ := cell_in3 w a b c t
  exact ⟨(B.cell (p := ⟨w.heap.size, 0, none⟩) (by simp)).trans h0, (B.cell (p := ⟨w.heap.size, 1, none⟩) (by simp)).trans h1, (B.cell (p := ⟨w.heap.size, 2, none⟩) (by simp)).trans h2⟩

set_option maxHeartbeats 2000000 in
theorem configChecks_walk (c : Cfg) (w : World) (h : CfgIn w w.heap.size c) :
    Calls Try.prog 3 #[c.val] w fun e w' => e = .returned (.bool true) ∧ Below w.heap.size w w' := by
  have hB := fun W (h : CfgIn W W.heap.size c) => big_is c W h
  have hC := fun W (h : CfgIn W W.heap.size c) => check_is c W h
  have hR := fun (hb : bigB c.ls c.rs c.cs = false) W (h : CfgIn W W.heap.size c) => rcheck_is c W h (big_hosts hb)
  obtain ⟨b, hb⟩ : ∃ b, bigB c.ls c.rs c.cs = b := ⟨_, rfl⟩
  rw [hb] at hB hR
  have HIN := Lib.hid h
  clear h hb
  generalize checkI c.ls c.rs c.cs = p at hC hR
  have B := boxed w (.cells #[.slice c.la c.ls.length c.lc, .slice c.ra c.rs.length c.rc, .slice c.ca c.cs.length c.cc] 26)
  have hb := hB _ ((HIN.out.below B).more B.size)
  unfold Cfg.val at *
  have HC := Lib.hid hC
  have HR := Lib.hid hR
  clear hB hC hR
  go_enter Try.func3, Try.ntmps3
  go_wp2_with fail
  refine hb.mono ?_
  rintro e W ⟨rfl, kk⟩
  obtain ⟨v0, v1, v2⟩ := box3 kk
  have KK := Lib.hid kk
  have B1 := below_next B kk
  clear hb kk B
  cases b with
  | true =>
    go_wp2_with fail
    go_ret
    exact ⟨rfl, B1⟩
  | false =>
    have hc := HC.out W ((HIN.out.below B1).more B1.size)
    go_wp2_with fail
    refine hc.mono ?_
    rintro e W2 ⟨rfl, kk⟩
    have k2 := KK.out.trans (kk.mono KK.out.size)
    have B2 := below_next B1 kk
    clear v0 v1 v2 hc kk
    obtain ⟨v0, v1, v2⟩ := box3 k2
    have hr := HR.out (by first | trivial | rfl) W2 ((HIN.out.below B2).more B2.size)
    clear k2
    go_wp2_with fail
    refine hr.mono ?_
    rintro e W3 ⟨rfl, kk⟩
    have B3 := below_next B2 kk
    clear v0 v1 v2 hr kk
    go_wp2_with fail
    refine (checked_is W3).mono ?_
    rintro e W4 ⟨rfl, kk⟩
    have B4 := below_next B3 kk
    clear kk
    go_wp2_with fail
    go_ret
    exact ⟨rfl, B4⟩
end Go.Proofs.Ytlaibkinkopkiaa
