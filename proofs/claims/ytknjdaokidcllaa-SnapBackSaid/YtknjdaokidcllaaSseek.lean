/- snap.Find. -/
import Derived.Test.YtknjdaokidcllaaSwords
import Derived.Test.YtknjdaokidcllaaM4
namespace Go.Proofs.Ytknjdaokidcllaa
open Go.RowKit
set_option linter.unusedVariables false
set_option linter.unusedSimpArgs false
set_option maxRecDepth 100000

theorem found_none {l : List Rl} {f : Rl → Bool} (h : bestO l f = none) : foundI l f = (0, 5) := by rw [foundI, h]
theorem found_some {l : List Rl} {f : Rl → Bool} {x : Fin l.length} (h : bestO l f = some x) : foundI l f = (l[x].cluster, 0) := by rw [foundI, h]
set_option maxHeartbeats 4000000 in
theorem find_is (s : Sn) (w : World) (li h p : ByteArray) (hs : SnIn w w.heap.size s) (hh : h.size ≤ 2000) (hp : ∀ r ∈ s.rs, r.path.size ≤ 2000) :
    Calls Try.prog 17 #[s.val, .string li, .string h, .string p] w (Tells2 w (findS s li h p)) := by
  obtain ⟨w0, hw0⟩ : ∃ w0, w.alloc (.cells #[.slice s.la s.ls.length s.lc, .slice s.ra s.rs.length s.rc, .slice s.ca s.cs.length s.cc] 30) = w0 := ⟨_, rfl⟩
  have B0 : Below w.heap.size w w0 := by rw [← hw0]; exact boxed _ _
  have hbx : w0.heap[w.heap.size]? = some (.cells #[.slice s.la s.ls.length s.lc, .slice s.ra s.rs.length s.rc, .slice s.ca s.cs.length s.cc] 30 (0, 0)) := by rw [← hw0]; exact one_alloc _ _
  have h0 := hs.next B0
  have hq := listenNumber_is s.la s.lc s.ls li w0 h0.pl (Nat.le_trans h0.ll h0.lm)
  have f0 : w0.cell? ⟨w.heap.size, 0, none⟩ = some (.slice s.la s.ls.length s.lc) := by rw [block_cell hbx]; rfl
  unfold findS
  obtain ⟨n, hn⟩ : ∃ n, numL s.ls li = n := ⟨_, rfl⟩
  rw [hn] at hq ⊢
  clear hn
  obtain ⟨b, hd⟩ : ∃ b, decide (n < 0) = b := ⟨_, rfl⟩
  rw [hd]
  have H0 := Lib.hid h0
  have HB := Lib.hid hbx
  have BB := Lib.hid B0
  have HP := Lib.hid hp
  clear h0 hbx B0 hp hs
  unfold Sn.val
  go_enter Try.func17, Try.ntmps17
  go_wp2_with fail
  refine hq.mono ?_
  rintro e w1 ⟨rfl, k1⟩
  clear hq f0 hw0
  obtain ⟨o, ho⟩ : ∃ o, bestO s.rs (fitB n h p) = o := ⟨_, rfl⟩
  cases b
  · have hb1 := (k1.block _ (block_lt HB.out)).trans HB.out
    have f1 : w1.cell? ⟨w.heap.size, 1, none⟩ = some (.slice s.ra s.rs.length s.rc) := by rw [block_cell hb1]; rfl
    have hq := best_calls s.ra s.rc s.rs n h p w1 (H0.out.next k1).rules hh HP.out
    have B1 := Lib.hid (below_next BB.out k1)
    have K1 := Lib.hid k1
    rw [ho] at hq
    clear hb1 k1
    cases o with
    | none =>
      have HF : Hid ((bif false then ((0, 3) : Int × Int) else foundI s.rs (fitB n h p)) = (0, 5)) := Lib.hid (found_none ho)
      clear ho
      simp only [numO, errO] at hq
      go_wp2_with fail
      refine hq.mono ?_
      rintro e w2 ⟨rfl, k2⟩
      go_wp2_with fail
      go_ret2
      rw [HF.out]
      exact ⟨rfl, below_next B1.out k2⟩
    | some x =>
      have HF : Hid ((bif false then ((0, 3) : Int × Int) else foundI s.rs (fitB n h p)) = (s.rs[x].cluster, 0)) := Lib.hid (found_some ho)
      clear ho
      simp only [numO, errO] at hq
      obtain ⟨x, hx⟩ := x
      go_wp2_with fail
      refine hq.mono ?_
      rintro e w2 ⟨rfl, k2⟩
      clear f1 hq
      have k12 := K1.out.trans (k2.mono K1.out.size)
      have hb2 := (k12.block _ (block_lt HB.out)).trans HB.out
      have f1 : w2.cell? ⟨w.heap.size, 1, none⟩ = some (.slice s.ra s.rs.length s.rc) := by rw [block_cell hb2]; rfl
      obtain ⟨ad, e, _⟩ := H0.out.pr (by rw [List.length_map]; omega)
      have hpr := H0.out.pr
      rw [e] at hpr f1
      obtain ⟨x0, x1, x2, x3⟩ := row4_rl (W := w2) hpr hx (fun q hq => k12.cell hq)
      clear x0 x1 x2 hb2 e hpr
      have B2 := Lib.hid (below_next B1.out k2)
      clear k2 k12
      simp only [Fin.getElem_fin] at HF
      generalize s.rs[x].cluster = y at x3 HF
      go_wp2_with fail
      go_ret2
      rw [HF.out]
      exact ⟨rfl, B2.out⟩
  · go_wp2_with fail
    go_ret2
    exact ⟨rfl, below_next BB.out k1⟩
end Go.Proofs.Ytknjdaokidcllaa
