/- snap.Build. -/
import Derived.Test.YtknjdaokidcllaaSwords
import Derived.Test.YtknjdaokidcllaaM4
import Derived.Test.YtknjdaokidcllaaCmain2
import Derived.Deep.RegionHeld3
import Derived.Deep.CutRange
import Derived.Deep.LoopGhost
namespace Go.Proofs.Ytknjdaokidcllaa
open Go.RowKit
set_option linter.unusedVariables false
set_option linter.unusedSimpArgs false
set_option maxRecDepth 100000

theorem Good.few {ls : List ByteArray} {rs : List Rt} {cs : List Cl} (g : Good ls rs cs) : ls.length ≤ 50 ∧ rs.length ≤ 50 ∧ cs.length ≤ 50 ∧ ∀ x ∈ cs, x.hn ≤ 50 := by
  have f := fits_iff.1 g.fits
  refine ⟨by omega, by omega, by omega, fun x hx => ?_⟩
  have h := g.c x hx
  simp only [goodC, Bool.and_eq_true, within_iff] at h
  have := h.2.2.2.2
  omega
set_option maxHeartbeats 8000000 in
theorem build_is (c : Cfg) (hs : List (List Bool)) (w : World) (h : CfgIn w w.heap.size c) (hh : HealthIn w w.heap.size c.cs hs) : Calls Try.prog 8 #[c.val] w (Built c hs w) := by
  obtain ⟨ir, hir, hr0, hr1, hr2⟩ := info_parts rule_info
  have IR := Lib.hid (⟨hir, hr0, hr1, hr2⟩ : _ ∧ _ ∧ _ ∧ _)
  clear hir hr0 hr1 hr2
  obtain ⟨w2, hw2⟩ : ∃ w2, (w.alloc (.cells #[.slice c.la c.ls.length c.lc, .slice c.ra c.rs.length c.rc, .slice c.ca c.cs.length c.cc] 26)).alloc (.cells #[.slice none 0 0, .slice none 0 0, .slice none 0 0] 30) = w2 := ⟨_, rfl⟩
  have B0 : Below w.heap.size w w2 := by rw [← hw2]; exact below_alloc (boxed w _) (Nat.le_refl _)
  have hz2 : w2.heap.size = w.heap.size + 2 := by rw [← hw2]; simp
  have hC : w2.heap[w.heap.size]? = some (.cells #[.slice c.la c.ls.length c.lc, .slice c.ra c.rs.length c.rc, .slice c.ca c.cs.length c.cc] 26 (0, 0)) := by rw [← hw2]; exact kept_alloc (one_alloc _ _)
  have hR : w2.heap[w.heap.size + 1]? = some (.cells #[.slice none 0 0, .slice none 0 0, .slice none 0 0] 30 (0, 0)) := by
    rw [← hw2]
    have := one_alloc (w.alloc (.cells #[.slice c.la c.ls.length c.lc, .slice c.ra c.rs.length c.rc, .slice c.ca c.cs.length c.cc] 26)) (.cells #[.slice none 0 0, .slice none 0 0, .slice none 0 0] 30)
    rwa [World.size_alloc] at this
  have hk := check_is c w2 ((h.below B0).more B0.size)
  have HIN := Lib.hid h
  have HH := Lib.hid hh
  have HC0 := Lib.hid hC
  have HR0 := Lib.hid hR
  have BB := Lib.hid B0
  have HZ := Lib.hid hz2
  clear h hh hR hz2
  unfold Built
  obtain ⟨p, hp⟩ : ∃ p, checkI c.ls c.rs c.cs = p := ⟨_, rfl⟩
  rw [hp] at hk ⊢
  have CHK := Lib.hid hp
  clear hp
  have f0 : w2.cell? ⟨w.heap.size, 0, none⟩ = some (.slice c.la c.ls.length c.lc) := by rw [block_cell hC]; rfl
  have f1 : w2.cell? ⟨w.heap.size, 1, none⟩ = some (.slice c.ra c.rs.length c.rc) := by rw [block_cell hC]; rfl
  have f2 : w2.cell? ⟨w.heap.size, 2, none⟩ = some (.slice c.ca c.cs.length c.cc) := by rw [block_cell hC]; rfl
  clear hC
  unfold Cfg.val at hk ⊢
  go_enter Try.func8, Try.ntmps8
  go_wp2_with fail
  refine hk.mono ?_
  rintro e WB ⟨rfl, kk⟩
  have BW := below_next B0 kk
  have HC : Hid (WB.heap[w.heap.size]? = _) := Lib.hid ((kk.block _ (by rw [HZ.out]; omega)).trans HC0.out)
  have HR : Hid (WB.heap[w.heap.size + 1]? = _) := Lib.hid ((kk.block _ (by rw [HZ.out]; omega)).trans HR0.out)
  have HZB : Hid (w.heap.size + 2 ≤ WB.heap.size) := Lib.hid (by have := kk.size; rw [HZ.out] at this; exact this)
  clear hk kk f0 f1 f2 hw2 B0 BB HC0 HR0 HZ
  by_cases hp : p.1 = 0
  case neg =>
    have hne : (p.1 != 0) = true := by simpa using hp
    have r0 := block_free HR.out 0
    have r1 := block_free HR.out 1
    have r2 := block_free HR.out 2
    have c0 : WB.cell? ⟨w.heap.size + 1, 0, none⟩ = some (.slice none 0 0) := by rw [block_cell HR.out]; rfl
    have c1 : WB.cell? ⟨w.heap.size + 1, 1, none⟩ = some (.slice none 0 0) := by rw [block_cell HR.out]; rfl
    have c2 : WB.cell? ⟨w.heap.size + 1, 2, none⟩ = some (.slice none 0 0) := by rw [block_cell HR.out]; rfl
    have HP := Lib.hid hp
    have HBW := Lib.hid BW
    clear hp BW
    go_wp2_with fail
    have hV := three_set HR.out (.slice none 0 0) (.slice none 0 0) (.slice none 0 0)
    have BV := (((HBW.out.setCell (p := ⟨w.heap.size + 1, 0, none⟩) (by simp) (.slice none 0 0)).setCell (p := ⟨w.heap.size + 1, 1, none⟩) (by simp) (.slice none 0 0)).setCell (p := ⟨w.heap.size + 1, 2, none⟩) (by simp) (.slice none 0 0))
    generalize ((WB.setCell ⟨w.heap.size + 1, 0, none⟩ (.slice none 0 0)).setCell ⟨w.heap.size + 1, 1, none⟩ (.slice none 0 0)).setCell ⟨w.heap.size + 1, 2, none⟩ (.slice none 0 0) = V at hV BV ⊢
    have v0 : V.cell? ⟨w.heap.size + 1, 0, none⟩ = some (.slice none 0 0) := by rw [block_cell hV]; rfl
    have v1 : V.cell? ⟨w.heap.size + 1, 1, none⟩ = some (.slice none 0 0) := by rw [block_cell hV]; rfl
    have v2 : V.cell? ⟨w.heap.size + 1, 2, none⟩ = some (.slice none 0 0) := by rw [block_cell hV]; rfl
    exact bodyPost_ret (v := .tuple #[.agg #[.slice none 0 0, .slice none 0 0, .slice none 0 0], .int .i64 p.1, .int .i64 p.2]) (by simp [results, Try.f8, go_sem, v0, v1, v2]) rfl (.inr ⟨HP.out, rfl, BV⟩)
  case pos =>
    have hne : (p.1 != 0) = false := by simpa using hp
    have HP := Lib.hid hp
    have G := good_iff.1 (show (checkI c.ls c.rs c.cs).1 = 0 by rw [CHK.out]; exact hp)
    have FEW := Lib.hid G.few
    have cL := Lib.hid fun W (hW0 : Below WB.heap.size WB W) => by
      have hW := below_next BW hW0
      have := cloneS_is c.la c.lc (c.ls.map Value.string) W ((HIN.out.pl.below hW).more hW.size) (by rw [List.length_map]; have := FEW.out.1; omega) (fun u hu => by obtain ⟨x, _, rfl⟩ := List.mem_map.1 hu; rfl)
      unfold Copies at this
      rw [List.length_map] at this
      exact this
    have cC := Lib.hid fun W (hW0 : Below WB.heap.size WB W) => have hW := below_next BW hW0; copied_is c.ca c.cc c.cs hs W ((HIN.out.pc.below hW).more hW.size) ((HH.out.below hW).more hW.size) (by have := FEW.out.2.2.1; omega) (fun x hx => by have := FEW.out.2.2.2 x hx; omega)
    clear hp G CHK
    have HBW := Lib.hid BW
    clear BW
    go_wp2_with fail
    have S2 := Lib.hid fun W' (hW : Below WB.heap.size WB W') => (⟨(hW.cell (p := ⟨w.heap.size, 0, none⟩) (by have := HZB.out; show w.heap.size < WB.heap.size; omega)).trans (by rw [block_cell HC.out]; rfl), (hW.cell (p := ⟨w.heap.size, 2, none⟩) (by have := HZB.out; show w.heap.size < WB.heap.size; omega)).trans (by rw [block_cell HC.out]; rfl)⟩ : W'.cell? ⟨w.heap.size, 0, none⟩ = some (.slice c.la c.ls.length c.lc) ∧ W'.cell? ⟨w.heap.size, 2, none⟩ = some (.slice c.ca c.cs.length c.cc))
    go_cut [7] from 20 to 27 (fun v3 wx => ∃ XB la lc ca cc ds, v3 = .pointer (some ⟨XB, 0, none⟩) ∧ Lists 30 WB wx XB la ca lc cc c.ls ds c.cs hs)
    case first =>
      have kD : Below WB.heap.size WB WB.drew := below_drew (Below.refl _ _)
      refine wp_region_held_drew (S := fun wk => wk.cell? ⟨w.heap.size, 0, none⟩ = some (.slice c.la c.ls.length c.lc) ∧ wk.cell? ⟨w.heap.size, 2, none⟩ = some (.slice c.ca c.cs.length c.cc)) (by kernel_rfl) (S2.out _ kD) (fun _ => ?_)
      refine wpAnyH_take (i := 0) (oi := { dst := some 20, op := _, type := _, pos := _, after := _, guard := _ }) (v := .pointer (some ⟨w.heap.size, 0, none⟩)) rfl (by kernel_rfl) (by kernel_rfl) (by kernel_rfl) (fun _ _ _ h => h) (Or.inl ⟨by rfl, fun wk hk => by obtain ⟨q1, q2⟩ := hk; go_simp⟩) (S2.out _ kD) ?_
      simp only [Act.put, List.setIfInBounds_toArray, List.set_cons_zero, List.set_cons_succ]
      refine wpAnyH_take (i := 1) (oi := { dst := some 21, op := _, type := _, pos := _, after := _, guard := _ }) (v := .slice c.la c.ls.length c.lc) rfl (by kernel_rfl) (by kernel_rfl) (by kernel_rfl) (fun _ _ _ h => h) (Or.inl ⟨by rfl, fun wk hk => by obtain ⟨q1, q2⟩ := hk; go_simp⟩) (S2.out _ kD) ?_
      simp only [Act.put, List.setIfInBounds_toArray, List.set_cons_zero, List.set_cons_succ]
      refine wpAnyH_take (i := 3) (oi := { dst := some 23, op := _, type := _, pos := _, after := _, guard := _ }) (v := .pointer (some ⟨w.heap.size, 2, none⟩)) rfl (by kernel_rfl) (by kernel_rfl) (by kernel_rfl) (fun _ _ _ h => h) (Or.inl ⟨by rfl, fun wk hk => by obtain ⟨q1, q2⟩ := hk; go_simp⟩) (S2.out _ kD) ?_
      simp only [Act.put, List.setIfInBounds_toArray, List.set_cons_zero, List.set_cons_succ]
      refine wpAnyH_take (i := 4) (oi := { dst := some 24, op := _, type := _, pos := _, after := _, guard := _ }) (v := .slice c.ca c.cs.length c.cc) rfl (by kernel_rfl) (by kernel_rfl) (by kernel_rfl) (fun _ _ _ h => h) (Or.inl ⟨by rfl, fun wk hk => by obtain ⟨q1, q2⟩ := hk; go_simp⟩) (S2.out _ kD) ?_
      simp only [Act.put, List.setIfInBounds_toArray, List.set_cons_zero, List.set_cons_succ]
      refine wpAnyH_ready (rs := [2, 7]) (by kernel_rfl) (by simp) ?_
      refine (AllReadyH.cons rfl (fun K hK => ?_) (AllReadyH.cons rfl (fun K hK => ?_) AllReadyH.nil))
      · go_simp
        refine (cL.out _ kD).mono ?_
        rintro e w3 ⟨la, lc, rfl, oL, k3⟩
        have B3 := kD.trans (k3.mono kD.size)
        refine hK.out _ _ (S2.out _ B3) (fun _ => ?_)
        clear hK K
        try simp only [Act.put, List.setIfInBounds_toArray, List.set_cons_zero, List.set_cons_succ]
        refine wpAnyH_ready (rs := [5, 7]) (by kernel_rfl) (by simp) ?_
        refine (AllReadyH.cons rfl (fun K hK => ?_) (AllReadyH.cons rfl (fun K hK => ?_) AllReadyH.nil))
        · go_simp
          refine (cC.out _ B3).mono ?_
          rintro e w4 ⟨ca, cc, ds, rfl, oC, hH, hA, hF, k4⟩
          have B4 := B3.trans (k4.mono B3.size)
          refine hK.out _ _ (S2.out _ B4) (fun _ => ?_)
          clear hK K
          try simp only [Act.put, List.setIfInBounds_toArray, List.set_cons_zero, List.set_cons_succ]
          refine wpAnyH_take (i := 6) (oi := { dst := some 26, op := _, type := _, pos := _, after := _, guard := _ }) (v := .agg #[.slice la c.ls.length lc, .slice none 0 0, .slice ca ds.length cc]) rfl (by kernel_rfl) (by kernel_rfl) (by kernel_rfl) (fun _ _ _ h => h) (Or.inl ⟨by rfl, fun wk hk => by obtain ⟨q1, q2⟩ := hk; go_simp⟩) (S2.out _ B4) ?_
          simp only [Act.put, List.setIfInBounds_toArray, List.set_cons_zero, List.set_cons_succ]
          refine wpAnyH_ready (rs := [7]) (by kernel_rfl) (by simp) ?_
          refine (AllReadyH.cons rfl (fun K hK => ?_) AllReadyH.nil)
          go_simp
          have kA := below_alloc (o := (.cells #[.slice none 0 0, .slice none 0 0, .slice none 0 0] 30)) B4 (Nat.le_refl _)
          refine hK.out _ _ (S2.out _ kA) (fun _ => ?_)
          clear hK K
          try simp only [Act.put, List.setIfInBounds_toArray, List.set_cons_zero, List.set_cons_succ]
          refine wpAnyH_ready (rs := [8]) (by kernel_rfl) (by simp) ?_
          refine (AllReadyH.cons rfl (fun K hK => ?_) AllReadyH.nil)
          have bx := one_alloc w4 (.cells #[.slice none 0 0, .slice none 0 0, .slice none 0 0] 30)
          have c0 := block_cell bx 0
          have c1 := block_cell bx 1
          have c2 := block_cell bx 2
          have z0 := block_free bx 0
          have z1 := block_free bx 1
          have z2 := block_free bx 2
          have T := two_new (TX := 30) B3 (oL.base kD.size) oC hH hA hF k4
          have TB := T.B
          go_simp
          refine hK.out _ _ (S2.out _ TB) (fun _ => ?_)
          clear hK K
          try simp only [Act.put, List.setIfInBounds_toArray, List.set_cons_zero, List.set_cons_succ]
          refine wpAnyH_done (by kernel_rfl) ?_ _
          clear c0 c1 c2 z0 z1 z2
          go_wp2_with fail
          go_meet
          case rel => exact ⟨_, _, _, _, _, _, rfl, T⟩
        · go_simp
          have kA := below_alloc (o := (.cells #[.slice none 0 0, .slice none 0 0, .slice none 0 0] 30)) B3 (Nat.le_refl _)
          refine hK.out _ _ (S2.out _ kA) (fun _ => ?_)
          clear hK K
          try simp only [Act.put, List.setIfInBounds_toArray, List.set_cons_zero, List.set_cons_succ]
          refine wpAnyH_ready (rs := [5]) (by kernel_rfl) (by simp) ?_
          refine (AllReadyH.cons rfl (fun K hK => ?_) AllReadyH.nil)
          go_simp
          refine (cC.out _ kA).mono ?_
          rintro e w4 ⟨ca, cc, ds, rfl, oC, hH, hA, hF, k4⟩
          have B4 := kA.trans (k4.mono kA.size)
          refine hK.out _ _ (S2.out _ B4) (fun _ => ?_)
          clear hK K
          try simp only [Act.put, List.setIfInBounds_toArray, List.set_cons_zero, List.set_cons_succ]
          refine wpAnyH_take (i := 6) (oi := { dst := some 26, op := _, type := _, pos := _, after := _, guard := _ }) (v := .agg #[.slice la c.ls.length lc, .slice none 0 0, .slice ca ds.length cc]) rfl (by kernel_rfl) (by kernel_rfl) (by kernel_rfl) (fun _ _ _ h => h) (Or.inl ⟨by rfl, fun wk hk => by obtain ⟨q1, q2⟩ := hk; go_simp⟩) (S2.out _ B4) ?_
          simp only [Act.put, List.setIfInBounds_toArray, List.set_cons_zero, List.set_cons_succ]
          refine wpAnyH_ready (rs := [8]) (by kernel_rfl) (by simp) ?_
          refine (AllReadyH.cons rfl (fun K hK => ?_) AllReadyH.nil)
          have bx : w4.heap[w3.heap.size]? = some (.cells #[.slice none 0 0, .slice none 0 0, .slice none 0 0] 30 (0, 0)) := (k4.block _ (by simp)).trans (one_alloc w3 (.cells #[.slice none 0 0, .slice none 0 0, .slice none 0 0] 30))
          have c0 := block_cell bx 0
          have c1 := block_cell bx 1
          have c2 := block_cell bx 2
          have z0 := block_free bx 0
          have z1 := block_free bx 1
          have z2 := block_free bx 2
          have T := two_put (kA) B3.size (by simp) bx (by decide) (by decide) ((oL.base kD.size).alloc _) oC hH hA hF k4
          have TB := T.B
          go_simp
          refine hK.out _ _ (S2.out _ TB) (fun _ => ?_)
          clear hK K
          try simp only [Act.put, List.setIfInBounds_toArray, List.set_cons_zero, List.set_cons_succ]
          refine wpAnyH_done (by kernel_rfl) ?_ _
          clear c0 c1 c2 z0 z1 z2
          go_wp2_with fail
          go_meet
          case rel => exact ⟨_, _, _, _, _, _, rfl, T⟩
      · go_simp
        have kA := below_alloc (o := (.cells #[.slice none 0 0, .slice none 0 0, .slice none 0 0] 30)) kD (Nat.le_refl _)
        refine hK.out _ _ (S2.out _ kA) (fun _ => ?_)
        clear hK K
        try simp only [Act.put, List.setIfInBounds_toArray, List.set_cons_zero, List.set_cons_succ]
        refine wpAnyH_ready (rs := [2]) (by kernel_rfl) (by simp) ?_
        refine (AllReadyH.cons rfl (fun K hK => ?_) AllReadyH.nil)
        go_simp
        refine (cL.out _ kA).mono ?_
        rintro e w3 ⟨la, lc, rfl, oL, k3⟩
        have B3 := kA.trans (k3.mono kA.size)
        refine hK.out _ _ (S2.out _ B3) (fun _ => ?_)
        clear hK K
        try simp only [Act.put, List.setIfInBounds_toArray, List.set_cons_zero, List.set_cons_succ]
        refine wpAnyH_ready (rs := [5]) (by kernel_rfl) (by simp) ?_
        refine (AllReadyH.cons rfl (fun K hK => ?_) AllReadyH.nil)
        go_simp
        refine (cC.out _ B3).mono ?_
        rintro e w4 ⟨ca, cc, ds, rfl, oC, hH, hA, hF, k4⟩
        have B4 := B3.trans (k4.mono B3.size)
        refine hK.out _ _ (S2.out _ B4) (fun _ => ?_)
        clear hK K
        try simp only [Act.put, List.setIfInBounds_toArray, List.set_cons_zero, List.set_cons_succ]
        refine wpAnyH_take (i := 6) (oi := { dst := some 26, op := _, type := _, pos := _, after := _, guard := _ }) (v := .agg #[.slice la c.ls.length lc, .slice none 0 0, .slice ca ds.length cc]) rfl (by kernel_rfl) (by kernel_rfl) (by kernel_rfl) (fun _ _ _ h => h) (Or.inl ⟨by rfl, fun wk hk => by obtain ⟨q1, q2⟩ := hk; go_simp⟩) (S2.out _ B4) ?_
        simp only [Act.put, List.setIfInBounds_toArray, List.set_cons_zero, List.set_cons_succ]
        refine wpAnyH_ready (rs := [8]) (by kernel_rfl) (by simp) ?_
        refine (AllReadyH.cons rfl (fun K hK => ?_) AllReadyH.nil)
        have bx : w4.heap[WB.heap.size]? = some (.cells #[.slice none 0 0, .slice none 0 0, .slice none 0 0] 30 (0, 0)) := (k4.block _ (by have := k3.size; simp at this ⊢; omega)).trans ((k3.block _ (by simp)).trans (one_alloc WB.drew (.cells #[.slice none 0 0, .slice none 0 0, .slice none 0 0] 30)))
        have c0 := block_cell bx 0
        have c1 := block_cell bx 1
        have c2 := block_cell bx 2
        have z0 := block_free bx 0
        have z1 := block_free bx 1
        have z2 := block_free bx 2
        have T := two_put (B3) (by simp) (by have := k3.size; simp at this ⊢; omega) bx (by decide) (by decide) (oL.base kA.size) oC hH hA hF k4
        have TB := T.B
        go_simp
        refine hK.out _ _ (S2.out _ TB) (fun _ => ?_)
        clear hK K
        try simp only [Act.put, List.setIfInBounds_toArray, List.set_cons_zero, List.set_cons_succ]
        refine wpAnyH_done (by kernel_rfl) ?_ _
        clear c0 c1 c2 z0 z1 z2
        go_wp2_with fail
        go_meet
        case rel => exact ⟨_, _, _, _, _, _, rfl, T⟩
    case rest =>
      generalize wc = W1 at *
      obtain ⟨XB, la, lc, ca, cc, ds, rfl, T⟩ := hcut
      have f1 : W1.cell? ⟨w.heap.size, 1, none⟩ = some (.slice c.ra c.rs.length c.rc) := (T.B.cell (p := ⟨w.heap.size, 1, none⟩) (by have := HZB.out; show w.heap.size < WB.heap.size; omega)).trans (by rw [block_cell HC.out]; rfl)
      have hcf := (T.B.block w.heap.size (by have := HZB.out; omega)).trans HC.out
      have hlc := block_lt hcf
      have hne : w.heap.size ≠ XB := by have := T.hb; have := HZB.out; omega
      have HWB := Lib.hid T.B.size
      have HC1 := Lib.hid (And.intro hlc hne)
      have HC2 := Lib.hid hcf
      have T0 := T.turn 54
      have TT := Lib.hid T
      clear hcf hlc hne S2 T
      go_wp2_with fail
      go_loopg [30] c.rs.length (fun g i wr => ∃ k : Nat, k ≤ c.rs.length ∧ g = c.rs.length - k ∧ i = .int .i64 k ∧ ∃ v, Turn 54 30 WB W1 wr XB (.slice la c.ls.length lc) (.slice ca ds.length cc) v ((rulesI c.ls (c.rs.take k) c.cs).map Rl.cells))
      case atStart => exact ⟨0, Nat.zero_le _, rfl, rfl, _, T0⟩
      case round =>
        clear T0 f1
        obtain ⟨k, hk, rfl, rfl, v, G⟩ := hrel
        by_cases hlt : k < c.rs.length
        · have BR := below_next HBW.out G.k.B
          obtain ⟨ad, e, _⟩ := HIN.out.pr (by rw [List.length_map]; omega)
          have hpr := HIN.out.pr
          rw [e] at hpr
          obtain ⟨x0, x1, x2, x3⟩ := row4_rt (W := wr) hpr hlt (fun q hq => BR.cell hq)
          obtain ⟨r, hr⟩ : ∃ r, c.rs[k] = r := ⟨_, rfl⟩
          rw [hr] at x0 x1 x2 x3
          have hnx : rulesI c.ls (c.rs.take (k + 1)) c.cs = rulesI c.ls (c.rs.take k) c.cs ++ [ruleI c.ls c.cs r] := by
            unfold rulesI
            rw [List.take_succ_eq_append_getElem hlt, List.map_append, List.map_singleton, hr]
          have hlen : (rulesI c.ls (c.rs.take k) c.cs).length = k := by simp [rulesI]; omega
          have HNX := Lib.hid hnx
          have HLEN := Lib.hid hlen
          clear hr hpr hnx hlen
          obtain ⟨A4, n4, c4, hv⟩ := own_form G.own.2
          subst hv
          have M := G.mid (TE := 48) (x0 := .string r.listen) (x1 := .string r.host) (x2 := .string r.path) (x3 := .string r.cluster) HC1.out HC2.out
          have MM := Lib.hid M
          have BR2 := Lib.hid BR
          rw [e]
          have HE := Lib.hid e
          clear M G BR e
          have hr50 := FEW.out.2.1
          go_wp2_with fail
          have M0 := MM.out.below (below_drew (Below.refl _ _))
          refine wp_region_held_drew (S := Six w.heap.size wr.heap.size (.slice c.la c.ls.length c.lc) (.slice c.ca c.cs.length c.cc) (.string r.listen) (.string r.host) (.string r.path) (.string r.cluster)) (by kernel_rfl) M0.six (fun _ => ?_)
          refine wpAnyH_take (i := 0) (oi := { dst := some 34, op := _, type := _, pos := _, after := _, guard := _ }) (v := .pointer (some ⟨XB, 1, none⟩)) rfl (by kernel_rfl) (by kernel_rfl) (by kernel_rfl) (fun _ _ _ h => h) (Or.inl ⟨by rfl, fun wk hk => by obtain ⟨q1, q2, q3, q4, q5, q6⟩ := hk; go_simp⟩) (M0.six) ?_
          simp only [Act.put, List.setIfInBounds_toArray, List.set_cons_zero, List.set_cons_succ]
          refine wpAnyH_take (i := 2) (oi := { dst := some 36, op := _, type := _, pos := _, after := _, guard := _ }) (v := .pointer (some ⟨w.heap.size, 0, none⟩)) rfl (by kernel_rfl) (by kernel_rfl) (by kernel_rfl) (fun _ _ _ h => h) (Or.inl ⟨by rfl, fun wk hk => by obtain ⟨q1, q2, q3, q4, q5, q6⟩ := hk; go_simp⟩) (M0.six) ?_
          simp only [Act.put, List.setIfInBounds_toArray, List.set_cons_zero, List.set_cons_succ]
          refine wpAnyH_take (i := 3) (oi := { dst := some 37, op := _, type := _, pos := _, after := _, guard := _ }) (v := .slice c.la c.ls.length c.lc) rfl (by kernel_rfl) (by kernel_rfl) (by kernel_rfl) (fun _ _ _ h => h) (Or.inl ⟨by rfl, fun wk hk => by obtain ⟨q1, q2, q3, q4, q5, q6⟩ := hk; go_simp⟩) (M0.six) ?_
          simp only [Act.put, List.setIfInBounds_toArray, List.set_cons_zero, List.set_cons_succ]
          refine wpAnyH_take (i := 4) (oi := { dst := some 38, op := _, type := _, pos := _, after := _, guard := _ }) (v := .pointer (some ⟨wr.heap.size, 0, none⟩)) rfl (by kernel_rfl) (by kernel_rfl) (by kernel_rfl) (fun _ _ _ h => h) (Or.inl ⟨by rfl, fun wk hk => by obtain ⟨q1, q2, q3, q4, q5, q6⟩ := hk; go_simp⟩) (M0.six) ?_
          simp only [Act.put, List.setIfInBounds_toArray, List.set_cons_zero, List.set_cons_succ]
          refine wpAnyH_take (i := 5) (oi := { dst := some 39, op := _, type := _, pos := _, after := _, guard := _ }) (v := .string r.listen) rfl (by kernel_rfl) (by kernel_rfl) (by kernel_rfl) (fun _ _ _ h => h) (Or.inl ⟨by rfl, fun wk hk => by obtain ⟨q1, q2, q3, q4, q5, q6⟩ := hk; go_simp⟩) (M0.six) ?_
          simp only [Act.put, List.setIfInBounds_toArray, List.set_cons_zero, List.set_cons_succ]
          refine wpAnyH_take (i := 7) (oi := { dst := some 41, op := _, type := _, pos := _, after := _, guard := _ }) (v := .pointer (some ⟨wr.heap.size, 1, none⟩)) rfl (by kernel_rfl) (by kernel_rfl) (by kernel_rfl) (fun _ _ _ h => h) (Or.inl ⟨by rfl, fun wk hk => by obtain ⟨q1, q2, q3, q4, q5, q6⟩ := hk; go_simp⟩) (M0.six) ?_
          simp only [Act.put, List.setIfInBounds_toArray, List.set_cons_zero, List.set_cons_succ]
          refine wpAnyH_take (i := 8) (oi := { dst := some 42, op := _, type := _, pos := _, after := _, guard := _ }) (v := .string r.host) rfl (by kernel_rfl) (by kernel_rfl) (by kernel_rfl) (fun _ _ _ h => h) (Or.inl ⟨by rfl, fun wk hk => by obtain ⟨q1, q2, q3, q4, q5, q6⟩ := hk; go_simp⟩) (M0.six) ?_
          simp only [Act.put, List.setIfInBounds_toArray, List.set_cons_zero, List.set_cons_succ]
          refine wpAnyH_take (i := 9) (oi := { dst := some 43, op := _, type := _, pos := _, after := _, guard := _ }) (v := .pointer (some ⟨wr.heap.size, 2, none⟩)) rfl (by kernel_rfl) (by kernel_rfl) (by kernel_rfl) (fun _ _ _ h => h) (Or.inl ⟨by rfl, fun wk hk => by obtain ⟨q1, q2, q3, q4, q5, q6⟩ := hk; go_simp⟩) (M0.six) ?_
          simp only [Act.put, List.setIfInBounds_toArray, List.set_cons_zero, List.set_cons_succ]
          refine wpAnyH_take (i := 10) (oi := { dst := some 44, op := _, type := _, pos := _, after := _, guard := _ }) (v := .string r.path) rfl (by kernel_rfl) (by kernel_rfl) (by kernel_rfl) (fun _ _ _ h => h) (Or.inl ⟨by rfl, fun wk hk => by obtain ⟨q1, q2, q3, q4, q5, q6⟩ := hk; go_simp⟩) (M0.six) ?_
          simp only [Act.put, List.setIfInBounds_toArray, List.set_cons_zero, List.set_cons_succ]
          refine wpAnyH_take (i := 11) (oi := { dst := some 45, op := _, type := _, pos := _, after := _, guard := _ }) (v := .pointer (some ⟨w.heap.size, 2, none⟩)) rfl (by kernel_rfl) (by kernel_rfl) (by kernel_rfl) (fun _ _ _ h => h) (Or.inl ⟨by rfl, fun wk hk => by obtain ⟨q1, q2, q3, q4, q5, q6⟩ := hk; go_simp⟩) (M0.six) ?_
          simp only [Act.put, List.setIfInBounds_toArray, List.set_cons_zero, List.set_cons_succ]
          refine wpAnyH_take (i := 12) (oi := { dst := some 46, op := _, type := _, pos := _, after := _, guard := _ }) (v := .slice c.ca c.cs.length c.cc) rfl (by kernel_rfl) (by kernel_rfl) (by kernel_rfl) (fun _ _ _ h => h) (Or.inl ⟨by rfl, fun wk hk => by obtain ⟨q1, q2, q3, q4, q5, q6⟩ := hk; go_simp⟩) (M0.six) ?_
          simp only [Act.put, List.setIfInBounds_toArray, List.set_cons_zero, List.set_cons_succ]
          refine wpAnyH_take (i := 13) (oi := { dst := some 47, op := _, type := _, pos := _, after := _, guard := _ }) (v := .pointer (some ⟨wr.heap.size, 3, none⟩)) rfl (by kernel_rfl) (by kernel_rfl) (by kernel_rfl) (fun _ _ _ h => h) (Or.inl ⟨by rfl, fun wk hk => by obtain ⟨q1, q2, q3, q4, q5, q6⟩ := hk; go_simp⟩) (M0.six) ?_
          simp only [Act.put, List.setIfInBounds_toArray, List.set_cons_zero, List.set_cons_succ]
          refine wpAnyH_take (i := 14) (oi := { dst := some 48, op := _, type := _, pos := _, after := _, guard := _ }) (v := .string r.cluster) rfl (by kernel_rfl) (by kernel_rfl) (by kernel_rfl) (fun _ _ _ h => h) (Or.inl ⟨by rfl, fun wk hk => by obtain ⟨q1, q2, q3, q4, q5, q6⟩ := hk; go_simp⟩) (M0.six) ?_
          simp only [Act.put, List.setIfInBounds_toArray, List.set_cons_zero, List.set_cons_succ]
          refine wpAnyH_ready (rs := [1, 6]) (by kernel_rfl) (by simp) ?_
          refine (AllReadyH.cons rfl (fun K hK => ?_) (AllReadyH.cons rfl (fun K hK => ?_) AllReadyH.nil))
          · have r1 := (M0).row
            go_simp
            refine hK.out _ _ (M0).six (fun _ => ?_)
            clear hK K
            try simp only [Act.put, List.setIfInBounds_toArray, List.set_cons_zero, List.set_cons_succ]
            clear r1
            refine wpAnyH_ready (rs := [6]) (by kernel_rfl) (by simp) ?_
            refine (AllReadyH.cons rfl (fun K hK => ?_) AllReadyH.nil)
            go_simp
            have bM := below_next HBW.out M0.k.B
            have hq := listenNumber_is c.la c.lc c.ls r.listen _ ((HIN.out.pl.below bM).more bM.size) (Nat.le_trans HIN.out.ll HIN.out.lm)
            refine hq.mono ?_
            rintro e wx1 ⟨rfl, kx⟩
            have M1 := M0.below kx
            clear hq kx bM
            refine hK.out _ _ M1.six (fun _ => ?_)
            clear hK K
            try simp only [Act.put, List.setIfInBounds_toArray, List.set_cons_zero, List.set_cons_succ]
            refine wpAnyH_ready (rs := [15]) (by kernel_rfl) (by simp) ?_
            refine (AllReadyH.cons rfl (fun K hK => ?_) AllReadyH.nil)
            go_simp
            have bM := below_next HBW.out M1.k.B
            have hq := clusterNumber_is c.ca c.cc c.cs r.cluster _ ((HIN.out.pc.below bM).more bM.size) (Nat.le_trans HIN.out.cl HIN.out.cm)
            refine hq.mono ?_
            rintro e wx ⟨rfl, kx⟩
            have M2 := M1.below kx
            clear hq kx bM
            refine hK.out _ _ M2.six (fun _ => ?_)
            clear hK K
            try simp only [Act.put, List.setIfInBounds_toArray, List.set_cons_zero, List.set_cons_succ]
            refine wpAnyH_take (i := 16) (oi := { dst := some 50, op := _, type := _, pos := _, after := _, guard := _ }) (v := .agg #[.int .i64 (numL c.ls r.listen), .string r.host, .string r.path, .int .i64 (numC c.cs r.cluster)]) rfl (by kernel_rfl) (by kernel_rfl) (by kernel_rfl) (fun _ _ _ h => h) (Or.inl ⟨by rfl, fun wk hk => by obtain ⟨q1, q2, q3, q4, q5, q6⟩ := hk; go_simp⟩) M2.six ?_
            simp only [Act.put, List.setIfInBounds_toArray, List.set_cons_zero, List.set_cons_succ]
            refine wpAnyH_ready (rs := [17]) (by kernel_rfl) (by simp) ?_
            refine (AllReadyH.cons rfl (fun K hK => ?_) AllReadyH.nil)
            go_simp
            refine hK.out _ _ (M2.alloc _).six (fun _ => ?_)
            clear hK K
            try simp only [Act.put, List.setIfInBounds_toArray, List.set_cons_zero, List.set_cons_succ]
            refine wpAnyH_ready (rs := [18]) (by kernel_rfl) (by simp) ?_
            refine (AllReadyH.cons rfl (fun K hK => ?_) AllReadyH.nil)
            refine step_append_one4 rfl (.tmp 35) (.tmp 51) 28 rfl ir (.agg #[.int .i64 0, .string ⟨#[]⟩, .string ⟨#[]⟩, .int .i64 0]) 48 Try.underlying28 IR.out rfl (by simp [Act.eval, Act.put]) _ _ _ _ _ (by simp [Value.oneCell']) M2.own (by simp [Act.eval, Act.put]) (by rw [List.length_map, HLEN.out]; simp [maxLen]; omega) (by rw [List.length_map, HLEN.out]; omega) (by exact M2.k.S) ?_
            intro v' w6 ho hg
            obtain ⟨A5, n5, c5, rfl⟩ := own_form ho.2
            have LT := M2.late HWB.out (by decide) (by decide) hg ho
            refine hK.out _ _ LT.six (fun _ => ?_)
            clear hK K
            try simp only [Act.put, List.setIfInBounds_toArray, List.set_cons_zero, List.set_cons_succ]
            refine wpAnyH_take (i := 19) (oi := { dst := some 53, op := _, type := _, pos := _, after := _, guard := _ }) (v := .pointer (some ⟨XB, 1, none⟩)) rfl (by kernel_rfl) (by kernel_rfl) (by kernel_rfl) (fun _ _ _ h => h) (Or.inl ⟨by rfl, fun wk hk => by obtain ⟨q1, q2, q3, q4, q5, q6⟩ := hk; go_simp⟩) LT.six ?_
            simp only [Act.put, List.setIfInBounds_toArray, List.set_cons_zero, List.set_cons_succ]
            refine wpAnyH_ready (rs := [20]) (by kernel_rfl) (by simp) ?_
            refine (AllReadyH.cons rfl (fun K hK => ?_) AllReadyH.nil)
            have r1 := LT.row
            have z1 := LT.free
            have TN := LT.put (by decide)
            go_simp
            refine hK.out _ _ TN.six (fun _ => ?_)
            clear hK K
            try simp only [Act.put, List.setIfInBounds_toArray, List.set_cons_zero, List.set_cons_succ]
            refine wpAnyH_done (by kernel_rfl) ?_ _
            clear r1 z1
            have TU := Lib.hid (show Turn 54 30 WB W1 _ XB (.slice la c.ls.length lc) (.slice ca ds.length cc) _ ((rulesI c.ls (c.rs.take (k + 1)) c.cs).map Rl.cells) from by rw [HNX.out, List.map_append]; exact TN.turn)
            clear ho hg LT TN
            go_wp2_with fail
            rw [← HE.out]
            go_roundg (c.rs.length - (k + 1))
            case measure => omega
            case rel => exact ⟨k + 1, by omega, rfl, by go_num, _, TU.out⟩
          · go_simp
            have bM := below_next HBW.out M0.k.B
            have hq := listenNumber_is c.la c.lc c.ls r.listen _ ((HIN.out.pl.below bM).more bM.size) (Nat.le_trans HIN.out.ll HIN.out.lm)
            refine hq.mono ?_
            rintro e wx1 ⟨rfl, kx⟩
            have M1 := M0.below kx
            clear hq kx bM
            refine hK.out _ _ M1.six (fun _ => ?_)
            clear hK K
            try simp only [Act.put, List.setIfInBounds_toArray, List.set_cons_zero, List.set_cons_succ]
            refine wpAnyH_ready (rs := [1, 15]) (by kernel_rfl) (by simp) ?_
            refine (AllReadyH.cons rfl (fun K hK => ?_) (AllReadyH.cons rfl (fun K hK => ?_) AllReadyH.nil))
            · have r1 := (M1).row
              go_simp
              refine hK.out _ _ (M1).six (fun _ => ?_)
              clear hK K
              try simp only [Act.put, List.setIfInBounds_toArray, List.set_cons_zero, List.set_cons_succ]
              clear r1
              refine wpAnyH_ready (rs := [15]) (by kernel_rfl) (by simp) ?_
              refine (AllReadyH.cons rfl (fun K hK => ?_) AllReadyH.nil)
              go_simp
              have bM := below_next HBW.out M1.k.B
              have hq := clusterNumber_is c.ca c.cc c.cs r.cluster _ ((HIN.out.pc.below bM).more bM.size) (Nat.le_trans HIN.out.cl HIN.out.cm)
              refine hq.mono ?_
              rintro e wx ⟨rfl, kx⟩
              have M2 := M1.below kx
              clear hq kx bM
              refine hK.out _ _ M2.six (fun _ => ?_)
              clear hK K
              try simp only [Act.put, List.setIfInBounds_toArray, List.set_cons_zero, List.set_cons_succ]
              refine wpAnyH_take (i := 16) (oi := { dst := some 50, op := _, type := _, pos := _, after := _, guard := _ }) (v := .agg #[.int .i64 (numL c.ls r.listen), .string r.host, .string r.path, .int .i64 (numC c.cs r.cluster)]) rfl (by kernel_rfl) (by kernel_rfl) (by kernel_rfl) (fun _ _ _ h => h) (Or.inl ⟨by rfl, fun wk hk => by obtain ⟨q1, q2, q3, q4, q5, q6⟩ := hk; go_simp⟩) M2.six ?_
              simp only [Act.put, List.setIfInBounds_toArray, List.set_cons_zero, List.set_cons_succ]
              refine wpAnyH_ready (rs := [17]) (by kernel_rfl) (by simp) ?_
              refine (AllReadyH.cons rfl (fun K hK => ?_) AllReadyH.nil)
              go_simp
              refine hK.out _ _ (M2.alloc _).six (fun _ => ?_)
              clear hK K
              try simp only [Act.put, List.setIfInBounds_toArray, List.set_cons_zero, List.set_cons_succ]
              refine wpAnyH_ready (rs := [18]) (by kernel_rfl) (by simp) ?_
              refine (AllReadyH.cons rfl (fun K hK => ?_) AllReadyH.nil)
              refine step_append_one4 rfl (.tmp 35) (.tmp 51) 28 rfl ir (.agg #[.int .i64 0, .string ⟨#[]⟩, .string ⟨#[]⟩, .int .i64 0]) 48 Try.underlying28 IR.out rfl (by simp [Act.eval, Act.put]) _ _ _ _ _ (by simp [Value.oneCell']) M2.own (by simp [Act.eval, Act.put]) (by rw [List.length_map, HLEN.out]; simp [maxLen]; omega) (by rw [List.length_map, HLEN.out]; omega) (by exact M2.k.S) ?_
              intro v' w6 ho hg
              obtain ⟨A5, n5, c5, rfl⟩ := own_form ho.2
              have LT := M2.late HWB.out (by decide) (by decide) hg ho
              refine hK.out _ _ LT.six (fun _ => ?_)
              clear hK K
              try simp only [Act.put, List.setIfInBounds_toArray, List.set_cons_zero, List.set_cons_succ]
              refine wpAnyH_take (i := 19) (oi := { dst := some 53, op := _, type := _, pos := _, after := _, guard := _ }) (v := .pointer (some ⟨XB, 1, none⟩)) rfl (by kernel_rfl) (by kernel_rfl) (by kernel_rfl) (fun _ _ _ h => h) (Or.inl ⟨by rfl, fun wk hk => by obtain ⟨q1, q2, q3, q4, q5, q6⟩ := hk; go_simp⟩) LT.six ?_
              simp only [Act.put, List.setIfInBounds_toArray, List.set_cons_zero, List.set_cons_succ]
              refine wpAnyH_ready (rs := [20]) (by kernel_rfl) (by simp) ?_
              refine (AllReadyH.cons rfl (fun K hK => ?_) AllReadyH.nil)
              have r1 := LT.row
              have z1 := LT.free
              have TN := LT.put (by decide)
              go_simp
              refine hK.out _ _ TN.six (fun _ => ?_)
              clear hK K
              try simp only [Act.put, List.setIfInBounds_toArray, List.set_cons_zero, List.set_cons_succ]
              refine wpAnyH_done (by kernel_rfl) ?_ _
              clear r1 z1
              have TU := Lib.hid (show Turn 54 30 WB W1 _ XB (.slice la c.ls.length lc) (.slice ca ds.length cc) _ ((rulesI c.ls (c.rs.take (k + 1)) c.cs).map Rl.cells) from by rw [HNX.out, List.map_append]; exact TN.turn)
              clear ho hg LT TN
              go_wp2_with fail
              rw [← HE.out]
              go_roundg (c.rs.length - (k + 1))
              case measure => omega
              case rel => exact ⟨k + 1, by omega, rfl, by go_num, _, TU.out⟩
            · go_simp
              have bM := below_next HBW.out M1.k.B
              have hq := clusterNumber_is c.ca c.cc c.cs r.cluster _ ((HIN.out.pc.below bM).more bM.size) (Nat.le_trans HIN.out.cl HIN.out.cm)
              refine hq.mono ?_
              rintro e wx ⟨rfl, kx⟩
              have M2 := M1.below kx
              clear hq kx bM
              refine hK.out _ _ M2.six (fun _ => ?_)
              clear hK K
              try simp only [Act.put, List.setIfInBounds_toArray, List.set_cons_zero, List.set_cons_succ]
              refine wpAnyH_take (i := 16) (oi := { dst := some 50, op := _, type := _, pos := _, after := _, guard := _ }) (v := .agg #[.int .i64 (numL c.ls r.listen), .string r.host, .string r.path, .int .i64 (numC c.cs r.cluster)]) rfl (by kernel_rfl) (by kernel_rfl) (by kernel_rfl) (fun _ _ _ h => h) (Or.inl ⟨by rfl, fun wk hk => by obtain ⟨q1, q2, q3, q4, q5, q6⟩ := hk; go_simp⟩) M2.six ?_
              simp only [Act.put, List.setIfInBounds_toArray, List.set_cons_zero, List.set_cons_succ]
              refine wpAnyH_ready (rs := [1, 17]) (by kernel_rfl) (by simp) ?_
              refine (AllReadyH.cons rfl (fun K hK => ?_) (AllReadyH.cons rfl (fun K hK => ?_) AllReadyH.nil))
              · have r1 := (M2).row
                go_simp
                refine hK.out _ _ (M2).six (fun _ => ?_)
                clear hK K
                try simp only [Act.put, List.setIfInBounds_toArray, List.set_cons_zero, List.set_cons_succ]
                clear r1
                refine wpAnyH_ready (rs := [17]) (by kernel_rfl) (by simp) ?_
                refine (AllReadyH.cons rfl (fun K hK => ?_) AllReadyH.nil)
                go_simp
                refine hK.out _ _ (M2.alloc _).six (fun _ => ?_)
                clear hK K
                try simp only [Act.put, List.setIfInBounds_toArray, List.set_cons_zero, List.set_cons_succ]
                refine wpAnyH_ready (rs := [18]) (by kernel_rfl) (by simp) ?_
                refine (AllReadyH.cons rfl (fun K hK => ?_) AllReadyH.nil)
                refine step_append_one4 rfl (.tmp 35) (.tmp 51) 28 rfl ir (.agg #[.int .i64 0, .string ⟨#[]⟩, .string ⟨#[]⟩, .int .i64 0]) 48 Try.underlying28 IR.out rfl (by simp [Act.eval, Act.put]) _ _ _ _ _ (by simp [Value.oneCell']) M2.own (by simp [Act.eval, Act.put]) (by rw [List.length_map, HLEN.out]; simp [maxLen]; omega) (by rw [List.length_map, HLEN.out]; omega) (by exact M2.k.S) ?_
                intro v' w6 ho hg
                obtain ⟨A5, n5, c5, rfl⟩ := own_form ho.2
                have LT := M2.late HWB.out (by decide) (by decide) hg ho
                refine hK.out _ _ LT.six (fun _ => ?_)
                clear hK K
                try simp only [Act.put, List.setIfInBounds_toArray, List.set_cons_zero, List.set_cons_succ]
                refine wpAnyH_take (i := 19) (oi := { dst := some 53, op := _, type := _, pos := _, after := _, guard := _ }) (v := .pointer (some ⟨XB, 1, none⟩)) rfl (by kernel_rfl) (by kernel_rfl) (by kernel_rfl) (fun _ _ _ h => h) (Or.inl ⟨by rfl, fun wk hk => by obtain ⟨q1, q2, q3, q4, q5, q6⟩ := hk; go_simp⟩) LT.six ?_
                simp only [Act.put, List.setIfInBounds_toArray, List.set_cons_zero, List.set_cons_succ]
                refine wpAnyH_ready (rs := [20]) (by kernel_rfl) (by simp) ?_
                refine (AllReadyH.cons rfl (fun K hK => ?_) AllReadyH.nil)
                have r1 := LT.row
                have z1 := LT.free
                have TN := LT.put (by decide)
                go_simp
                refine hK.out _ _ TN.six (fun _ => ?_)
                clear hK K
                try simp only [Act.put, List.setIfInBounds_toArray, List.set_cons_zero, List.set_cons_succ]
                refine wpAnyH_done (by kernel_rfl) ?_ _
                clear r1 z1
                have TU := Lib.hid (show Turn 54 30 WB W1 _ XB (.slice la c.ls.length lc) (.slice ca ds.length cc) _ ((rulesI c.ls (c.rs.take (k + 1)) c.cs).map Rl.cells) from by rw [HNX.out, List.map_append]; exact TN.turn)
                clear ho hg LT TN
                go_wp2_with fail
                rw [← HE.out]
                go_roundg (c.rs.length - (k + 1))
                case measure => omega
                case rel => exact ⟨k + 1, by omega, rfl, by go_num, _, TU.out⟩
              · go_simp
                refine hK.out _ _ (M2.alloc _).six (fun _ => ?_)
                clear hK K
                try simp only [Act.put, List.setIfInBounds_toArray, List.set_cons_zero, List.set_cons_succ]
                refine wpAnyH_ready (rs := [1]) (by kernel_rfl) (by simp) ?_
                refine (AllReadyH.cons rfl (fun K hK => ?_) AllReadyH.nil)
                have r1 := fun o => (M2.alloc o).row
                go_simp
                refine hK.out _ _ (M2.alloc _).six (fun _ => ?_)
                clear hK K
                try simp only [Act.put, List.setIfInBounds_toArray, List.set_cons_zero, List.set_cons_succ]
                clear r1
                refine wpAnyH_ready (rs := [18]) (by kernel_rfl) (by simp) ?_
                refine (AllReadyH.cons rfl (fun K hK => ?_) AllReadyH.nil)
                refine step_append_one4 rfl (.tmp 35) (.tmp 51) 28 rfl ir (.agg #[.int .i64 0, .string ⟨#[]⟩, .string ⟨#[]⟩, .int .i64 0]) 48 Try.underlying28 IR.out rfl (by simp [Act.eval, Act.put]) _ _ _ _ _ (by simp [Value.oneCell']) M2.own (by simp [Act.eval, Act.put]) (by rw [List.length_map, HLEN.out]; simp [maxLen]; omega) (by rw [List.length_map, HLEN.out]; omega) (by exact M2.k.S) ?_
                intro v' w6 ho hg
                obtain ⟨A5, n5, c5, rfl⟩ := own_form ho.2
                have LT := M2.late HWB.out (by decide) (by decide) hg ho
                refine hK.out _ _ LT.six (fun _ => ?_)
                clear hK K
                try simp only [Act.put, List.setIfInBounds_toArray, List.set_cons_zero, List.set_cons_succ]
                refine wpAnyH_take (i := 19) (oi := { dst := some 53, op := _, type := _, pos := _, after := _, guard := _ }) (v := .pointer (some ⟨XB, 1, none⟩)) rfl (by kernel_rfl) (by kernel_rfl) (by kernel_rfl) (fun _ _ _ h => h) (Or.inl ⟨by rfl, fun wk hk => by obtain ⟨q1, q2, q3, q4, q5, q6⟩ := hk; go_simp⟩) LT.six ?_
                simp only [Act.put, List.setIfInBounds_toArray, List.set_cons_zero, List.set_cons_succ]
                refine wpAnyH_ready (rs := [20]) (by kernel_rfl) (by simp) ?_
                refine (AllReadyH.cons rfl (fun K hK => ?_) AllReadyH.nil)
                have r1 := LT.row
                have z1 := LT.free
                have TN := LT.put (by decide)
                go_simp
                refine hK.out _ _ TN.six (fun _ => ?_)
                clear hK K
                try simp only [Act.put, List.setIfInBounds_toArray, List.set_cons_zero, List.set_cons_succ]
                refine wpAnyH_done (by kernel_rfl) ?_ _
                clear r1 z1
                have TU := Lib.hid (show Turn 54 30 WB W1 _ XB (.slice la c.ls.length lc) (.slice ca ds.length cc) _ ((rulesI c.ls (c.rs.take (k + 1)) c.cs).map Rl.cells) from by rw [HNX.out, List.map_append]; exact TN.turn)
                clear ho hg LT TN
                go_wp2_with fail
                rw [← HE.out]
                go_roundg (c.rs.length - (k + 1))
                case measure => omega
                case rel => exact ⟨k + 1, by omega, rfl, by go_num, _, TU.out⟩
        · obtain rfl : k = c.rs.length := by omega
          rw [List.take_length] at G
          obtain ⟨A, kc, hv, hA1, hA2⟩ := G.own.slice
          subst hv
          rw [List.length_map] at G hA1
          have GR := (G.k.B.block (w.heap.size + 1) (by have := HZB.out; omega)).trans HR.out
          have g0 := block_cell G.box 0
          have g1 := block_cell G.box 1
          have g2 := block_cell G.box 2
          have r0 := block_free GR 0
          have r1 := block_free GR 1
          have r2 := block_free GR 2
          have c0 := block_cell GR 0
          have c1 := block_cell GR 1
          have c2 := block_cell GR 2
          have fL := far_own TT.out.own
          have fC := far_own TT.out.own4.2
          have fR : Anew WB.heap.size A := fun ad e => Nat.le_trans HWB.out (far_own G.own.2 ad e)
          have hz : w.heap.size + 1 < WB.heap.size := by have := HZB.out; omega
          have I0 : SnIn wr wr.heap.size ⟨la, lc, c.ls, A, kc, rulesI c.ls c.rs c.cs, ca, cc, ds⟩ :=
            ⟨TT.out.texts G.k (by decide), G.own.rows, TT.out.clusters G.k (by decide), TT.out.own.le.1, hA1, TT.out.own4.le.1, TT.out.own.le.2, hA2, TT.out.own4.le.2, TT.out.alike.wf HIN.out.wf⟩
          have J0 := TT.out.healths G.k
          have FAR := Lib.hid (And.intro (fun ad e => Nat.le_trans HBW.out.size (fL ad e) : Anew w.heap.size la) (And.intro (fun ad e => Nat.le_trans HBW.out.size (fR ad e) : Anew w.heap.size A) (And.intro (fun ad e => Nat.le_trans HBW.out.size (fC ad e) : Anew w.heap.size ca) (fun x hx ad e => Nat.le_trans HBW.out.size (TT.out.far x hx ad e) : ∀ x ∈ ds, Anew w.heap.size x.ha))))
          have ap : ∀ {a : Option Addr}, Anew WB.heap.size a → ∀ ad, a = some ad → ad.block ≠ w.heap.size + 1 := fun h ad e => by have := h ad e; omega
          have I1 := Lib.hid (((I0.apart (o := 0) (u := .slice la c.ls.length lc) (ap fL) (ap fR) (ap fC)).apart (o := 1) (u := .slice A (rulesI c.ls c.rs c.cs).length kc) (ap fL) (ap fR) (ap fC)).apart (o := 2) (u := .slice ca ds.length cc) (ap fL) (ap fR) (ap fC))
          have J1 := Lib.hid (((J0.apart (o := 0) (u := .slice la c.ls.length lc) fun x hx => ap (TT.out.far x hx)).apart (o := 1) (u := .slice A (rulesI c.ls c.rs c.cs).length kc) fun x hx => ap (TT.out.far x hx)).apart (o := 2) (u := .slice ca ds.length cc) fun x hx => ap (TT.out.far x hx))
          have B1 := Lib.hid (below_next HBW.out G.k.B)
          have AL := Lib.hid TT.out.alike
          have HGR := Lib.hid GR
          clear I0 J0 ap G GR fL fC fR hz hA1 hA2
          go_wp2_with fail
          have hV := three_set HGR.out (.slice la c.ls.length lc) (.slice A (rulesI c.ls c.rs c.cs).length kc) (.slice ca ds.length cc)
          have BV := Lib.hid (((B1.out.setCell (p := ⟨w.heap.size + 1, 0, none⟩) (by simp) (.slice la c.ls.length lc)).setCell (p := ⟨w.heap.size + 1, 1, none⟩) (by simp) (.slice A (rulesI c.ls c.rs c.cs).length kc)).setCell (p := ⟨w.heap.size + 1, 2, none⟩) (by simp) (.slice ca ds.length cc))
          have hs3 : (((wr.setCell ⟨w.heap.size + 1, 0, none⟩ (.slice la c.ls.length lc)).setCell ⟨w.heap.size + 1, 1, none⟩ (.slice A (rulesI c.ls c.rs c.cs).length kc)).setCell ⟨w.heap.size + 1, 2, none⟩ (.slice ca ds.length cc)).heap.size = wr.heap.size := by rw [size_cell, size_cell, size_cell]
          have HS3 := Lib.hid hs3.symm
          clear hs3
          rw [HS3.out] at I1 J1
          clear HS3
          generalize ((wr.setCell ⟨w.heap.size + 1, 0, none⟩ (.slice la c.ls.length lc)).setCell ⟨w.heap.size + 1, 1, none⟩ (.slice A (rulesI c.ls c.rs c.cs).length kc)).setCell ⟨w.heap.size + 1, 2, none⟩ (.slice ca ds.length cc) = V at *
          have v0 := block_cell hV 0
          have v1 := block_cell hV 1
          have v2 := block_cell hV 2
          have N1 : SnNew w V ⟨la, lc, c.ls, A, kc, rulesI c.ls c.rs c.cs, ca, cc, ds⟩ hs := ⟨I1.out, J1.out, FAR.out.1, FAR.out.2.1, FAR.out.2.2.1, FAR.out.2.2.2⟩
          exact bodyPost_ret (v := .tuple #[Sn.val ⟨la, lc, c.ls, A, kc, rulesI c.ls c.rs c.cs, ca, cc, ds⟩, .int .i64 0, .int .i64 0]) (by simp [results, Try.f8, go_sem, v0, v1, v2, Sn.val]) rfl (.inl ⟨HP.out, ⟨la, lc, c.ls, A, kc, rulesI c.ls c.rs c.cs, ca, cc, ds⟩, rfl, N1, rfl, AL.out, rfl, BV.out⟩)
end Go.Proofs.Ytknjdaokidcllaa
