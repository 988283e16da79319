/- snap.Config. -/
import Derived.Test.YtknjdaokidcllaaSwords
import Derived.Test.YtknjdaokidcllaaSat
import Derived.Test.YtknjdaokidcllaaM4
import Derived.Deep.RegionHeld3
import Derived.Deep.CutRange
import Derived.Deep.LoopGhost
namespace Go.Proofs.Ytknjdaokidcllaa
open Go.RowKit
set_option linter.unusedVariables false
set_option linter.unusedSimpArgs false
set_option maxRecDepth 100000

theorem route7_info : (Try.prog.info? 48).map (fun i => (i.zero, i.size, i.bytes)) = some (some (.agg #[.string ⟨#[]⟩, .string ⟨#[]⟩, .string ⟨#[]⟩, .string ⟨#[]⟩]), 4, 64) := by kernel_rfl
set_option maxHeartbeats 8000000 in
theorem conf_is (s : Sn) (hs : List (List Bool)) (w : World) (h : SnIn w w.heap.size s) (hh : HealthIn w w.heap.size s.cs hs) (few : Few s) : Calls Try.prog 15 #[s.val] w (Confed s hs w) := by
  obtain ⟨ir, hir, hr0, hr1, hr2⟩ := info_parts route7_info
  have IR := Lib.hid (⟨hir, hr0, hr1, hr2⟩ : _ ∧ _ ∧ _ ∧ _)
  clear hir hr0 hr1 hr2
  obtain ⟨w2, hw2⟩ : ∃ w2, (w.alloc (.cells #[.slice s.la s.ls.length s.lc, .slice s.ra s.rs.length s.rc, .slice s.ca s.cs.length s.cc] 30)).alloc (.cells #[.slice none 0 0, .slice none 0 0, .slice none 0 0] 26) = w2 := ⟨_, rfl⟩
  have B0 : Below w.heap.size w w2 := by rw [← hw2]; exact below_alloc (boxed w _) (Nat.le_refl _)
  have hz2 : w2.heap.size = w.heap.size + 2 := by rw [← hw2]; simp
  have hC : w2.heap[w.heap.size]? = some (.cells #[.slice s.la s.ls.length s.lc, .slice s.ra s.rs.length s.rc, .slice s.ca s.cs.length s.cc] 30 (0, 0)) := by rw [← hw2]; exact kept_alloc (one_alloc _ _)
  have hR : w2.heap[w.heap.size + 1]? = some (.cells #[.slice none 0 0, .slice none 0 0, .slice none 0 0] 26 (0, 0)) := by
    rw [← hw2]
    have := one_alloc (w.alloc (.cells #[.slice s.la s.ls.length s.lc, .slice s.ra s.rs.length s.rc, .slice s.ca s.cs.length s.cc] 30)) (.cells #[.slice none 0 0, .slice none 0 0, .slice none 0 0] 26)
    rwa [World.size_alloc] at this
  have HIN := Lib.hid h
  have HH := Lib.hid hh
  have HC := Lib.hid hC
  have HR := Lib.hid hR
  have BB := Lib.hid B0
  have HZ := Lib.hid hz2
  have FEW := Lib.hid few
  obtain ⟨f0, f1, f2⟩ : w2.cell? ⟨w.heap.size, 0, none⟩ = some (.slice s.la s.ls.length s.lc) ∧ w2.cell? ⟨w.heap.size, 1, none⟩ = some (.slice s.ra s.rs.length s.rc) ∧ w2.cell? ⟨w.heap.size, 2, none⟩ = some (.slice s.ca s.cs.length s.cc) := ⟨by rw [block_cell hC]; rfl, by rw [block_cell hC]; rfl, by rw [block_cell hC]; rfl⟩
  have cL := Lib.hid fun W (hW0 : Below w2.heap.size w2 W) => by
    have hW := below_next B0 hW0
    have := cloneS_is s.la s.lc (s.ls.map Value.string) W ((h.pl.below hW).more hW.size) (by rw [List.length_map]; have := few.l; omega) (fun u hu => by obtain ⟨x, _, rfl⟩ := List.mem_map.1 hu; rfl)
    unfold Copies at this
    rw [List.length_map] at this
    exact this
  have cC := Lib.hid fun W (hW0 : Below w2.heap.size w2 W) => have hW := below_next B0 hW0; copied_is s.ca s.cc s.cs hs W ((h.pc.below hW).more hW.size) ((hh.below hW).more hW.size) (by have := few.c; omega) (fun x hx => by have := few.h x hx; omega)
  clear h hh few hC hR hz2 
  unfold Sn.val
  go_enter Try.func15, Try.ntmps15
  go_wp2_with fail
  clear hw2
  obtain ⟨WB, hWB⟩ : ∃ WB, w2 = WB := ⟨_, rfl⟩
  rw [hWB] at B0 HC HR BB HZ cL cC f1 ⊢
  clear hWB f0 f2
  have S2 := Lib.hid fun W' (hW : Below WB.heap.size WB W') => (⟨(hW.cell (p := ⟨w.heap.size, 0, none⟩) (by rw [HZ.out]; simp)).trans (by rw [block_cell HC.out]; rfl), (hW.cell (p := ⟨w.heap.size, 2, none⟩) (by rw [HZ.out]; simp)).trans (by rw [block_cell HC.out]; rfl)⟩ : W'.cell? ⟨w.heap.size, 0, none⟩ = some (.slice s.la s.ls.length s.lc) ∧ W'.cell? ⟨w.heap.size, 2, none⟩ = some (.slice s.ca s.cs.length s.cc))
  go_cut [3] from 6 to 13 (fun v3 wx => ∃ XB la lc ca cc ds, v3 = .pointer (some ⟨XB, 0, none⟩) ∧ Lists 26 WB wx XB la ca lc cc s.ls ds s.cs hs)
  case first =>
    have kD : Below WB.heap.size WB WB.drew := below_drew (Below.refl _ _)
    refine wp_region_held_drew (S := fun wk => wk.cell? ⟨w.heap.size, 0, none⟩ = some (.slice s.la s.ls.length s.lc) ∧ wk.cell? ⟨w.heap.size, 2, none⟩ = some (.slice s.ca s.cs.length s.cc)) (by kernel_rfl) (S2.out _ kD) (fun _ => ?_)
    refine wpAnyH_take (i := 0) (oi := { dst := some 6, op := _, type := _, pos := _, after := _, guard := _ }) (v := .pointer (some ⟨w.heap.size, 0, none⟩)) rfl (by kernel_rfl) (by kernel_rfl) (by kernel_rfl) (fun _ _ _ h => h) (Or.inl ⟨by rfl, fun wk hk => by obtain ⟨q1, q2⟩ := hk; go_simp⟩) (S2.out _ kD) ?_
    simp only [Act.put, List.setIfInBounds_toArray, List.set_cons_zero, List.set_cons_succ]
    refine wpAnyH_take (i := 1) (oi := { dst := some 7, op := _, type := _, pos := _, after := _, guard := _ }) (v := .slice s.la s.ls.length s.lc) rfl (by kernel_rfl) (by kernel_rfl) (by kernel_rfl) (fun _ _ _ h => h) (Or.inl ⟨by rfl, fun wk hk => by obtain ⟨q1, q2⟩ := hk; go_simp⟩) (S2.out _ kD) ?_
    simp only [Act.put, List.setIfInBounds_toArray, List.set_cons_zero, List.set_cons_succ]
    refine wpAnyH_take (i := 3) (oi := { dst := some 9, op := _, type := _, pos := _, after := _, guard := _ }) (v := .pointer (some ⟨w.heap.size, 2, none⟩)) rfl (by kernel_rfl) (by kernel_rfl) (by kernel_rfl) (fun _ _ _ h => h) (Or.inl ⟨by rfl, fun wk hk => by obtain ⟨q1, q2⟩ := hk; go_simp⟩) (S2.out _ kD) ?_
    simp only [Act.put, List.setIfInBounds_toArray, List.set_cons_zero, List.set_cons_succ]
    refine wpAnyH_take (i := 4) (oi := { dst := some 10, op := _, type := _, pos := _, after := _, guard := _ }) (v := .slice s.ca s.cs.length s.cc) rfl (by kernel_rfl) (by kernel_rfl) (by kernel_rfl) (fun _ _ _ h => h) (Or.inl ⟨by rfl, fun wk hk => by obtain ⟨q1, q2⟩ := hk; go_simp⟩) (S2.out _ kD) ?_
    simp only [Act.put, List.setIfInBounds_toArray, List.set_cons_zero, List.set_cons_succ]
    refine wpAnyH_ready (rs := [2, 7]) (by kernel_rfl) (by simp) ?_
    refine (AllReadyH.cons rfl (fun K hK => ?_) (AllReadyH.cons rfl (fun K hK => ?_) AllReadyH.nil))
    · go_simp
      refine (cL.out _ kD).mono ?_
      rintro e w3 ⟨la, lc, rfl, oL, k3⟩
      have B3 := kD.trans (k3.mono kD.size)
      refine hK.out _ _ (S2.out _ B3) (fun _ => ?_)
      clear hK K
      try simp only [Act.put, List.setIfInBounds_toArray, List.set_cons_zero, List.set_cons_succ]
      refine wpAnyH_ready (rs := [5, 7]) (by kernel_rfl) (by simp) ?_
      refine (AllReadyH.cons rfl (fun K hK => ?_) (AllReadyH.cons rfl (fun K hK => ?_) AllReadyH.nil))
      · go_simp
        refine (cC.out _ B3).mono ?_
        rintro e w4 ⟨ca, cc, ds, rfl, oC, hH, hA, hF, k4⟩
        have B4 := B3.trans (k4.mono B3.size)
        refine hK.out _ _ (S2.out _ B4) (fun _ => ?_)
        clear hK K
        try simp only [Act.put, List.setIfInBounds_toArray, List.set_cons_zero, List.set_cons_succ]
        refine wpAnyH_take (i := 6) (oi := { dst := some 12, op := _, type := _, pos := _, after := _, guard := _ }) (v := .agg #[.slice la s.ls.length lc, .slice none 0 0, .slice ca ds.length cc]) rfl (by kernel_rfl) (by kernel_rfl) (by kernel_rfl) (fun _ _ _ h => h) (Or.inl ⟨by rfl, fun wk hk => by obtain ⟨q1, q2⟩ := hk; go_simp⟩) (S2.out _ B4) ?_
        simp only [Act.put, List.setIfInBounds_toArray, List.set_cons_zero, List.set_cons_succ]
        refine wpAnyH_ready (rs := [7]) (by kernel_rfl) (by simp) ?_
        refine (AllReadyH.cons rfl (fun K hK => ?_) AllReadyH.nil)
        go_simp
        have kA := below_alloc (o := (.cells #[.slice none 0 0, .slice none 0 0, .slice none 0 0] 26)) B4 (Nat.le_refl _)
        refine hK.out _ _ (S2.out _ kA) (fun _ => ?_)
        clear hK K
        try simp only [Act.put, List.setIfInBounds_toArray, List.set_cons_zero, List.set_cons_succ]
        refine wpAnyH_ready (rs := [8]) (by kernel_rfl) (by simp) ?_
        refine (AllReadyH.cons rfl (fun K hK => ?_) AllReadyH.nil)
        have bx := one_alloc w4 (.cells #[.slice none 0 0, .slice none 0 0, .slice none 0 0] 26)
        have c0 := block_cell bx 0
        have c1 := block_cell bx 1
        have c2 := block_cell bx 2
        have z0 := block_free bx 0
        have z1 := block_free bx 1
        have z2 := block_free bx 2
        have T := two_new (TX := 26) B3 (oL.base kD.size) oC hH hA hF k4
        have TB := T.B
        go_simp
        refine hK.out _ _ (S2.out _ TB) (fun _ => ?_)
        clear hK K
        try simp only [Act.put, List.setIfInBounds_toArray, List.set_cons_zero, List.set_cons_succ]
        refine wpAnyH_done (by kernel_rfl) ?_ _
        clear c0 c1 c2 z0 z1 z2
        go_wp2_with fail
        go_meet
        case rel => exact ⟨_, _, _, _, _, _, rfl, T⟩
      · go_simp
        have kA := below_alloc (o := (.cells #[.slice none 0 0, .slice none 0 0, .slice none 0 0] 26)) B3 (Nat.le_refl _)
        refine hK.out _ _ (S2.out _ kA) (fun _ => ?_)
        clear hK K
        try simp only [Act.put, List.setIfInBounds_toArray, List.set_cons_zero, List.set_cons_succ]
        refine wpAnyH_ready (rs := [5]) (by kernel_rfl) (by simp) ?_
        refine (AllReadyH.cons rfl (fun K hK => ?_) AllReadyH.nil)
        go_simp
        refine (cC.out _ kA).mono ?_
        rintro e w4 ⟨ca, cc, ds, rfl, oC, hH, hA, hF, k4⟩
        have B4 := kA.trans (k4.mono kA.size)
        refine hK.out _ _ (S2.out _ B4) (fun _ => ?_)
        clear hK K
        try simp only [Act.put, List.setIfInBounds_toArray, List.set_cons_zero, List.set_cons_succ]
        refine wpAnyH_take (i := 6) (oi := { dst := some 12, op := _, type := _, pos := _, after := _, guard := _ }) (v := .agg #[.slice la s.ls.length lc, .slice none 0 0, .slice ca ds.length cc]) rfl (by kernel_rfl) (by kernel_rfl) (by kernel_rfl) (fun _ _ _ h => h) (Or.inl ⟨by rfl, fun wk hk => by obtain ⟨q1, q2⟩ := hk; go_simp⟩) (S2.out _ B4) ?_
        simp only [Act.put, List.setIfInBounds_toArray, List.set_cons_zero, List.set_cons_succ]
        refine wpAnyH_ready (rs := [8]) (by kernel_rfl) (by simp) ?_
        refine (AllReadyH.cons rfl (fun K hK => ?_) AllReadyH.nil)
        have bx : w4.heap[w3.heap.size]? = some (.cells #[.slice none 0 0, .slice none 0 0, .slice none 0 0] 26 (0, 0)) := (k4.block _ (by simp)).trans (one_alloc w3 (.cells #[.slice none 0 0, .slice none 0 0, .slice none 0 0] 26))
        have c0 := block_cell bx 0
        have c1 := block_cell bx 1
        have c2 := block_cell bx 2
        have z0 := block_free bx 0
        have z1 := block_free bx 1
        have z2 := block_free bx 2
        have T := two_put (kA) B3.size (by simp) bx (by decide) (by decide) ((oL.base kD.size).alloc _) oC hH hA hF k4
        have TB := T.B
        go_simp
        refine hK.out _ _ (S2.out _ TB) (fun _ => ?_)
        clear hK K
        try simp only [Act.put, List.setIfInBounds_toArray, List.set_cons_zero, List.set_cons_succ]
        refine wpAnyH_done (by kernel_rfl) ?_ _
        clear c0 c1 c2 z0 z1 z2
        go_wp2_with fail
        go_meet
        case rel => exact ⟨_, _, _, _, _, _, rfl, T⟩
    · go_simp
      have kA := below_alloc (o := (.cells #[.slice none 0 0, .slice none 0 0, .slice none 0 0] 26)) kD (Nat.le_refl _)
      refine hK.out _ _ (S2.out _ kA) (fun _ => ?_)
      clear hK K
      try simp only [Act.put, List.setIfInBounds_toArray, List.set_cons_zero, List.set_cons_succ]
      refine wpAnyH_ready (rs := [2]) (by kernel_rfl) (by simp) ?_
      refine (AllReadyH.cons rfl (fun K hK => ?_) AllReadyH.nil)
      go_simp
      refine (cL.out _ kA).mono ?_
      rintro e w3 ⟨la, lc, rfl, oL, k3⟩
      have B3 := kA.trans (k3.mono kA.size)
      refine hK.out _ _ (S2.out _ B3) (fun _ => ?_)
      clear hK K
      try simp only [Act.put, List.setIfInBounds_toArray, List.set_cons_zero, List.set_cons_succ]
      refine wpAnyH_ready (rs := [5]) (by kernel_rfl) (by simp) ?_
      refine (AllReadyH.cons rfl (fun K hK => ?_) AllReadyH.nil)
      go_simp
      refine (cC.out _ B3).mono ?_
      rintro e w4 ⟨ca, cc, ds, rfl, oC, hH, hA, hF, k4⟩
      have B4 := B3.trans (k4.mono B3.size)
      refine hK.out _ _ (S2.out _ B4) (fun _ => ?_)
      clear hK K
      try simp only [Act.put, List.setIfInBounds_toArray, List.set_cons_zero, List.set_cons_succ]
      refine wpAnyH_take (i := 6) (oi := { dst := some 12, op := _, type := _, pos := _, after := _, guard := _ }) (v := .agg #[.slice la s.ls.length lc, .slice none 0 0, .slice ca ds.length cc]) rfl (by kernel_rfl) (by kernel_rfl) (by kernel_rfl) (fun _ _ _ h => h) (Or.inl ⟨by rfl, fun wk hk => by obtain ⟨q1, q2⟩ := hk; go_simp⟩) (S2.out _ B4) ?_
      simp only [Act.put, List.setIfInBounds_toArray, List.set_cons_zero, List.set_cons_succ]
      refine wpAnyH_ready (rs := [8]) (by kernel_rfl) (by simp) ?_
      refine (AllReadyH.cons rfl (fun K hK => ?_) AllReadyH.nil)
      have bx : w4.heap[WB.heap.size]? = some (.cells #[.slice none 0 0, .slice none 0 0, .slice none 0 0] 26 (0, 0)) := (k4.block _ (by have := k3.size; simp at this ⊢; omega)).trans ((k3.block _ (by simp)).trans (one_alloc WB.drew (.cells #[.slice none 0 0, .slice none 0 0, .slice none 0 0] 26)))
      have c0 := block_cell bx 0
      have c1 := block_cell bx 1
      have c2 := block_cell bx 2
      have z0 := block_free bx 0
      have z1 := block_free bx 1
      have z2 := block_free bx 2
      have T := two_put (B3) (by simp) (by have := k3.size; simp at this ⊢; omega) bx (by decide) (by decide) (oL.base kA.size) oC hH hA hF k4
      have TB := T.B
      go_simp
      refine hK.out _ _ (S2.out _ TB) (fun _ => ?_)
      clear hK K
      try simp only [Act.put, List.setIfInBounds_toArray, List.set_cons_zero, List.set_cons_succ]
      refine wpAnyH_done (by kernel_rfl) ?_ _
      clear c0 c1 c2 z0 z1 z2
      go_wp2_with fail
      go_meet
      case rel => exact ⟨_, _, _, _, _, _, rfl, T⟩
  case rest =>
    generalize wc = W1 at *
    obtain ⟨XB, la, lc, ca, cc, ds, rfl, T⟩ := hcut
    have f1 : W1.cell? ⟨w.heap.size, 1, none⟩ = some (.slice s.ra s.rs.length s.rc) := (T.B.cell (p := ⟨w.heap.size, 1, none⟩) (by rw [HZ.out]; simp)).trans (by rw [block_cell HC.out]; rfl)
    have hcf := (T.B.block w.heap.size (by rw [HZ.out]; omega)).trans HC.out
    have hlc := block_lt hcf
    have hne : w.heap.size ≠ XB := by have := T.hb; rw [HZ.out] at this; omega
    have HWB := Lib.hid T.B.size
    have HC1 := Lib.hid (And.intro hlc hne)
    have HC2 := Lib.hid hcf
    have T0 := T.turn 48
    have TT := Lib.hid T
    clear hcf hlc hne S2 T
    go_wp2_with fail
    go_loopg [16] s.rs.length (fun g i wr => ∃ k : Nat, k ≤ s.rs.length ∧ g = s.rs.length - k ∧ i = .int .i64 k ∧ ∃ v, Turn 48 26 WB W1 wr XB (.slice la s.ls.length lc) (.slice ca ds.length cc) v ((routesI s.ls (s.rs.take k) s.cs).map Rt.cells))
    case atStart => exact ⟨0, Nat.zero_le _, rfl, rfl, _, T0⟩
    case round =>
      clear T0 f1
      obtain ⟨k, hk, rfl, rfl, v, G⟩ := hrel
      by_cases hlt : k < s.rs.length
      · have BR := below_next B0 G.k.B
        obtain ⟨ad, e, _⟩ := HIN.out.pr (by rw [List.length_map]; omega)
        have hpr := HIN.out.pr
        rw [e] at hpr
        obtain ⟨x0, x1, x2, x3⟩ := row4_rl (W := wr) hpr hlt (fun q hq => BR.cell hq)
        obtain ⟨r, hr⟩ : ∃ r, s.rs[k] = r := ⟨_, rfl⟩
        rw [hr] at x0 x1 x2 x3
        have hnx : routesI s.ls (s.rs.take (k + 1)) s.cs = routesI s.ls (s.rs.take k) s.cs ++ [routeI s.ls s.cs r] := by
          unfold routesI
          rw [List.take_succ_eq_append_getElem hlt, List.map_append, List.map_singleton, hr]
        have hlen : (routesI s.ls (s.rs.take k) s.cs).length = k := by simp [routesI]; omega
        have HNX := Lib.hid hnx
        have HLEN := Lib.hid hlen
        clear hr hpr hnx hlen
        obtain ⟨A4, n4, c4, hv⟩ := own_form G.own.2
        subst hv
        have M := G.mid (TE := 54) (x0 := .int .i64 r.listen) (x1 := .string r.host) (x2 := .string r.path) (x3 := .int .i64 r.cluster) HC1.out HC2.out
        have MM := Lib.hid M
        have BR2 := Lib.hid BR
        rw [e]
        have HE := Lib.hid e
        have hfd : ∀ (a b c d : Value) (w : World), (Instr.field 46 (.agg #[a, b, c, d]) 0).run Try.prog w = .ok a w := fun _ _ _ _ _ => by kernel_rfl
        clear M G BR e
        have hr50 := FEW.out.r
        go_wp2_with fail
        have M0 := MM.out.below (below_drew (Below.refl _ _))
        refine wp_region_held_drew (S := Six w.heap.size wr.heap.size (.slice s.la s.ls.length s.lc) (.slice s.ca s.cs.length s.cc) (.int .i64 r.listen) (.string r.host) (.string r.path) (.int .i64 r.cluster)) (by kernel_rfl) M0.six (fun _ => ?_)
        refine wpAnyH_take (i := 0) (oi := { dst := some 20, op := _, type := _, pos := _, after := _, guard := _ }) (v := .pointer (some ⟨XB, 1, none⟩)) rfl (by kernel_rfl) (by kernel_rfl) (by kernel_rfl) (fun _ _ _ h => h) (Or.inl ⟨by rfl, fun wk hk => by obtain ⟨q1, q2, q3, q4, q5, q6⟩ := hk; go_simp⟩) (M0.six) ?_
        simp only [Act.put, List.setIfInBounds_toArray, List.set_cons_zero, List.set_cons_succ]
        refine wpAnyH_take (i := 2) (oi := { dst := some 22, op := _, type := _, pos := _, after := _, guard := _ }) (v := .pointer (some ⟨w.heap.size, 0, none⟩)) rfl (by kernel_rfl) (by kernel_rfl) (by kernel_rfl) (fun _ _ _ h => h) (Or.inl ⟨by rfl, fun wk hk => by obtain ⟨q1, q2, q3, q4, q5, q6⟩ := hk; go_simp⟩) (M0.six) ?_
        simp only [Act.put, List.setIfInBounds_toArray, List.set_cons_zero, List.set_cons_succ]
        refine wpAnyH_take (i := 3) (oi := { dst := some 23, op := _, type := _, pos := _, after := _, guard := _ }) (v := .slice s.la s.ls.length s.lc) rfl (by kernel_rfl) (by kernel_rfl) (by kernel_rfl) (fun _ _ _ h => h) (Or.inl ⟨by rfl, fun wk hk => by obtain ⟨q1, q2, q3, q4, q5, q6⟩ := hk; go_simp⟩) (M0.six) ?_
        simp only [Act.put, List.setIfInBounds_toArray, List.set_cons_zero, List.set_cons_succ]
        refine wpAnyH_take (i := 4) (oi := { dst := some 24, op := _, type := _, pos := _, after := _, guard := _ }) (v := .pointer (some ⟨wr.heap.size, 0, none⟩)) rfl (by kernel_rfl) (by kernel_rfl) (by kernel_rfl) (fun _ _ _ h => h) (Or.inl ⟨by rfl, fun wk hk => by obtain ⟨q1, q2, q3, q4, q5, q6⟩ := hk; go_simp⟩) (M0.six) ?_
        simp only [Act.put, List.setIfInBounds_toArray, List.set_cons_zero, List.set_cons_succ]
        refine wpAnyH_take (i := 5) (oi := { dst := some 25, op := _, type := _, pos := _, after := _, guard := _ }) (v := .int .i64 r.listen) rfl (by kernel_rfl) (by kernel_rfl) (by kernel_rfl) (fun _ _ _ h => h) (Or.inl ⟨by rfl, fun wk hk => by obtain ⟨q1, q2, q3, q4, q5, q6⟩ := hk; go_simp⟩) (M0.six) ?_
        simp only [Act.put, List.setIfInBounds_toArray, List.set_cons_zero, List.set_cons_succ]
        refine wpAnyH_take (i := 7) (oi := { dst := some 27, op := _, type := _, pos := _, after := _, guard := _ }) (v := .pointer (some ⟨wr.heap.size, 1, none⟩)) rfl (by kernel_rfl) (by kernel_rfl) (by kernel_rfl) (fun _ _ _ h => h) (Or.inl ⟨by rfl, fun wk hk => by obtain ⟨q1, q2, q3, q4, q5, q6⟩ := hk; go_simp⟩) (M0.six) ?_
        simp only [Act.put, List.setIfInBounds_toArray, List.set_cons_zero, List.set_cons_succ]
        refine wpAnyH_take (i := 8) (oi := { dst := some 28, op := _, type := _, pos := _, after := _, guard := _ }) (v := .string r.host) rfl (by kernel_rfl) (by kernel_rfl) (by kernel_rfl) (fun _ _ _ h => h) (Or.inl ⟨by rfl, fun wk hk => by obtain ⟨q1, q2, q3, q4, q5, q6⟩ := hk; go_simp⟩) (M0.six) ?_
        simp only [Act.put, List.setIfInBounds_toArray, List.set_cons_zero, List.set_cons_succ]
        refine wpAnyH_take (i := 9) (oi := { dst := some 29, op := _, type := _, pos := _, after := _, guard := _ }) (v := .pointer (some ⟨wr.heap.size, 2, none⟩)) rfl (by kernel_rfl) (by kernel_rfl) (by kernel_rfl) (fun _ _ _ h => h) (Or.inl ⟨by rfl, fun wk hk => by obtain ⟨q1, q2, q3, q4, q5, q6⟩ := hk; go_simp⟩) (M0.six) ?_
        simp only [Act.put, List.setIfInBounds_toArray, List.set_cons_zero, List.set_cons_succ]
        refine wpAnyH_take (i := 10) (oi := { dst := some 30, op := _, type := _, pos := _, after := _, guard := _ }) (v := .string r.path) rfl (by kernel_rfl) (by kernel_rfl) (by kernel_rfl) (fun _ _ _ h => h) (Or.inl ⟨by rfl, fun wk hk => by obtain ⟨q1, q2, q3, q4, q5, q6⟩ := hk; go_simp⟩) (M0.six) ?_
        simp only [Act.put, List.setIfInBounds_toArray, List.set_cons_zero, List.set_cons_succ]
        refine wpAnyH_take (i := 11) (oi := { dst := some 31, op := _, type := _, pos := _, after := _, guard := _ }) (v := .pointer (some ⟨w.heap.size, 2, none⟩)) rfl (by kernel_rfl) (by kernel_rfl) (by kernel_rfl) (fun _ _ _ h => h) (Or.inl ⟨by rfl, fun wk hk => by obtain ⟨q1, q2, q3, q4, q5, q6⟩ := hk; go_simp⟩) (M0.six) ?_
        simp only [Act.put, List.setIfInBounds_toArray, List.set_cons_zero, List.set_cons_succ]
        refine wpAnyH_take (i := 12) (oi := { dst := some 32, op := _, type := _, pos := _, after := _, guard := _ }) (v := .slice s.ca s.cs.length s.cc) rfl (by kernel_rfl) (by kernel_rfl) (by kernel_rfl) (fun _ _ _ h => h) (Or.inl ⟨by rfl, fun wk hk => by obtain ⟨q1, q2, q3, q4, q5, q6⟩ := hk; go_simp⟩) (M0.six) ?_
        simp only [Act.put, List.setIfInBounds_toArray, List.set_cons_zero, List.set_cons_succ]
        refine wpAnyH_take (i := 13) (oi := { dst := some 33, op := _, type := _, pos := _, after := _, guard := _ }) (v := .pointer (some ⟨wr.heap.size, 3, none⟩)) rfl (by kernel_rfl) (by kernel_rfl) (by kernel_rfl) (fun _ _ _ h => h) (Or.inl ⟨by rfl, fun wk hk => by obtain ⟨q1, q2, q3, q4, q5, q6⟩ := hk; go_simp⟩) (M0.six) ?_
        simp only [Act.put, List.setIfInBounds_toArray, List.set_cons_zero, List.set_cons_succ]
        refine wpAnyH_take (i := 14) (oi := { dst := some 34, op := _, type := _, pos := _, after := _, guard := _ }) (v := .int .i64 r.cluster) rfl (by kernel_rfl) (by kernel_rfl) (by kernel_rfl) (fun _ _ _ h => h) (Or.inl ⟨by rfl, fun wk hk => by obtain ⟨q1, q2, q3, q4, q5, q6⟩ := hk; go_simp⟩) (M0.six) ?_
        simp only [Act.put, List.setIfInBounds_toArray, List.set_cons_zero, List.set_cons_succ]
        refine wpAnyH_ready (rs := [1, 6]) (by kernel_rfl) (by simp) ?_
        refine (AllReadyH.cons rfl (fun K hK => ?_) (AllReadyH.cons rfl (fun K hK => ?_) AllReadyH.nil))
        · have r1 := (M0).row
          go_simp
          refine hK.out _ _ (M0).six (fun _ => ?_)
          clear hK K
          try simp only [Act.put, List.setIfInBounds_toArray, List.set_cons_zero, List.set_cons_succ]
          clear r1
          refine wpAnyH_ready (rs := [6]) (by kernel_rfl) (by simp) ?_
          refine (AllReadyH.cons rfl (fun K hK => ?_) AllReadyH.nil)
          go_simp
          have hq := atS_is s.la s.lc w.heap.size s.ls r.listen _ (HIN.out.pl.below (below_next B0 M0.k.B)) (Nat.le_trans HIN.out.ll HIN.out.lm)
          refine hq.mono ?_
          rintro e wx ⟨rfl, rfl⟩
          have M1 := M0
          clear hq
          refine hK.out _ _ M1.six (fun _ => ?_)
          clear hK K
          try simp only [Act.put, List.setIfInBounds_toArray, List.set_cons_zero, List.set_cons_succ]
          refine wpAnyH_ready (rs := [15]) (by kernel_rfl) (by simp) ?_
          refine (AllReadyH.cons rfl (fun K hK => ?_) AllReadyH.nil)
          go_simp
          have hq := atC_is s.ca s.cc w.heap.size s.cs r.cluster _ (HIN.out.pc.below (below_next B0 M1.k.B)) (below_next B0 M1.k.B).size (Nat.le_trans HIN.out.cl HIN.out.cm)
          refine hq.mono ?_
          rintro e wx ⟨rfl, kx⟩
          have M2 := M1.below kx
          unfold Cl.agg
          rw [atC_name]
          clear hq
          refine hK.out _ _ M2.six (fun _ => ?_)
          clear hK K
          try simp only [Act.put, List.setIfInBounds_toArray, List.set_cons_zero, List.set_cons_succ]
          refine wpAnyH_take (i := 16) (oi := { dst := some 36, op := _, type := _, pos := _, after := _, guard := _ }) (v := .string (nameC s.cs r.cluster)) rfl (by kernel_rfl) (by kernel_rfl) (by kernel_rfl) (fun _ _ _ h => h) (Or.inl ⟨by rfl, fun wk hk => by obtain ⟨q1, q2, q3, q4, q5, q6⟩ := hk; go_simp⟩) M2.six ?_
          simp only [Act.put, List.setIfInBounds_toArray, List.set_cons_zero, List.set_cons_succ]
          refine wpAnyH_take (i := 17) (oi := { dst := some 37, op := _, type := _, pos := _, after := _, guard := _ }) (v := .agg #[.string (nameL s.ls r.listen), .string r.host, .string r.path, .string (nameC s.cs r.cluster)]) rfl (by kernel_rfl) (by kernel_rfl) (by kernel_rfl) (fun _ _ _ h => h) (Or.inl ⟨by rfl, fun wk hk => by obtain ⟨q1, q2, q3, q4, q5, q6⟩ := hk; go_simp⟩) M2.six ?_
          simp only [Act.put, List.setIfInBounds_toArray, List.set_cons_zero, List.set_cons_succ]
          refine wpAnyH_ready (rs := [18]) (by kernel_rfl) (by simp) ?_
          refine (AllReadyH.cons rfl (fun K hK => ?_) AllReadyH.nil)
          go_simp
          refine hK.out _ _ (M2.alloc _).six (fun _ => ?_)
          clear hK K
          try simp only [Act.put, List.setIfInBounds_toArray, List.set_cons_zero, List.set_cons_succ]
          refine wpAnyH_ready (rs := [19]) (by kernel_rfl) (by simp) ?_
          refine (AllReadyH.cons rfl (fun K hK => ?_) AllReadyH.nil)
          refine step_append_one4 rfl (.tmp 21) (.tmp 38) 23 rfl ir (.agg #[.string ⟨#[]⟩, .string ⟨#[]⟩, .string ⟨#[]⟩, .string ⟨#[]⟩]) 64 Try.underlying23 IR.out rfl (by simp [Act.eval, Act.put]) _ _ _ _ _ (by simp [Value.oneCell']) M2.own (by simp [Act.eval, Act.put]) (by rw [List.length_map, HLEN.out]; simp [maxLen]; omega) (by rw [List.length_map, HLEN.out]; omega) (by exact M2.k.S) ?_
          intro v' w6 ho hg
          obtain ⟨A5, n5, c5, rfl⟩ := own_form ho.2
          have LT := M2.late HWB.out (by decide) (by decide) hg ho
          refine hK.out _ _ LT.six (fun _ => ?_)
          clear hK K
          try simp only [Act.put, List.setIfInBounds_toArray, List.set_cons_zero, List.set_cons_succ]
          refine wpAnyH_take (i := 20) (oi := { dst := some 40, op := _, type := _, pos := _, after := _, guard := _ }) (v := .pointer (some ⟨XB, 1, none⟩)) rfl (by kernel_rfl) (by kernel_rfl) (by kernel_rfl) (fun _ _ _ h => h) (Or.inl ⟨by rfl, fun wk hk => by obtain ⟨q1, q2, q3, q4, q5, q6⟩ := hk; go_simp⟩) LT.six ?_
          simp only [Act.put, List.setIfInBounds_toArray, List.set_cons_zero, List.set_cons_succ]
          refine wpAnyH_ready (rs := [21]) (by kernel_rfl) (by simp) ?_
          refine (AllReadyH.cons rfl (fun K hK => ?_) AllReadyH.nil)
          have r1 := LT.row
          have z1 := LT.free
          have TN := LT.put (by decide)
          go_simp
          refine hK.out _ _ TN.six (fun _ => ?_)
          clear hK K
          try simp only [Act.put, List.setIfInBounds_toArray, List.set_cons_zero, List.set_cons_succ]
          refine wpAnyH_done (by kernel_rfl) ?_ _
          clear r1 z1
          have TU := Lib.hid (show Turn 48 26 WB W1 _ XB (.slice la s.ls.length lc) (.slice ca ds.length cc) _ ((routesI s.ls (s.rs.take (k + 1)) s.cs).map Rt.cells) from by rw [HNX.out, List.map_append]; exact TN.turn)
          clear ho hg LT TN
          go_wp2_with fail
          rw [← HE.out]
          go_roundg (s.rs.length - (k + 1))
          case measure => omega
          case rel => exact ⟨k + 1, by omega, rfl, by go_num, _, TU.out⟩
        · go_simp
          have hq := atS_is s.la s.lc w.heap.size s.ls r.listen _ (HIN.out.pl.below (below_next B0 M0.k.B)) (Nat.le_trans HIN.out.ll HIN.out.lm)
          refine hq.mono ?_
          rintro e wx ⟨rfl, rfl⟩
          have M1 := M0
          clear hq
          refine hK.out _ _ M1.six (fun _ => ?_)
          clear hK K
          try simp only [Act.put, List.setIfInBounds_toArray, List.set_cons_zero, List.set_cons_succ]
          refine wpAnyH_ready (rs := [1, 15]) (by kernel_rfl) (by simp) ?_
          refine (AllReadyH.cons rfl (fun K hK => ?_) (AllReadyH.cons rfl (fun K hK => ?_) AllReadyH.nil))
          · have r1 := (M1).row
            go_simp
            refine hK.out _ _ (M1).six (fun _ => ?_)
            clear hK K
            try simp only [Act.put, List.setIfInBounds_toArray, List.set_cons_zero, List.set_cons_succ]
            clear r1
            refine wpAnyH_ready (rs := [15]) (by kernel_rfl) (by simp) ?_
            refine (AllReadyH.cons rfl (fun K hK => ?_) AllReadyH.nil)
            go_simp
            have hq := atC_is s.ca s.cc w.heap.size s.cs r.cluster _ (HIN.out.pc.below (below_next B0 M1.k.B)) (below_next B0 M1.k.B).size (Nat.le_trans HIN.out.cl HIN.out.cm)
            refine hq.mono ?_
            rintro e wx ⟨rfl, kx⟩
            have M2 := M1.below kx
            unfold Cl.agg
            rw [atC_name]
            clear hq
            refine hK.out _ _ M2.six (fun _ => ?_)
            clear hK K
            try simp only [Act.put, List.setIfInBounds_toArray, List.set_cons_zero, List.set_cons_succ]
            refine wpAnyH_take (i := 16) (oi := { dst := some 36, op := _, type := _, pos := _, after := _, guard := _ }) (v := .string (nameC s.cs r.cluster)) rfl (by kernel_rfl) (by kernel_rfl) (by kernel_rfl) (fun _ _ _ h => h) (Or.inl ⟨by rfl, fun wk hk => by obtain ⟨q1, q2, q3, q4, q5, q6⟩ := hk; go_simp⟩) M2.six ?_
            simp only [Act.put, List.setIfInBounds_toArray, List.set_cons_zero, List.set_cons_succ]
            refine wpAnyH_take (i := 17) (oi := { dst := some 37, op := _, type := _, pos := _, after := _, guard := _ }) (v := .agg #[.string (nameL s.ls r.listen), .string r.host, .string r.path, .string (nameC s.cs r.cluster)]) rfl (by kernel_rfl) (by kernel_rfl) (by kernel_rfl) (fun _ _ _ h => h) (Or.inl ⟨by rfl, fun wk hk => by obtain ⟨q1, q2, q3, q4, q5, q6⟩ := hk; go_simp⟩) M2.six ?_
            simp only [Act.put, List.setIfInBounds_toArray, List.set_cons_zero, List.set_cons_succ]
            refine wpAnyH_ready (rs := [18]) (by kernel_rfl) (by simp) ?_
            refine (AllReadyH.cons rfl (fun K hK => ?_) AllReadyH.nil)
            go_simp
            refine hK.out _ _ (M2.alloc _).six (fun _ => ?_)
            clear hK K
            try simp only [Act.put, List.setIfInBounds_toArray, List.set_cons_zero, List.set_cons_succ]
            refine wpAnyH_ready (rs := [19]) (by kernel_rfl) (by simp) ?_
            refine (AllReadyH.cons rfl (fun K hK => ?_) AllReadyH.nil)
            refine step_append_one4 rfl (.tmp 21) (.tmp 38) 23 rfl ir (.agg #[.string ⟨#[]⟩, .string ⟨#[]⟩, .string ⟨#[]⟩, .string ⟨#[]⟩]) 64 Try.underlying23 IR.out rfl (by simp [Act.eval, Act.put]) _ _ _ _ _ (by simp [Value.oneCell']) M2.own (by simp [Act.eval, Act.put]) (by rw [List.length_map, HLEN.out]; simp [maxLen]; omega) (by rw [List.length_map, HLEN.out]; omega) (by exact M2.k.S) ?_
            intro v' w6 ho hg
            obtain ⟨A5, n5, c5, rfl⟩ := own_form ho.2
            have LT := M2.late HWB.out (by decide) (by decide) hg ho
            refine hK.out _ _ LT.six (fun _ => ?_)
            clear hK K
            try simp only [Act.put, List.setIfInBounds_toArray, List.set_cons_zero, List.set_cons_succ]
            refine wpAnyH_take (i := 20) (oi := { dst := some 40, op := _, type := _, pos := _, after := _, guard := _ }) (v := .pointer (some ⟨XB, 1, none⟩)) rfl (by kernel_rfl) (by kernel_rfl) (by kernel_rfl) (fun _ _ _ h => h) (Or.inl ⟨by rfl, fun wk hk => by obtain ⟨q1, q2, q3, q4, q5, q6⟩ := hk; go_simp⟩) LT.six ?_
            simp only [Act.put, List.setIfInBounds_toArray, List.set_cons_zero, List.set_cons_succ]
            refine wpAnyH_ready (rs := [21]) (by kernel_rfl) (by simp) ?_
            refine (AllReadyH.cons rfl (fun K hK => ?_) AllReadyH.nil)
            have r1 := LT.row
            have z1 := LT.free
            have TN := LT.put (by decide)
            go_simp
            refine hK.out _ _ TN.six (fun _ => ?_)
            clear hK K
            try simp only [Act.put, List.setIfInBounds_toArray, List.set_cons_zero, List.set_cons_succ]
            refine wpAnyH_done (by kernel_rfl) ?_ _
            clear r1 z1
            have TU := Lib.hid (show Turn 48 26 WB W1 _ XB (.slice la s.ls.length lc) (.slice ca ds.length cc) _ ((routesI s.ls (s.rs.take (k + 1)) s.cs).map Rt.cells) from by rw [HNX.out, List.map_append]; exact TN.turn)
            clear ho hg LT TN
            go_wp2_with fail
            rw [← HE.out]
            go_roundg (s.rs.length - (k + 1))
            case measure => omega
            case rel => exact ⟨k + 1, by omega, rfl, by go_num, _, TU.out⟩
          · go_simp
            have hq := atC_is s.ca s.cc w.heap.size s.cs r.cluster _ (HIN.out.pc.below (below_next B0 M1.k.B)) (below_next B0 M1.k.B).size (Nat.le_trans HIN.out.cl HIN.out.cm)
            refine hq.mono ?_
            rintro e wx ⟨rfl, kx⟩
            have M2 := M1.below kx
            unfold Cl.agg
            rw [atC_name]
            clear hq
            refine hK.out _ _ M2.six (fun _ => ?_)
            clear hK K
            try simp only [Act.put, List.setIfInBounds_toArray, List.set_cons_zero, List.set_cons_succ]
            refine wpAnyH_take (i := 16) (oi := { dst := some 36, op := _, type := _, pos := _, after := _, guard := _ }) (v := .string (nameC s.cs r.cluster)) rfl (by kernel_rfl) (by kernel_rfl) (by kernel_rfl) (fun _ _ _ h => h) (Or.inl ⟨by rfl, fun wk hk => by obtain ⟨q1, q2, q3, q4, q5, q6⟩ := hk; go_simp⟩) M2.six ?_
            simp only [Act.put, List.setIfInBounds_toArray, List.set_cons_zero, List.set_cons_succ]
            refine wpAnyH_take (i := 17) (oi := { dst := some 37, op := _, type := _, pos := _, after := _, guard := _ }) (v := .agg #[.string (nameL s.ls r.listen), .string r.host, .string r.path, .string (nameC s.cs r.cluster)]) rfl (by kernel_rfl) (by kernel_rfl) (by kernel_rfl) (fun _ _ _ h => h) (Or.inl ⟨by rfl, fun wk hk => by obtain ⟨q1, q2, q3, q4, q5, q6⟩ := hk; go_simp⟩) M2.six ?_
            simp only [Act.put, List.setIfInBounds_toArray, List.set_cons_zero, List.set_cons_succ]
            refine wpAnyH_ready (rs := [1, 18]) (by kernel_rfl) (by simp) ?_
            refine (AllReadyH.cons rfl (fun K hK => ?_) (AllReadyH.cons rfl (fun K hK => ?_) AllReadyH.nil))
            · have r1 := (M2).row
              go_simp
              refine hK.out _ _ (M2).six (fun _ => ?_)
              clear hK K
              try simp only [Act.put, List.setIfInBounds_toArray, List.set_cons_zero, List.set_cons_succ]
              clear r1
              refine wpAnyH_ready (rs := [18]) (by kernel_rfl) (by simp) ?_
              refine (AllReadyH.cons rfl (fun K hK => ?_) AllReadyH.nil)
              go_simp
              refine hK.out _ _ (M2.alloc _).six (fun _ => ?_)
              clear hK K
              try simp only [Act.put, List.setIfInBounds_toArray, List.set_cons_zero, List.set_cons_succ]
              refine wpAnyH_ready (rs := [19]) (by kernel_rfl) (by simp) ?_
              refine (AllReadyH.cons rfl (fun K hK => ?_) AllReadyH.nil)
              refine step_append_one4 rfl (.tmp 21) (.tmp 38) 23 rfl ir (.agg #[.string ⟨#[]⟩, .string ⟨#[]⟩, .string ⟨#[]⟩, .string ⟨#[]⟩]) 64 Try.underlying23 IR.out rfl (by simp [Act.eval, Act.put]) _ _ _ _ _ (by simp [Value.oneCell']) M2.own (by simp [Act.eval, Act.put]) (by rw [List.length_map, HLEN.out]; simp [maxLen]; omega) (by rw [List.length_map, HLEN.out]; omega) (by exact M2.k.S) ?_
              intro v' w6 ho hg
              obtain ⟨A5, n5, c5, rfl⟩ := own_form ho.2
              have LT := M2.late HWB.out (by decide) (by decide) hg ho
              refine hK.out _ _ LT.six (fun _ => ?_)
              clear hK K
              try simp only [Act.put, List.setIfInBounds_toArray, List.set_cons_zero, List.set_cons_succ]
              refine wpAnyH_take (i := 20) (oi := { dst := some 40, op := _, type := _, pos := _, after := _, guard := _ }) (v := .pointer (some ⟨XB, 1, none⟩)) rfl (by kernel_rfl) (by kernel_rfl) (by kernel_rfl) (fun _ _ _ h => h) (Or.inl ⟨by rfl, fun wk hk => by obtain ⟨q1, q2, q3, q4, q5, q6⟩ := hk; go_simp⟩) LT.six ?_
              simp only [Act.put, List.setIfInBounds_toArray, List.set_cons_zero, List.set_cons_succ]
              refine wpAnyH_ready (rs := [21]) (by kernel_rfl) (by simp) ?_
              refine (AllReadyH.cons rfl (fun K hK => ?_) AllReadyH.nil)
              have r1 := LT.row
              have z1 := LT.free
              have TN := LT.put (by decide)
              go_simp
              refine hK.out _ _ TN.six (fun _ => ?_)
              clear hK K
              try simp only [Act.put, List.setIfInBounds_toArray, List.set_cons_zero, List.set_cons_succ]
              refine wpAnyH_done (by kernel_rfl) ?_ _
              clear r1 z1
              have TU := Lib.hid (show Turn 48 26 WB W1 _ XB (.slice la s.ls.length lc) (.slice ca ds.length cc) _ ((routesI s.ls (s.rs.take (k + 1)) s.cs).map Rt.cells) from by rw [HNX.out, List.map_append]; exact TN.turn)
              clear ho hg LT TN
              go_wp2_with fail
              rw [← HE.out]
              go_roundg (s.rs.length - (k + 1))
              case measure => omega
              case rel => exact ⟨k + 1, by omega, rfl, by go_num, _, TU.out⟩
            · go_simp
              refine hK.out _ _ (M2.alloc _).six (fun _ => ?_)
              clear hK K
              try simp only [Act.put, List.setIfInBounds_toArray, List.set_cons_zero, List.set_cons_succ]
              refine wpAnyH_ready (rs := [1]) (by kernel_rfl) (by simp) ?_
              refine (AllReadyH.cons rfl (fun K hK => ?_) AllReadyH.nil)
              have r1 := fun o => (M2.alloc o).row
              go_simp
              refine hK.out _ _ (M2.alloc _).six (fun _ => ?_)
              clear hK K
              try simp only [Act.put, List.setIfInBounds_toArray, List.set_cons_zero, List.set_cons_succ]
              clear r1
              refine wpAnyH_ready (rs := [19]) (by kernel_rfl) (by simp) ?_
              refine (AllReadyH.cons rfl (fun K hK => ?_) AllReadyH.nil)
              refine step_append_one4 rfl (.tmp 21) (.tmp 38) 23 rfl ir (.agg #[.string ⟨#[]⟩, .string ⟨#[]⟩, .string ⟨#[]⟩, .string ⟨#[]⟩]) 64 Try.underlying23 IR.out rfl (by simp [Act.eval, Act.put]) _ _ _ _ _ (by simp [Value.oneCell']) M2.own (by simp [Act.eval, Act.put]) (by rw [List.length_map, HLEN.out]; simp [maxLen]; omega) (by rw [List.length_map, HLEN.out]; omega) (by exact M2.k.S) ?_
              intro v' w6 ho hg
              obtain ⟨A5, n5, c5, rfl⟩ := own_form ho.2
              have LT := M2.late HWB.out (by decide) (by decide) hg ho
              refine hK.out _ _ LT.six (fun _ => ?_)
              clear hK K
              try simp only [Act.put, List.setIfInBounds_toArray, List.set_cons_zero, List.set_cons_succ]
              refine wpAnyH_take (i := 20) (oi := { dst := some 40, op := _, type := _, pos := _, after := _, guard := _ }) (v := .pointer (some ⟨XB, 1, none⟩)) rfl (by kernel_rfl) (by kernel_rfl) (by kernel_rfl) (fun _ _ _ h => h) (Or.inl ⟨by rfl, fun wk hk => by obtain ⟨q1, q2, q3, q4, q5, q6⟩ := hk; go_simp⟩) LT.six ?_
              simp only [Act.put, List.setIfInBounds_toArray, List.set_cons_zero, List.set_cons_succ]
              refine wpAnyH_ready (rs := [21]) (by kernel_rfl) (by simp) ?_
              refine (AllReadyH.cons rfl (fun K hK => ?_) AllReadyH.nil)
              have r1 := LT.row
              have z1 := LT.free
              have TN := LT.put (by decide)
              go_simp
              refine hK.out _ _ TN.six (fun _ => ?_)
              clear hK K
              try simp only [Act.put, List.setIfInBounds_toArray, List.set_cons_zero, List.set_cons_succ]
              refine wpAnyH_done (by kernel_rfl) ?_ _
              clear r1 z1
              have TU := Lib.hid (show Turn 48 26 WB W1 _ XB (.slice la s.ls.length lc) (.slice ca ds.length cc) _ ((routesI s.ls (s.rs.take (k + 1)) s.cs).map Rt.cells) from by rw [HNX.out, List.map_append]; exact TN.turn)
              clear ho hg LT TN
              go_wp2_with fail
              rw [← HE.out]
              go_roundg (s.rs.length - (k + 1))
              case measure => omega
              case rel => exact ⟨k + 1, by omega, rfl, by go_num, _, TU.out⟩
      · obtain rfl : k = s.rs.length := by omega
        rw [List.take_length] at G
        obtain ⟨A, kc, hv, hA1, hA2⟩ := G.own.slice
        subst hv
        rw [List.length_map] at G hA1
        have GR := (G.k.B.block (w.heap.size + 1) (by rw [HZ.out]; omega)).trans HR.out
        have g0 := block_cell G.box 0
        have g1 := block_cell G.box 1
        have g2 := block_cell G.box 2
        have r0 := block_free GR 0
        have r1 := block_free GR 1
        have r2 := block_free GR 2
        have c0 := block_cell GR 0
        have c1 := block_cell GR 1
        have c2 := block_cell GR 2
        have fL := far_own TT.out.own
        have fC := far_own TT.out.own4.2
        have fR : Anew WB.heap.size A := fun ad e => Nat.le_trans HWB.out (far_own G.own.2 ad e)
        have hz : w.heap.size + 1 < WB.heap.size := by rw [HZ.out]; omega
        have I0 : CfgIn wr wr.heap.size ⟨la, lc, s.ls, A, kc, routesI s.ls s.rs s.cs, ca, cc, ds⟩ :=
          ⟨TT.out.texts G.k (by decide), G.own.rows, TT.out.clusters G.k (by decide), TT.out.own.le.1, hA1, TT.out.own4.le.1, TT.out.own.le.2, hA2, TT.out.own4.le.2, TT.out.alike.wf HIN.out.wf⟩
        have J0 := TT.out.healths G.k
        have ap : ∀ {a : Option Addr}, Anew WB.heap.size a → ∀ ad, a = some ad → ad.block ≠ w.heap.size + 1 := fun h ad e => by have := h ad e; omega
        have I1 := Lib.hid (((I0.apart (o := 0) (u := .slice la s.ls.length lc) (ap fL) (ap fR) (ap fC)).apart (o := 1) (u := .slice A (routesI s.ls s.rs s.cs).length kc) (ap fL) (ap fR) (ap fC)).apart (o := 2) (u := .slice ca ds.length cc) (ap fL) (ap fR) (ap fC))
        have J1 := Lib.hid (((J0.apart (o := 0) (u := .slice la s.ls.length lc) fun x hx => ap (TT.out.far x hx)).apart (o := 1) (u := .slice A (routesI s.ls s.rs s.cs).length kc) fun x hx => ap (TT.out.far x hx)).apart (o := 2) (u := .slice ca ds.length cc) fun x hx => ap (TT.out.far x hx))
        have B1 := Lib.hid (below_next B0 G.k.B)
        have AL := Lib.hid TT.out.alike
        have HGR := Lib.hid GR
        clear I0 J0 ap G GR fL fC fR hz hA1 hA2
        go_wp2_with fail
        have hV := three_set HGR.out (.slice la s.ls.length lc) (.slice A (routesI s.ls s.rs s.cs).length kc) (.slice ca ds.length cc)
        have BV := Lib.hid (((B1.out.setCell (p := ⟨w.heap.size + 1, 0, none⟩) (by simp) (.slice la s.ls.length lc)).setCell (p := ⟨w.heap.size + 1, 1, none⟩) (by simp) (.slice A (routesI s.ls s.rs s.cs).length kc)).setCell (p := ⟨w.heap.size + 1, 2, none⟩) (by simp) (.slice ca ds.length cc))
        have hs3 : (((wr.setCell ⟨w.heap.size + 1, 0, none⟩ (.slice la s.ls.length lc)).setCell ⟨w.heap.size + 1, 1, none⟩ (.slice A (routesI s.ls s.rs s.cs).length kc)).setCell ⟨w.heap.size + 1, 2, none⟩ (.slice ca ds.length cc)).heap.size = wr.heap.size := by rw [size_cell, size_cell, size_cell]
        have HS3 := Lib.hid hs3.symm
        clear hs3
        rw [HS3.out] at I1 J1
        clear HS3
        generalize ((wr.setCell ⟨w.heap.size + 1, 0, none⟩ (.slice la s.ls.length lc)).setCell ⟨w.heap.size + 1, 1, none⟩ (.slice A (routesI s.ls s.rs s.cs).length kc)).setCell ⟨w.heap.size + 1, 2, none⟩ (.slice ca ds.length cc) = V at *
        have v0 := block_cell hV 0
        have v1 := block_cell hV 1
        have v2 := block_cell hV 2
        exact bodyPost_ret (v := Cfg.val ⟨la, lc, s.ls, A, kc, routesI s.ls s.rs s.cs, ca, cc, ds⟩) (by simp [results, Try.f15, go_sem, v0, v1, v2, Cfg.val]) rfl ⟨⟨la, lc, s.ls, A, kc, routesI s.ls s.rs s.cs, ca, cc, ds⟩, rfl, I1.out, J1.out, rfl, AL.out, rfl, BV.out⟩
end Go.Proofs.Ytknjdaokidcllaa
