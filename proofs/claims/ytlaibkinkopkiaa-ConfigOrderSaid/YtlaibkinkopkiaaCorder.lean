/- The walk of ConfigOrder. -/
import Derived.Test.YtlaibkinkopkiaaCrev
import Derived.Test.YtlaibkinkopkiaaCrl
import Derived.Test.YtlaibkinkopkiaaStep
import Derived.BigRegion
namespace Go.Proofs.Ytlaibkinkopkiaa
open Go.RowKit
set_option linter.unusedVariables false
set_option linter.unusedSimpArgs false
set_option maxRecDepth 100000

theorem drop_rev {α : Type} (l : List α) {j : Nat} (hj : j < l.length) : (l.drop j).reverse = (l.drop (j + 1)).reverse ++ [l[j]] := by
  rw [List.drop_eq_getElem_cons hj, List.reverse_cons]

theorem order_two {ls : List ByteArray} {rs : List Rt} {cs : List Cl} : (checkI ls rs cs = (0, 0) ∧ checkI ls.reverse rs.reverse cs.reverse = (0, 0)) ∨ ((checkI ls rs cs).1 ≠ 0 ∧ (checkI ls.reverse rs.reverse cs.reverse).1 ≠ 0) := by
  by_cases h : (checkI ls rs cs).1 = 0
  · exact .inl ⟨check_zero h, check_zero (good_iff.2 (good_rev (good_iff.1 h)))⟩
  · exact .inr ⟨h, fun h' => h (good_iff.2 (good_rev_iff.1 (good_iff.1 h')))⟩

set_option maxHeartbeats 8000000 in
theorem configOrder_walk (c : Cfg) (w : World) (h : CfgIn w w.heap.size c) :
    Calls Try.prog 5 #[c.val] w fun e w' => e = .returned (.bool true) ∧ Below w.heap.size w w' := by
  have hB := fun W (h : CfgIn W W.heap.size c) => big_is c W h
  obtain ⟨b, hb⟩ : ∃ b, bigB c.ls c.rs c.cs = b := ⟨_, rfl⟩
  rw [hb] at hB
  have HIN := Lib.hid h
  have h50 : b = false → c.ls.length ≤ 50 ∧ c.rs.length ≤ 50 ∧ c.cs.length ≤ 50 := by
    rintro rfl
    unfold bigB big3 at hb
    simp only [Bool.or_eq_false_iff, decide_eq_false_iff_not] at hb
    omega
  clear h hb
  obtain ⟨il, hil, hl0, hl1, hl2⟩ := info_parts str_info
  obtain ⟨ir, hir, hr0, hr1, hr2⟩ := info_parts route_info
  obtain ⟨ic, hic, hc0, hc1, hc2⟩ := info_parts cluster_info
  have IL := Lib.hid (⟨hil, hl0, hl1, hl2⟩ : _ ∧ _ ∧ _ ∧ _)
  have IR := Lib.hid (⟨hir, hr0, hr1, hr2⟩ : _ ∧ _ ∧ _ ∧ _)
  have IC := Lib.hid (⟨hic, hc0, hc1, hc2⟩ : _ ∧ _ ∧ _ ∧ _)
  clear hil hl0 hl1 hl2 hir hr0 hr1 hr2 hic hc0 hc1 hc2
  have B := boxed w (.cells #[.slice c.la c.ls.length c.lc, .slice c.ra c.rs.length c.rc, .slice c.ca c.cs.length c.cc] 26)
  have hb := hB _ ((HIN.out.below B).more B.size)
  unfold Cfg.val at *
  clear hB
  go_enter Try.func5, Try.ntmps5
  go_wp2_with fail
  refine hb.mono ?_
  rintro e W ⟨rfl, kk⟩
  have k1 := kk
  have B1 := below_next B kk
  have BX := Lib.hid B
  clear hb kk B
  cases b with
  | true =>
    go_wp2_with fail
    go_ret
    exact ⟨rfl, B1⟩
  | false =>
  obtain ⟨n1, n2, n3⟩ := h50 rfl
  clear h50 B1
  have R0 := Rev.start k1
  generalize hbx : w.alloc (.cells #[.slice c.la c.ls.length c.lc, .slice c.ra c.rs.length c.rc, .slice c.ca c.cs.length c.cc] 26) = wb at *
  have V3 : ∀ W : World, Below wb.heap.size wb W → W.cell? ⟨w.heap.size, 0, none⟩ = some (.slice c.la c.ls.length c.lc) ∧ W.cell? ⟨w.heap.size, 1, none⟩ = some (.slice c.ra c.rs.length c.rc) ∧ W.cell? ⟨w.heap.size, 2, none⟩ = some (.slice c.ca c.cs.length c.cc) := by
    subst hbx
    intro W hW
    exact box3 hW
  have VV := Lib.hid V3
  clear V3 hbx
  obtain ⟨v0, v1, v2⟩ := VV.out _ R0.B
  clear k1
  go_wp2_with fail
  generalize W.heap.size = XB at *
  clear v0 v1 v2
  go_loopg [4] c.ls.length (fun g i wr => ∃ k : Nat, k ≤ c.ls.length ∧ g = k ∧ i = .int .i64 ((k : Int) - 1) ∧ ∃ vl, Rev wb wr XB vl (.slice none 0 0) (.slice none 0 0) (c.ls.drop k).reverse [] [])
  case atStart => exact ⟨c.ls.length, Nat.le_refl _, rfl, rfl, _, by rw [List.drop_length]; exact R0⟩
  case round =>
    clear R0
    obtain ⟨k, hk, rfl, rfl, vl, R⟩ := hrel
    rcases gk with _ | j
    · have ez : ((0 : Nat) : Int) - 1 = -1 := rfl
      rw [ez]
      clear ez
      rw [List.drop_zero] at R
      obtain ⟨v0, v1, v2⟩ := VV.out _ R.B
      go_wp2_with fail
      clear v0 v1 v2
      go_loopg [5] c.cs.length (fun g i wr => ∃ k : Nat, k ≤ c.cs.length ∧ g = k ∧ i = .int .i64 ((k : Int) - 1) ∧ ∃ vc, Rev wb wr XB vl (.slice none 0 0) vc c.ls.reverse [] (c.cs.drop k).reverse)
      case atStart => exact ⟨c.cs.length, Nat.le_refl _, rfl, rfl, _, by rw [List.drop_length]; exact R⟩
      case round =>
        clear R hk
        obtain ⟨k, hk, rfl, rfl, vc, R⟩ := hrel
        rcases gk with _ | j
        · have ez : ((0 : Nat) : Int) - 1 = -1 := rfl
          rw [ez]
          clear ez
          rw [List.drop_zero] at R
          obtain ⟨v0, v1, v2⟩ := VV.out _ R.B
          go_wp2_with fail
          clear v0 v1 v2
          go_loopg [6] c.rs.length (fun g i wr => ∃ k : Nat, k ≤ c.rs.length ∧ g = k ∧ i = .int .i64 ((k : Int) - 1) ∧ ∃ vr, Rev wb wr XB vl vr vc c.ls.reverse (c.rs.drop k).reverse c.cs.reverse)
          case atStart => exact ⟨c.rs.length, Nat.le_refl _, rfl, rfl, _, by rw [List.drop_length]; exact R⟩
          case round =>
            clear R hk
            obtain ⟨k, hk, rfl, rfl, vr, R⟩ := hrel
            rcases gk with _ | j
            · have ez : ((0 : Nat) : Int) - 1 = -1 := rfl
              rw [ez]
              clear ez
              rw [List.drop_zero] at R
              obtain ⟨v0, v1, v2⟩ := VV.out _ R.B
              have BT := BX.out.trans (R.B.mono BX.out.size)
              have hc := check_is c wr ((HIN.out.below BT).more BT.size)
              have hO := order_two (ls := c.ls) (rs := c.rs) (cs := c.cs)
              generalize checkI c.ls c.rs c.cs = p at hc hO
              have HO := Lib.hid hO
              clear hO
              unfold Cfg.val at hc
              go_wp2_with fail
              refine hc.mono ?_
              rintro e W5 ⟨rfl, kk⟩
              have R5 := R.below kk
              clear hc kk R BT v0 v1 v2
              obtain ⟨la, lc, ra, rc, ca, cc, rfl, rfl, rfl, hI⟩ := R5.cfg (fun x hx => HIN.out.wf x (by simpa using hx))
              have B5 := BX.out.trans (R5.B.mono BX.out.size)
              have hc := check_is _ W5 hI
              clear hI
              unfold Cfg.val at hc
              simp only at hc
              have HO2 := HO.out
              generalize checkI c.ls.reverse c.rs.reverse c.cs.reverse = q at hc HO2
              have HO3 := Lib.hid HO2
              clear HO2 HO
              have y0 := R5.cell 0
              have y1 := R5.cell 1
              have y2 := R5.cell 2
              simp only [List.getElem?_toArray, List.getElem?_cons_succ, List.getElem?_cons_zero] at y0 y1 y2
              generalize c.ls.reverse.length = a1 at hc y0
              generalize c.rs.reverse.length = a2 at hc y1
              generalize c.cs.reverse.length = a3 at hc y2
              clear R5
              go_wp2_with fail
              refine hc.mono ?_
              rintro e W6 ⟨rfl, kk⟩
              have B6 := below_next B5 kk
              clear hc kk y0 y1 y2 B5
              rcases HO3.out with ⟨rfl, rfl⟩ | ⟨h1, h2⟩
              · clear HO3
                go_wp2_with fail
                refine (checked_is W6).mono ?_
                rintro e W7 ⟨rfl, kk⟩
                have B7 := below_next B6 kk
                clear kk
                go_wp2_with fail
                go_ret
                exact ⟨rfl, B7⟩
              · have t1 : (p.1 == 0) = false := by simpa using h1
                have t2 : (q.1 == 0) = false := by simpa using h2
                have t3 : (p.1 != 0) = true := by simpa using h1
                clear h1 h2 HO3
                go_wp2_with fail
                refine (checked_is W6).mono ?_
                rintro e W7 ⟨rfl, kk⟩
                have B7 := below_next B6 kk
                clear kk
                go_wp2_with fail
                go_ret
                exact ⟨rfl, B7⟩
            · have hj : j < c.rs.length := by omega
              have ez : ((j + 1 : Nat) : Int) - 1 = (j : Int) := by omega
              rw [ez]
              clear ez
              obtain ⟨ad, e⟩ := HIN.out.rad hj
              have BT := BX.out.trans (R.B.mono BX.out.size)
              obtain ⟨f0, f1, f2, f3⟩ := HIN.out.rcell e hj BT
              have HD := Lib.hid (drop_rev c.rs hj)
              rw [rAt_get hj] at f0 f1 f2 f3
              obtain ⟨x, hx⟩ : ∃ x, c.rs[j] = x := ⟨_, rfl⟩
              rw [hx] at f0 f1 f2 f3
              have HX := Lib.hid hx
              clear hx
              obtain ⟨v0, v1, v2⟩ := VV.out _ R.B
              have x0 : wr.cell? ⟨XB, 1, none⟩ = some vr := R.cell 1
              rw [e] at v1
              clear e v0 v2 BT
              have RR := Lib.hid R
              have x0a : (wr.alloc (.cells #[.string x.listen, .string x.host, .string x.path, .string x.cluster] 36)).cell? ⟨XB, 1, none⟩ = some vr := ((boxed wr _).cell (p := ⟨XB, 1, none⟩) (block_lt RR.out.box)).trans x0
              clear R
              go_wp2_with fail
              go_region_law (refine step_append_one4 rfl (.tmp 59) (.tmp 65) 23 rfl ir (.agg #[.string ⟨#[]⟩, .string ⟨#[]⟩, .string ⟨#[]⟩, .string ⟨#[]⟩]) 64 Try.underlying23 IR.out rfl (by simp [Act.eval, Act.put]) _ _ _ _ _ (by simp [Value.oneCell']) RR.out.drew.r (by simp [Act.eval, Act.put]) (by simp [maxLen]; omega) (by simp; omega) (by exact RR.out.drew.B.size) ?_; intro v' w4 ho hg; obtain ⟨A4, n4, c4, rfl⟩ := own_form ho.2; have c0 : w4.cell? ⟨XB, 1, none⟩ = some vr := block_cell (RR.out.drew.grown1 hg) 1; have z0 := block_free (RR.out.drew.grown1 hg) 1)
              all_goals
                have R5 := RR.out.drew.setR (rs' := (c.rs.drop j).reverse) hg (by rw [HD.out, List.map_append, HX.out]; exact ho)
                clear c0 z0 ho hg
                go_wp2_with fail
                go_roundg j
                case measure => omega
                case rel => exact ⟨j, by omega, rfl, by go_num, _, R5⟩
        · have hj : j < c.cs.length := by omega
          have ez : ((j + 1 : Nat) : Int) - 1 = (j : Int) := by omega
          rw [ez]
          clear ez
          obtain ⟨ad, e⟩ := HIN.out.cad hj
          have BT := BX.out.trans (R.B.mono BX.out.size)
          obtain ⟨f0, f1, f2, f3⟩ := HIN.out.ccell e hj BT
          have HD := Lib.hid (drop_rev c.cs hj)
          rw [cAt_get hj] at f0 f1 f2 f3
          obtain ⟨x, hx⟩ : ∃ x, c.cs[j] = x := ⟨_, rfl⟩
          rw [hx] at f0 f1 f2 f3
          have HX := Lib.hid hx
          clear hx
          obtain ⟨v0, v1, v2⟩ := VV.out _ R.B
          have x0 : wr.cell? ⟨XB, 2, none⟩ = some vc := R.cell 2
          rw [e] at v2
          clear e v0 v1 BT
          have RR := Lib.hid R
          have x0a : (wr.alloc (.cells #[.string x.name, .int .i64 x.policy, .int .i64 x.slots, .slice x.ha x.hn x.hc] 34)).cell? ⟨XB, 2, none⟩ = some vc := ((boxed wr _).cell (p := ⟨XB, 2, none⟩) (block_lt RR.out.box)).trans x0
          clear R
          go_wp2_with fail
          go_region_law (refine step_append_one4 rfl (.tmp 41) (.tmp 47) 24 rfl ic (.agg #[.string ⟨#[]⟩, .int .i64 0, .int .i64 0, .slice none 0 0]) 56 Try.underlying24 IC.out rfl (by simp [Act.eval, Act.put]) _ _ _ _ _ (by simp [Value.oneCell']) RR.out.drew.c (by simp [Act.eval, Act.put]) (by simp [maxLen]; omega) (by simp; omega) (by exact RR.out.drew.B.size) ?_; intro v' w4 ho hg; obtain ⟨A4, n4, c4, rfl⟩ := own_form ho.2; have c0 : w4.cell? ⟨XB, 2, none⟩ = some vc := block_cell (RR.out.drew.grown2 hg) 2; have z0 := block_free (RR.out.drew.grown2 hg) 2)
          all_goals
            have R5 := RR.out.drew.setC (cs' := (c.cs.drop j).reverse) hg (by rw [HD.out, List.map_append, HX.out]; exact ho)
            clear c0 z0 ho hg
            go_wp2_with fail
            go_roundg j
            case measure => omega
            case rel => exact ⟨j, by omega, rfl, by go_num, _, R5⟩
    · have hj : j < c.ls.length := by omega
      have ez : ((j + 1 : Nat) : Int) - 1 = (j : Int) := by omega
      rw [ez]
      clear ez
      obtain ⟨ad, e⟩ := HIN.out.lad hj
      have BT := BX.out.trans (R.B.mono BX.out.size)
      have f0 := HIN.out.lcell e hj BT
      obtain ⟨v0, v1, v2⟩ := VV.out _ R.B
      have x0 : wr.cell? ⟨XB, 0, none⟩ = some vl := R.cell 0
      rw [e] at v0
      clear e v1 v2
      have RR := Lib.hid R
      go_wp2_with fail
      have x0a : (wr.alloc (.cells #[.string (lAt c.ls j)] 9)).cell? ⟨XB, 0, none⟩ = some vl := ((boxed wr _).cell (p := ⟨XB, 0, none⟩) (block_lt RR.out.box)).trans x0
      clear R
      go_region_law (refine step_append_one rfl (.tmp 23) (.tmp 29) 22 rfl il (.string ⟨#[]⟩) 16 Try.underlying22 IL.out rfl (by simp [Act.eval, Act.put]) _ _ (by rfl) RR.out.drew.l (by simp [Act.eval, Act.put]) (by simp [maxLen]; omega) (by simp; omega) (by exact RR.out.drew.B.size) ?_; intro v' w4 ho hg; obtain ⟨A4, n4, c4, rfl⟩ := own_form ho; have c0 : w4.cell? ⟨XB, 0, none⟩ = some vl := block_cell (RR.out.drew.grown0 hg) 0; have z0 := block_free (RR.out.drew.grown0 hg) 0)
      all_goals
        have R5 := RR.out.drew.setL (ls' := (c.ls.drop j).reverse) hg (by rw [drop_rev _ hj, List.map_append, ← lAt_get hj]; exact ho)
        clear c0 z0 ho hg
        go_wp2_with fail
        go_roundg j
        case measure => omega
        case rel => exact ⟨j, by omega, rfl, by go_num, _, R5⟩
end Go.Proofs.Ytlaibkinkopkiaa
