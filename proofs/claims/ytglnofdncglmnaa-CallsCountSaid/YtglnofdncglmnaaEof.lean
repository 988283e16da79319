/- The document's Of of layer 10. -/
import Derived.Test.YtglnofdncglmnaaEref
import Derived.Test.YtglnofdncglmnaaEtail
namespace Go.Proofs.Ytglnofdncglmnaa
open Go.RowKit
set_option linter.unusedVariables false
set_option linter.unusedSimpArgs false
set_option maxRecDepth 100000

/-- The call answers the calls of a trace, or an error's number. -/
def Traced (w : World) (r : Option (List Cal)) (e : Ending) (w' : World) : Prop := Below w.heap.size w w' ∧ match r with
  | none => e = .returned (.tuple #[.slice none 0 0, .int .i64 11])
  | some c => ∃ A cap, e = .returned (.tuple #[.slice A c.length cap, .int .i64 0]) ∧ CalsIn w' A cap c
theorem Traced.no {w w' : World} (h : Below w.heap.size w w') : Traced w none (.returned (.tuple #[.slice none 0 0, .int .i64 11])) w' := ⟨h, rfl⟩
theorem OutsN.traced {w w' : World} {out : Value} {c : List Cal} (h : OutsN 18 40 w w' out (c.map Cal.cells)) : Traced w (some c) (.returned (.tuple #[out, .int .i64 0])) w' := by
  obtain ⟨A, cap, rfl, h1, h2⟩ := h.2.slice
  have := h.2.rows
  rw [List.length_map] at h1 ⊢
  exact ⟨h.below, A, cap, rfl, this, h1, h2⟩

section
variable {cl : List Cal} {x : Ev} {y : Cal} {k j : Nat}
theorem step_no1 (hp : placeO cl x.thread x.op = some j) (hb : x.begin = true) : ofStep cl k x = none := by
  obtain ⟨c, hc, _⟩ := place_some hp
  unfold ofStep
  rw [hp]
  simp only [hc]
  rw [if_pos (.inl hb)]
theorem step_no2 (hp : placeO cl x.thread x.op = none) (hb : x.begin = false) : ofStep cl k x = none := by
  unfold ofStep
  rw [hp]
  simp only
  rw [if_pos (.inl hb)]
theorem step_no3 (hp : placeO cl x.thread x.op = none) (ho : cl.any (openB x.thread) = true) : ofStep cl k x = none := by
  unfold ofStep
  rw [hp]
  simp only
  rw [if_pos (.inr ho)]
theorem step_new (hp : placeO cl x.thread x.op = none) (hb : x.begin = true) (ho : cl.any (openB x.thread) = false) : ofStep cl k x = some ((cl ++ [Cal.new x k]).set cl.length ((Cal.new x k).mark k x)) := by
  unfold ofStep
  rw [hp]
  simp only
  rw [if_neg (by rw [hb, ho]; simp), List.set_append_right _ _ (Nat.le_refl _), Nat.sub_self]
  rfl
theorem step_no4 (hp : placeO cl x.thread x.op = some j) (hy : cl[j]? = some y) (ht : 0 ≤ y.to) : ofStep cl k x = none := by
  unfold ofStep
  rw [hp]
  simp only [hy]
  rw [if_pos (.inr ht)]
theorem step_old (hp : placeO cl x.thread x.op = some j) (hy : cl[j]? = some y) (hb : x.begin = false) (ht : y.to < 0) : ofStep cl k x = some (cl.set j (y.mark k x)) := by
  unfold ofStep
  rw [hp]
  simp only [hy]
  rw [if_neg (by rw [hb]; simp; omega)]
theorem placeI_some (hp : placeO cl x.thread x.op = some j) : placeI cl x.thread x.op = (j : Int) := by unfold placeI; rw [hp]
theorem placeI_none (hp : placeO cl x.thread x.op = none) : placeI cl x.thread x.op = -1 := by unfold placeI; rw [hp]
theorem of_stop {l : List Ev} (hk : k < l.length) (h : ofTo l (k + 1) = none) : ofL l = none := by
  have := ofTo_stop h (l.length - (k + 1))
  rwa [show k + 1 + (l.length - (k + 1)) = l.length by omega] at this
end

set_option maxHeartbeats 16000000 in
theorem rof_is (A : Option Addr) (c : Nat) (l : List Ev) (w : World) (hin : EvsIn w A c l) (hl : l.length ≤ 1000) :
    Calls Try.prog 9 #[.slice A l.length c] w (Traced w (ofL l)) := by
  have HIN := Lib.hid hin
  clear hin
  obtain ⟨ic, hic, hc0, hc1, hc2⟩ := info_parts (show (Try.prog.info? 40).map (fun i => (i.zero, i.size, i.bytes)) = some (some (.agg #[.int .i64 0, .int .i64 0, .int .i64 0, .int .i64 0, .int .i64 0, .int .i64 0, .int .i64 0, .int .i64 0, .int .i64 0, .int .i64 0, .int .i64 0, .int .i64 0, .int .u64 0, .int .u64 0, .int .u64 0, .int .u64 0, .int .u64 0, .int .u64 0]), 18, 144) by kernel_rfl)
  have IC := Lib.hid (⟨hic, hc0, hc1, hc2⟩ : _ ∧ _ ∧ _ ∧ _)
  clear hic hc0 hc1 hc2
  have HNEW : Hid (∀ (x : Ev) (k : Nat), ∀ u ∈ (Cal.new x k).cells, u.oneCell' = true) := Lib.hid fun x k u hu => by
    simp [Cal.new, Cal.cells, An.zero, An.cells] at hu
    rcases hu with rfl | rfl | rfl | rfl | rfl | rfl | rfl | rfl | rfl | rfl | rfl | rfl | rfl | rfl | rfl | rfl | rfl | rfl <;> rfl
  have HSA : Hid ((Try.prog.info? 38).map (·.size) = some 13) := Lib.hid (by kernel_rfl)
  have HON : Hid (∀ a : An, a.cells.toArray.all (·.oneCell') = true) := Lib.hid fun a => by simp [An.cells, Value.oneCell']
  have S : OutsN 18 40 w (w.alloc (.cells #[] 40)) (.slice (some ⟨w.heap.size, 0, none⟩) 0 0) (List.map Cal.cells []) := ⟨World.grownBy_alloc _ _ _, OwnN.empty (Nat.le_refl _)⟩
  go_enter Try.func9, Try.ntmps9
  go_wp2_with fail
  go_loopg [4, 5, 7] l.length (fun g out i kk wr => ∃ k : Nat, k ≤ l.length ∧ g = l.length - k ∧ i = .int .i64 k ∧ ∃ cl, ofTo l k = some cl ∧ cl.length ≤ k ∧ OutsN 18 40 w wr out (cl.map Cal.cells))
  case atStart => exact ⟨0, Nat.zero_le _, rfl, rfl, [], rfl, Nat.le_refl _, S⟩
  case round =>
    clear S
    obtain ⟨k, hk, rfl, rfl, cl, hcl, hck, S⟩ := hrel
    by_cases hlt : k < l.length
    · have HC := Lib.hid hcl
      have hnx := ofTo_next hcl hlt
      obtain ⟨ad, rfl, hadb, hli⟩ := HIN.out.ev hlt
      have hli := hli.below (by rw [block_of_add]; exact hadb) S.below
      obtain ⟨x, hx⟩ : ∃ x, l[k] = x := ⟨_, rfl⟩
      rw [hx] at hli hnx
      have HNX := Lib.hid hnx
      have hld : (Instr.loadAt 43 (.pointer (some (ad.add (k * 23))))).run Try.prog wr = .ok (.agg x.cells.toArray) wr := run_load_list _ _ x.cells (by rw [Try.isAgg43]) (by rw [Try.sizeOf43]; rfl) hli
      have HLD := Lib.hid hld
      obtain ⟨W1, hW1⟩ : ∃ W1, wr.alloc (.cells x.cells.toArray 43) = W1 := ⟨_, rfl⟩
      have hst : (Instr.storeAt 43 (.pointer (some ⟨wr.heap.size, 0, none⟩)) (.agg x.cells.toArray)).run Try.prog (wr.alloc (.cells #[.int .i64 0, .int .i64 0, .int .i64 0, .int .i64 0, .int .i64 0, .bool false, .int .i64 0, .bool false, .bool false, .bool false, .int .i64 0, .int .i64 0, .int .i64 0, .int .i64 0, .int .i64 0, .int .i64 0, .int .i64 0, .int .u64 0, .int .u64 0, .int .u64 0, .int .u64 0, .int .u64 0, .int .u64 0] 43)) = .ok () W1 := (run_store_new wr 43 _ x.cells.toArray (show (Try.prog.info? 43).map (·.size) = some 23 by kernel_rfl) (by rfl) (by simp [Ev.cells, An.cells, Value.oneCell'])).trans (by rw [hW1])
      have HST := Lib.hid hst
      have hbox : BoxAt 43 W1 wr.heap.size x.cells := by rw [← hW1]; exact heap_alloc_last wr _
      have S1 : OutsN 18 40 w W1 _ (cl.map Cal.cells) := hW1 ▸ S.alloc _
      have hxb : w.heap.size ≤ wr.heap.size := S.below.size
      obtain ⟨A', c', e, hc1, hc2⟩ := S.2.slice
      rw [List.length_map] at e hc1
      subst e
      have hgo := S1.2.rows
      have hpl := rplace_is A' c' _ cl x.thread x.op W1 hgo (by omega)
      have hbu := rbusy_is A' c' _ cl x.thread W1 hgo (by omega)
      obtain ⟨f0, f1, _, _, _, _, _, f7, x8, x9, _⟩ := ev_at hbox.lies
      clear x8 x9
      have HBOX := Lib.hid hbox
      have HS1 := Lib.hid S1
      have HBU := Lib.hid hbu
      obtain ⟨b, hb⟩ : ∃ b, x.begin = b := ⟨_, rfl⟩
      obtain ⟨o, ho⟩ : ∃ o, cl.any (openB x.thread) = o := ⟨_, rfl⟩
      rw [hb] at f7
      have HBB := Lib.hid hb
      have HOO := Lib.hid ho
      rw [ho] at HBU
      clear hli hnx hld hst hW1 hbox S S1 hgo hbu hx hcl hb ho
      go_wp2_with (first | (refine wpList_load rfl (.tmp 17) 43 rfl _ _ _ rfl HLD.out ?_) | (refine wpList_store rfl (.tmp 6) (.tmp 18) 43 rfl _ W1 (.pointer (some ⟨wr.heap.size, 0, none⟩)) (.agg x.cells.toArray) rfl rfl HST.out ?_))
      refine hpl.mono ?_
      rintro e w' ⟨rfl, rfl⟩
      clear hpl
      rcases hp : placeO cl x.thread x.op with _ | j
      · rw [placeI_none hp]
        have HP := Lib.hid hp
        clear hp
        cases b with
        | false =>
          have HF : Hid (ofL l = none) := Lib.hid (of_stop hlt (by rw [HNX.out]; exact step_no2 HP.out HBB.out))
          have HBE : Hid (Below w.heap.size w w') := Lib.hid HS1.out.below
          go_wp2_with fail
          go_ret2
          rw [HF.out]
          exact Traced.no HBE.out
        | true =>
          have hbu := HBU.out
          go_wp2_with fail
          refine hbu.mono ?_
          rintro e w'' ⟨rfl, rfl⟩
          clear hbu
          cases o with
          | true =>
            have HF : Hid (ofL l = none) := Lib.hid (of_stop hlt (by rw [HNX.out]; exact step_no3 HP.out HOO.out))
            have HBE : Hid (Below w.heap.size w w'') := Lib.hid HS1.out.below
            go_wp2_with fail
            go_ret2
            rw [HF.out]
            exact Traced.no HBE.out
          | false =>
            have HSTEP : Hid (ofTo l (k + 1) = some ((cl ++ [Cal.new x k]).set cl.length ((Cal.new x k).mark k x))) := Lib.hid (by rw [HNX.out]; exact step_new HP.out HBB.out HOO.out)
            have tj : decide ((cl.length : Int) < 0) = false := by rw [decide_eq_false_iff_not]; omega
            rcases h8 : x.point with _ | _ <;> rcases h9 : x.done with _ | _
            · go_wp2_with (at_builtin; refine wpList_append_oneN rfl (.tmp 37) (.tmp 44) 23 rfl ic _ 144 Try.underlying23 IC.out rfl (by omega) rfl _ (Cal.new x k).cells rfl (HNEW.out _ _) HS1.out.2 rfl (by rw [List.length_map]; simp [maxLen]; omega) (by rw [List.length_map]; omega) HS1.out.1.size ?_; intro out' w4 ho hg; have S2 := HS1.out.app (ss := (cl ++ [Cal.new x k]).map Cal.cells) (by simpa using ho) hg; have HB2 := HBOX.out.grown hg (HBOX.out.apart HS1.out (by decide)); obtain ⟨g, cap, e, _, _, _⟩ := S2.head (by simp); rw [show ((cl ++ [Cal.new x k]).map Cal.cells).length = cl.length + 1 by simp] at e; subst e; obtain ⟨c4, f8, f9, S5⟩ := tail_ff (k := k) (j := cl.length) (y := Cal.new x k) S2 HB2 (by simp) (by simp) h8 h9; have c4 : w4.cell? ⟨g, cl.length * 18 + 4, none⟩ = some (Value.int .i64 (-1)) := c4; have HS5 := Lib.hid S5; clear S5 S2 HB2 ho hg)
              go_roundg (l.length - (k + 1))
              case measure => omega
              case rel => exact ⟨k + 1, by omega, rfl, by go_num, _, HSTEP.out, by simp; omega, HS5.out⟩
            · go_wp2_with (first | (at_builtin; refine wpList_append_oneN rfl (.tmp 37) (.tmp 44) 23 rfl ic _ 144 Try.underlying23 IC.out rfl (by omega) rfl _ (Cal.new x k).cells rfl (HNEW.out _ _) HS1.out.2 rfl (by rw [List.length_map]; simp [maxLen]; omega) (by rw [List.length_map]; omega) HS1.out.1.size ?_; intro out' w4 ho hg; have S2 := HS1.out.app (ss := (cl ++ [Cal.new x k]).map Cal.cells) (by simpa using ho) hg; have HB2 := HBOX.out.grown hg (HBOX.out.apart HS1.out (by decide)); obtain ⟨g, cap, e, _, _, _⟩ := S2.head (by simp); rw [show ((cl ++ [Cal.new x k]).map Cal.cells).length = cl.length + 1 by simp] at e; subst e; obtain ⟨c4, f8, f9, z4, th4, p10, S5⟩ := tail_ft (k := k) (j := cl.length) (y := Cal.new x k) S2 HB2 (by simp) (by simp) h8 h9; have c4 : w4.cell? ⟨g, cl.length * 18 + 4, none⟩ = some (Value.int .i64 (-1)) := c4; have hl := run_loadAt_mid (P := Try.prog) _ _ _ 38 _ _ p10 Try.underlying38 rfl HSA.out; have hs := run_storeAt_mid (P := Try.prog) _ _ _ 38 x.ans.cells.toArray th4 HSA.out (HON.out _); obtain ⟨W5, hW5⟩ : ∃ W5, (w4.setCell ⟨g, cl.length * 18 + 4, none⟩ (.int .i64 (k : Int))).setCells g (cl.length * 18 + 5) x.ans.cells = W5 := ⟨_, rfl⟩; rw [hW5] at S5; have HL : Hid ((Instr.loadAt 38 (.pointer (some ⟨wr.heap.size, 10, none⟩))).run Try.prog (w4.setCell ⟨g, cl.length * 18 + 4, none⟩ (.int .i64 (k : Int))) = .ok (.agg x.ans.cells.toArray) (w4.setCell ⟨g, cl.length * 18 + 4, none⟩ (.int .i64 (k : Int)))) := Lib.hid hl; have HSS : Hid ((Instr.storeAt 38 (.pointer (some ⟨g, cl.length * 18 + 5, none⟩)) (.agg x.ans.cells.toArray)).run Try.prog (w4.setCell ⟨g, cl.length * 18 + 4, none⟩ (.int .i64 (k : Int))) = .ok () W5) := Lib.hid (by rw [← hW5]; exact hs); clear hl hs th4 p10 hW5; have HS5 := Lib.hid S5; clear S5 S2 HB2 ho hg) | (refine wpList_load rfl (.tmp 72) 38 rfl _ _ _ rfl HL.out ?_) | (refine wpList_store rfl (.tmp 75) (.tmp 73) 38 rfl _ W5 (.pointer (some ⟨g, cl.length * 18 + 5, none⟩)) (.agg x.ans.cells.toArray) rfl rfl HSS.out ?_))
              go_roundg (l.length - (k + 1))
              case measure => omega
              case rel => exact ⟨k + 1, by omega, rfl, by go_num, _, HSTEP.out, by simp; omega, HS5.out⟩
            · go_wp2_with (at_builtin; refine wpList_append_oneN rfl (.tmp 37) (.tmp 44) 23 rfl ic _ 144 Try.underlying23 IC.out rfl (by omega) rfl _ (Cal.new x k).cells rfl (HNEW.out _ _) HS1.out.2 rfl (by rw [List.length_map]; simp [maxLen]; omega) (by rw [List.length_map]; omega) HS1.out.1.size ?_; intro out' w4 ho hg; have S2 := HS1.out.app (ss := (cl ++ [Cal.new x k]).map Cal.cells) (by simpa using ho) hg; have HB2 := HBOX.out.grown hg (HBOX.out.apart HS1.out (by decide)); obtain ⟨g, cap, e, _, _, _⟩ := S2.head (by simp); rw [show ((cl ++ [Cal.new x k]).map Cal.cells).length = cl.length + 1 by simp] at e; subst e; obtain ⟨c4, f8, c3, z3, g9, S5⟩ := tail_tf (k := k) (j := cl.length) (y := Cal.new x k) S2 HB2 (by simp) (by simp) h8 h9; have c4 : w4.cell? ⟨g, cl.length * 18 + 4, none⟩ = some (Value.int .i64 (-1)) := c4; have HS5 := Lib.hid S5; clear S5 S2 HB2 ho hg)
              go_roundg (l.length - (k + 1))
              case measure => omega
              case rel => exact ⟨k + 1, by omega, rfl, by go_num, _, HSTEP.out, by simp; omega, HS5.out⟩
            · go_wp2_with (first | (at_builtin; refine wpList_append_oneN rfl (.tmp 37) (.tmp 44) 23 rfl ic _ 144 Try.underlying23 IC.out rfl (by omega) rfl _ (Cal.new x k).cells rfl (HNEW.out _ _) HS1.out.2 rfl (by rw [List.length_map]; simp [maxLen]; omega) (by rw [List.length_map]; omega) HS1.out.1.size ?_; intro out' w4 ho hg; have S2 := HS1.out.app (ss := (cl ++ [Cal.new x k]).map Cal.cells) (by simpa using ho) hg; have HB2 := HBOX.out.grown hg (HBOX.out.apart HS1.out (by decide)); obtain ⟨g, cap, e, _, _, _⟩ := S2.head (by simp); rw [show ((cl ++ [Cal.new x k]).map Cal.cells).length = cl.length + 1 by simp] at e; subst e; obtain ⟨c4, f8, c3, z3, g9, d4, y4, th4, p10, S5⟩ := tail_tt (k := k) (j := cl.length) (y := Cal.new x k) S2 HB2 (by simp) (by simp) h8 h9; have c4 : w4.cell? ⟨g, cl.length * 18 + 4, none⟩ = some (Value.int .i64 (-1)) := c4; have hl := run_loadAt_mid (P := Try.prog) _ _ _ 38 _ _ p10 Try.underlying38 rfl HSA.out; have hs := run_storeAt_mid (P := Try.prog) _ _ _ 38 x.ans.cells.toArray th4 HSA.out (HON.out _); obtain ⟨W5, hW5⟩ : ∃ W5, ((w4.setCell ⟨g, cl.length * 18 + 3, none⟩ (.int .i64 (k : Int))).setCell ⟨g, cl.length * 18 + 4, none⟩ (.int .i64 (k : Int))).setCells g (cl.length * 18 + 5) x.ans.cells = W5 := ⟨_, rfl⟩; rw [hW5] at S5; have HL : Hid ((Instr.loadAt 38 (.pointer (some ⟨wr.heap.size, 10, none⟩))).run Try.prog ((w4.setCell ⟨g, cl.length * 18 + 3, none⟩ (.int .i64 (k : Int))).setCell ⟨g, cl.length * 18 + 4, none⟩ (.int .i64 (k : Int))) = .ok (.agg x.ans.cells.toArray) ((w4.setCell ⟨g, cl.length * 18 + 3, none⟩ (.int .i64 (k : Int))).setCell ⟨g, cl.length * 18 + 4, none⟩ (.int .i64 (k : Int)))) := Lib.hid hl; have HSS : Hid ((Instr.storeAt 38 (.pointer (some ⟨g, cl.length * 18 + 5, none⟩)) (.agg x.ans.cells.toArray)).run Try.prog ((w4.setCell ⟨g, cl.length * 18 + 3, none⟩ (.int .i64 (k : Int))).setCell ⟨g, cl.length * 18 + 4, none⟩ (.int .i64 (k : Int))) = .ok () W5) := Lib.hid (by rw [← hW5]; exact hs); clear hl hs th4 p10 hW5; have HS5 := Lib.hid S5; clear S5 S2 HB2 ho hg) | (refine wpList_load rfl (.tmp 72) 38 rfl _ _ _ rfl HL.out ?_) | (refine wpList_store rfl (.tmp 75) (.tmp 73) 38 rfl _ W5 (.pointer (some ⟨g, cl.length * 18 + 5, none⟩)) (.agg x.ans.cells.toArray) rfl rfl HSS.out ?_))
              go_roundg (l.length - (k + 1))
              case measure => omega
              case rel => exact ⟨k + 1, by omega, rfl, by go_num, _, HSTEP.out, by simp; omega, HS5.out⟩
      · rw [placeI_some hp]
        obtain ⟨y, hy, _, _⟩ := place_some hp
        have hjl : j < cl.length := (List.getElem?_eq_some_iff.1 hy).1
        have HP := Lib.hid hp
        have HY := Lib.hid hy
        clear hp hy
        cases b with
        | true =>
          have HF : Hid (ofL l = none) := Lib.hid (of_stop hlt (by rw [HNX.out]; exact step_no1 HP.out HBB.out))
          have HBE : Hid (Below w.heap.size w w') := Lib.hid HS1.out.below
          go_wp2_with fail
          go_ret2
          rw [HF.out]
          exact Traced.no HBE.out
        | false =>
          obtain ⟨g, cap, e, _, _, _⟩ := HS1.out.head (by rw [List.length_map]; omega)
          rw [List.length_map] at e
          injection e with e1 _ e3
          subst e1 e3
          have hyj : cl[j] = y := by have := HY.out; rw [List.getElem?_eq_getElem hjl] at this; injection this
          have tj : decide ((j : Int) < 0) = false := by rw [decide_eq_false_iff_not]; omega
          by_cases hto : 0 ≤ y.to
          · have HF : Hid (ofL l = none) := Lib.hid (of_stop hlt (by rw [HNX.out]; exact step_no4 HP.out HY.out hto))
            have HBE : Hid (Below w.heap.size w w') := Lib.hid HS1.out.below
            have tt : decide (0 ≤ y.to) = true := decide_eq_true hto
            obtain ⟨_, c4, _⟩ := tail_at HS1.out HBOX.out hjl
            rw [hyj] at c4
            clear hyj
            go_wp2_with fail
            go_ret2
            rw [HF.out]
            exact Traced.no HBE.out
          · have tt : decide (0 ≤ y.to) = false := decide_eq_false hto
            have HSTEP : Hid (ofTo l (k + 1) = some (cl.set j (y.mark k x))) := Lib.hid (by rw [HNX.out]; exact step_old HP.out HY.out HBB.out (by omega))
            rcases h8 : x.point with _ | _ <;> rcases h9 : x.done with _ | _
            · obtain ⟨c4, f8, f9, S5⟩ := tail_ff (k := k) HS1.out HBOX.out hjl hyj h8 h9
              have HS5 := Lib.hid S5
              clear S5 h8 h9 hyj
              go_wp2_with (fail)
              go_roundg (l.length - (k + 1))
              case measure => omega
              case rel => exact ⟨k + 1, by omega, rfl, by go_num, _, HSTEP.out, by rw [List.length_set]; omega, HS5.out⟩
            · obtain ⟨c4, f8, f9, z4, th4, p10, S5⟩ := tail_ft (k := k) HS1.out HBOX.out hjl hyj h8 h9
              have hl := run_loadAt_mid (P := Try.prog) _ _ _ 38 _ _ p10 Try.underlying38 rfl HSA.out
              have hs := run_storeAt_mid (P := Try.prog) _ _ _ 38 x.ans.cells.toArray th4 HSA.out (HON.out _)
              obtain ⟨W5, hW5⟩ : ∃ W5, (w'.setCell ⟨g, j * 18 + 4, none⟩ (.int .i64 (k : Int))).setCells g (j * 18 + 5) x.ans.cells = W5 := ⟨_, rfl⟩
              rw [hW5] at S5
              have HL : Hid ((Instr.loadAt 38 (.pointer (some ⟨wr.heap.size, 10, none⟩))).run Try.prog (w'.setCell ⟨g, j * 18 + 4, none⟩ (.int .i64 (k : Int))) = .ok (.agg x.ans.cells.toArray) (w'.setCell ⟨g, j * 18 + 4, none⟩ (.int .i64 (k : Int)))) := Lib.hid hl
              have HSS : Hid ((Instr.storeAt 38 (.pointer (some ⟨g, j * 18 + 5, none⟩)) (.agg x.ans.cells.toArray)).run Try.prog (w'.setCell ⟨g, j * 18 + 4, none⟩ (.int .i64 (k : Int))) = .ok () W5) := Lib.hid (by rw [← hW5]; exact hs)
              clear hl hs th4 p10 hW5
              have HS5 := Lib.hid S5
              clear S5 h8 h9 hyj
              go_wp2_with (first | (refine wpList_load rfl (.tmp 72) 38 rfl _ _ _ rfl HL.out ?_) | (refine wpList_store rfl (.tmp 75) (.tmp 73) 38 rfl _ W5 (.pointer (some ⟨g, j * 18 + 5, none⟩)) (.agg x.ans.cells.toArray) rfl rfl HSS.out ?_))
              go_roundg (l.length - (k + 1))
              case measure => omega
              case rel => exact ⟨k + 1, by omega, rfl, by go_num, _, HSTEP.out, by rw [List.length_set]; omega, HS5.out⟩
            · obtain ⟨c4, f8, c3, z3, g9, S5⟩ := tail_tf (k := k) HS1.out HBOX.out hjl hyj h8 h9
              have HS5 := Lib.hid S5
              clear S5 h8 h9 hyj
              go_wp2_with (fail)
              go_roundg (l.length - (k + 1))
              case measure => omega
              case rel => exact ⟨k + 1, by omega, rfl, by go_num, _, HSTEP.out, by rw [List.length_set]; omega, HS5.out⟩
            · obtain ⟨c4, f8, c3, z3, g9, d4, y4, th4, p10, S5⟩ := tail_tt (k := k) HS1.out HBOX.out hjl hyj h8 h9
              have hl := run_loadAt_mid (P := Try.prog) _ _ _ 38 _ _ p10 Try.underlying38 rfl HSA.out
              have hs := run_storeAt_mid (P := Try.prog) _ _ _ 38 x.ans.cells.toArray th4 HSA.out (HON.out _)
              obtain ⟨W5, hW5⟩ : ∃ W5, ((w'.setCell ⟨g, j * 18 + 3, none⟩ (.int .i64 (k : Int))).setCell ⟨g, j * 18 + 4, none⟩ (.int .i64 (k : Int))).setCells g (j * 18 + 5) x.ans.cells = W5 := ⟨_, rfl⟩
              rw [hW5] at S5
              have HL : Hid ((Instr.loadAt 38 (.pointer (some ⟨wr.heap.size, 10, none⟩))).run Try.prog ((w'.setCell ⟨g, j * 18 + 3, none⟩ (.int .i64 (k : Int))).setCell ⟨g, j * 18 + 4, none⟩ (.int .i64 (k : Int))) = .ok (.agg x.ans.cells.toArray) ((w'.setCell ⟨g, j * 18 + 3, none⟩ (.int .i64 (k : Int))).setCell ⟨g, j * 18 + 4, none⟩ (.int .i64 (k : Int)))) := Lib.hid hl
              have HSS : Hid ((Instr.storeAt 38 (.pointer (some ⟨g, j * 18 + 5, none⟩)) (.agg x.ans.cells.toArray)).run Try.prog ((w'.setCell ⟨g, j * 18 + 3, none⟩ (.int .i64 (k : Int))).setCell ⟨g, j * 18 + 4, none⟩ (.int .i64 (k : Int))) = .ok () W5) := Lib.hid (by rw [← hW5]; exact hs)
              clear hl hs th4 p10 hW5
              have HS5 := Lib.hid S5
              clear S5 h8 h9 hyj
              go_wp2_with (first | (refine wpList_load rfl (.tmp 72) 38 rfl _ _ _ rfl HL.out ?_) | (refine wpList_store rfl (.tmp 75) (.tmp 73) 38 rfl _ W5 (.pointer (some ⟨g, j * 18 + 5, none⟩)) (.agg x.ans.cells.toArray) rfl rfl HSS.out ?_))
              go_roundg (l.length - (k + 1))
              case measure => omega
              case rel => exact ⟨k + 1, by omega, rfl, by go_num, _, HSTEP.out, by rw [List.length_set]; omega, HS5.out⟩
    · obtain rfl : k = l.length := by omega
      have HF : Hid (ofL l = some cl) := Lib.hid hcl
      go_wp2_with fail
      go_ret2
      rw [HF.out]
      exact S.traced
end Go.Proofs.Ytglnofdncglmnaa
