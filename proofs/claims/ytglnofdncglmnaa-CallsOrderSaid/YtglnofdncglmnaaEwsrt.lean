/- The landed calls.go: Order. -/
import Derived.Test.YtglnofdncglmnaaEwcmp
import Derived.Test.YtglnofdncglmnaaUpto
import Derived.Test.YtglnofdncglmnaaErow
namespace Go.Proofs.Ytglnofdncglmnaa
open Go.RowKit Go.Shelf Go.Lib
set_option linter.unusedVariables false
set_option linter.unusedSimpArgs false
set_option maxRecDepth 100000

theorem encE_len (l : List (Int × Nat)) : ∀ r ∈ l.map encE, r.length = 2 := fun r hr => by
  obtain ⟨x, _, rfl⟩ := List.mem_map.1 hr
  rfl
theorem sortK_grown (W : World) (g n : Nat) (d : Array (Int × Nat)) (os : Array Obj) : W.grownBy (sortWorldK encE 2 W g 0 n d os) (some g) := by
  refine ⟨rfl, rfl, rfl, ?_, fun k hk hne => ?_⟩
  · unfold sortWorldK
    rw [Sort.size_grow, Sort.size_putRowK]
    exact Nat.le_add_right _ _
  · unfold sortWorldK
    have hs : k < (Sort.putRowK encE 2 (Sort.ahead W n) g 0 d).heap.size := by rw [Sort.size_putRowK]; exact hk
    rw [Sort.heap_grow_old _ _ hs]
    unfold Sort.putRowK Sort.putRow Sort.mapBlock
    show (W.heap.modify g _)[k]? = _
    rw [Array.getElem?_modify, if_neg (by intro e; exact hne (by rw [e]))]
theorem holds_own {E base : Nat} {W : World} {g n cap : Nat} {l : List (Int × Nat)} (h : OwnN 2 E base W (.slice (some ⟨g, 0, none⟩) n cap) (l.map encE)) : Sort.HoldsK encE 2 W g 0 l.toArray := by
  intro t ht
  rw [Sort.size_flatK, List.size_toArray] at ht
  have hk : t / 2 < l.length := by omega
  have hk' : t / 2 < (l.map encE).length := by rw [List.length_map]; exact hk
  obtain ⟨ad, e, _, hc⟩ := h.rows.lies hk'
  cases e
  have hth := h.there hk' (o := t % 2) (q := 1) (by omega) 0 (by omega)
  have he : 0 + t = t / 2 * 2 + t % 2 := by omega
  rw [Sort.get_flatK _ _ _ _ (by rw [List.size_toArray]; exact ht), he]
  refine ⟨?_, by simpa using hth.2⟩
  have h2 : (encE l[t / 2]).length = 2 := rfl
  have h3 := hc (t % 2) ((encE l[t / 2])[t % 2]'(by omega)) (by rw [List.getElem_map]; exact List.getElem?_eq_getElem _)
  rw [Addr.add_add, Addr.add_lit, Nat.zero_add] at h3
  rw [h3]
  have h4 : l.toArray[t / 2]! = l[t / 2] := by rw [getElem!_pos _ _ (by simpa using hk)]; simp
  rw [h4, getElem!_pos _ _ (by omega)]
  rfl

/-- What the sort leaves of a row of effects. -/
theorem sorted_is (l : List Cal) (k base : Nat) (A : Option Addr) (cap : Nat) (W : World) (h : OwnN 2 54 base W (.slice A (effTo l k).length cap) ((effTo l k).map encE)) (hb : base ≤ W.heap.size) (hk : k ≤ 1000) :
    Calls Try.prog 22 #[.slice A (effTo l k).length cap, .func (.func 23) #[] #[]] W fun e w' => e = .returned (.tuple #[]) ∧ Below base W w' ∧ RowsN 2 w' w'.heap.size A (((ordTo l k).map fun i => (ptAt l i, i)).map encE) := by
  have hel := @eff_len l k
  have hlen : (ordTo l k).length = (effTo l k).length := by have := (@eff_perm l k).length_eq; simpa using this.symm
  by_cases h0 : (effTo l k).length = 0
  · have ho : ordTo l k = [] := List.eq_nil_of_length_eq_zero (by omega)
    rw [ho]
    have hq := AnyF.slices_SortFunc_none Try.sortEff A cap (.func (.func 23) #[] #[]) W
    rw [h0]
    refine Calls.mono hq ?_
    rintro e w' ⟨rfl, rfl⟩
    exact ⟨rfl, Below.refl _ _, fun hn => absurd hn (by simp)⟩
  · obtain ⟨g, cur, rfl, hg, hh, _⟩ := h.blockAt (by rw [List.length_map]; omega)
    have eg : ∀ args w, (callFunc 23 args).run Try.prog w = .ok (.enter 23 args) w := enters_of Try.func23 (by kernel_rfl) rfl
    have hq := AnyQ.slices_SortFunc_total Try.sortEff 2 Try.isAgg54 Try.sizeOf54 encE (fun _ => rfl) (fun x v hv => by simp [encE] at hv; rcases hv with rfl | rfl <;> rfl) cfE swoE 23 #[] g 0 cap (effTo l k).toArray W eg (fun _ _ _ _ x y => against_is x y _) (holds_own h) (block_lt hh) (by simp; omega) partE
    rw [List.size_toArray] at hq
    refine Calls.mono hq ?_
    rintro e w' ⟨rfl, n, os, rfl⟩
    rw [eff_sorted]
    have hgr := sortK_grown W g n ((ordTo l k).map fun i => (ptAt l i, i)).toArray os
    refine ⟨rfl, below_grownBy hgr hb (fun q e => by injection e with e; omega), fun _ => ?_⟩
    have hH := holdsK_sortWorldK_c encE 2 W g 0 (effTo l k).toArray ((ordTo l k).map fun i => (ptAt l i, i)).toArray n os (holds_own h) (block_lt hh) (by simp [hlen])
    refine ⟨_, rfl, Nat.lt_of_lt_of_le (block_lt hh) hgr.size, fun i r hr j v hv => ?_⟩
    rw [List.getElem?_map] at hr
    rcases hx : ((ordTo l k).map fun i => (ptAt l i, i))[i]? with _ | x
    · rw [hx] at hr; cases hr
    · rw [hx] at hr
      injection hr with hr
      subst hr
      have hi := (List.getElem?_eq_some_iff.1 hx).1
      have h4 : ((ordTo l k).map fun i => (ptAt l i, i)).toArray[i]! = x := by
        rw [getElem!_pos _ _ (by simpa using hi)]
        simpa using (List.getElem?_eq_some_iff.1 hx).2
      have h5 := HoldsK.cells hH (fun _ => rfl) (i := i) (by simpa using hi) j v (by rw [h4]; exact hv)
      rw [Nat.zero_add] at h5
      rw [Addr.add_lit] at h5 ⊢
      rw [Nat.zero_add]
      exact h5

theorem cal_info : (Try.prog.info? 40).map (·.size) = some 18 := by kernel_rfl
set_option maxHeartbeats 8000000 in
theorem order_is (A : Option Addr) (c : Nat) (l : List Cal) (w : World) (hin : CalsIn w A c l) (hl : l.length ≤ 1000) :
    Calls Try.prog 14 #[.slice A l.length c] w (Row10 w (natI (orderI l))) := by
  obtain ⟨ib, hib, hb0, hb1, hb2⟩ := info_parts (show (Try.prog.info? 3).map (fun i => (i.zero, i.size, i.bytes)) = some (some (.int .i64 0), 1, 8) by kernel_rfl)
  have IB := Lib.hid (⟨hib, hb0, hb1, hb2⟩ : _ ∧ _ ∧ _ ∧ _)
  obtain ⟨ie, hie, he0, he1, he2⟩ := info_parts (show (Try.prog.info? 54).map (fun i => (i.zero, i.size, i.bytes)) = some (some (.agg #[.int .i64 0, .int .i64 0]), 2, 16) by kernel_rfl)
  have IE := Lib.hid (⟨hie, he0, he1, he2⟩ : _ ∧ _ ∧ _ ∧ _)
  have HIN := Lib.hid hin
  clear hib hb0 hb1 hb2 hie he0 he1 he2 hin
  have S : OutsN 2 54 w w (.slice none 0 0) ((effTo l 0).map encE) := ⟨World.grownBy.refl w none, OwnN.nil⟩
  go_enter Try.func14, Try.ntmps14
  go_wp2_with fail
  go_loopg [3, 4, 11] l.length (fun g out i kk wr => ∃ k : Nat, k ≤ l.length ∧ g = l.length - k ∧ kk = .int .i64 k ∧ OutsN 2 54 w wr out ((effTo l k).map encE))
  case atStart => exact ⟨0, Nat.zero_le _, rfl, rfl, S⟩
  case round =>
    clear S
    obtain ⟨k, hk, rfl, rfl, S⟩ := hrel
    by_cases hlt : k < l.length
    · obtain ⟨ad, e, hadb, hli⟩ := cal_of HIN.out.r hlt
      subst e
      have hli := hli.below (by rw [block_of_add]; exact hadb) S.below
      have hpk : ptAt l k = l[k].point := pt_get (List.getElem?_eq_getElem hlt)
      obtain ⟨x, hx⟩ : ∃ x, l[k] = x := ⟨_, rfl⟩
      rw [hx] at hli hpk
      have HLD : Hid ((Instr.loadAt 40 (.pointer (some (ad.add (k * 18))))).run Try.prog wr = .ok (.agg x.cells.toArray) wr) := Lib.hid (run_load_list _ _ x.cells (by rw [Try.isAgg40]) (by rw [Try.sizeOf40]; rfl) hli)
      obtain ⟨W2, hW2⟩ : ∃ W2, wr.alloc (.cells x.cells.toArray 40) = W2 := ⟨_, rfl⟩
      have HST : Hid ((Instr.storeAt 40 (.pointer (some ⟨wr.heap.size, 0, none⟩)) (.agg x.cells.toArray)).run Try.prog (wr.alloc (.cells #[.int .i64 0, .int .i64 0, .int .i64 0, .int .i64 0, .int .i64 0, .int .i64 0, .int .i64 0, .int .i64 0, .int .i64 0, .int .i64 0, .int .i64 0, .int .i64 0, .int .u64 0, .int .u64 0, .int .u64 0, .int .u64 0, .int .u64 0, .int .u64 0] 40)) = .ok () W2) := Lib.hid ((run_store_new wr 40 _ x.cells.toArray cal_info (by rfl) (by simp [Cal.cells, An.cells, Value.oneCell'])).trans (by rw [hW2]))
      have hbox : BoxAt 40 W2 wr.heap.size x.cells := by rw [← hW2]; exact heap_alloc_last wr _
      have f3 : W2.cell? ⟨wr.heap.size, 3, none⟩ = some (.int .i64 x.point) := by
        obtain ⟨_, _, _, g3, _⟩ := cal_at hbox.lies
        simpa using g3
      have hS2 : OutsN 2 54 w W2 _ ((effTo l k).map encE) := hW2 ▸ S.alloc _
      obtain ⟨A', c', e, _, _⟩ := S.2.slice
      rw [List.length_map] at e
      subst e
      obtain ⟨y, hy⟩ : ∃ y, x.point = y := ⟨_, rfl⟩
      rw [hy] at f3 hpk
      have hel := @eff_len l k
      have HS2 := Lib.hid hS2
      have HB2 : Hid (w.heap.size ≤ W2.heap.size) := Lib.hid hS2.below.size
      have hno := fun h => show effTo l (k + 1) = effTo l k by rw [effTo, if_pos h]
      have hyes := fun h => show effTo l (k + 1) = effTo l k ++ [(ptAt l k, k)] by rw [effTo, if_neg h]
      rw [hpk] at hno hyes
      obtain ⟨d, hd⟩ : ∃ d, (y != (-1 : Int)) = d := ⟨_, rfl⟩
      have HD := Lib.hid hd
      have HNO := Lib.hid hno
      have HYES := Lib.hid hyes
      clear S hli hx hbox hS2 hy hW2 hno hyes hpk
      cases d with
      | false =>
        have HE : Hid (effTo l (k + 1) = effTo l k) := Lib.hid (HNO.out (by simpa using HD.out))
        go_wp2_with (first | (refine wpList_load rfl (.tmp 14) 40 rfl _ _ _ rfl HLD.out ?_) | (refine wpList_store rfl (.tmp 5) (.tmp 15) 40 rfl _ W2 (.pointer (some ⟨wr.heap.size, 0, none⟩)) (.agg x.cells.toArray) rfl rfl HST.out ?_))
        go_roundg (l.length - (k + 1))
        case measure => omega
        case rel => exact ⟨k + 1, by omega, rfl, by go_num, by rw [HE.out]; exact HS2.out⟩
      | true =>
        have HE : Hid (effTo l (k + 1) = effTo l k ++ [(y, k)]) := Lib.hid (HYES.out (by simpa using HD.out))
        go_wp2_with (first | (refine wpList_load rfl (.tmp 14) 40 rfl _ _ _ rfl HLD.out ?_) | (refine wpList_store rfl (.tmp 5) (.tmp 15) 40 rfl _ W2 (.pointer (some ⟨wr.heap.size, 0, none⟩)) (.agg x.cells.toArray) rfl rfl HST.out ?_) | (at_builtin; refine wpList_append_oneN rfl (.tmp 19) (.tmp 24) 52 rfl ie _ 16 Try.underlying52 IE.out rfl (by omega) rfl W2 (encE (y, k)) rfl (fun u hu => by simp [encE] at hu; rcases hu with rfl | rfl <;> rfl) HS2.out.2 rfl (by rw [List.length_map]; simp [maxLen]; omega) (by rw [List.length_map]; omega) HB2.out ?_; intro out' w4 ho hg; have HS4 := Lib.hid (HS2.out.app (ss := (effTo l k ++ [(y, k)]).map encE) (by simpa using ho) hg); clear ho hg))
        go_roundg (l.length - (k + 1))
        case measure => omega
        case rel => exact ⟨k + 1, by omega, rfl, by go_num, by rw [HE.out]; exact HS4.out⟩
    · obtain rfl : k = l.length := by omega
      obtain ⟨A', c', e, _, _⟩ := S.2.slice
      rw [List.length_map] at e
      subst e
      have hq := sorted_is l l.length w.heap.size A' c' wr (by have := S.2; exact this) S.below.size hl
      have HB := Lib.hid S.below
      have hlen : (orderI l).length = (effTo l l.length).length := by have := (@eff_perm l l.length).length_eq; unfold orderI; simpa using this.symm
      have hel := @eff_len l l.length
      obtain ⟨n, hn⟩ : ∃ n, (effTo l l.length).length = n := ⟨_, rfl⟩
      rw [hn] at hq hlen hel ⊢
      have HLN := Lib.hid hlen
      clear S hn hlen
      go_wp2_with fail
      refine hq.mono ?_
      rintro e W5 ⟨rfl, hb5, hr5⟩
      have HB5 := Lib.hid (HB.out.trans hb5)
      have HR5 := Lib.hid hr5
      clear hq hb5 hr5
      have hn8 : n * 8 ≤ 140737488355328 := by omega
      go_wp2_with (first | refine wpList_make_full W5 rfl (.tmp 30) (.tmp 30) 32 rfl W5.heap.size 3 ib (.int .i64 0) 1 Try.underlying32 IB.out.1 IB.out.2.1 IB.out.2.2.1 .i64 .i64 (n : Int) (n : Int) n rfl rfl rfl rfl (by rw [IB.out.2.2.2]; omega) (by simp [maxLen]; omega) (Nat.le_refl _) ?_; intro w6 ho hg)
      have hxl : (natI (orderI l)).length = n := by rw [natI_len]; exact HLN.out
      have SO : Hid (w6.ownsRow W5.heap.size 3 1 (.slice (some ⟨W5.heap.size, 0, none⟩) n n) n (upTo (natI (orderI l)) 0)) := Lib.hid (by rw [upTo_zero, hxl, ← zeros_len]; exact ho)
      have G := Lib.hid hg
      have HXL := Lib.hid hxl
      clear ho hg hxl hel
      go_loopg [7, 34] n (fun g i kk wr => ∃ k : Nat, k ≤ n ∧ g = n - k ∧ kk = .int .i64 k ∧ wr.ownsRow W5.heap.size 3 1 (.slice (some ⟨W5.heap.size, 0, none⟩) n n) n (upTo (natI (orderI l)) k) ∧ W5.grownBy wr none)
      case atStart => exact ⟨0, Nat.zero_le _, rfl, rfl, SO.out, G.out⟩
      case round =>
        clear SO G
        obtain ⟨k, hk, rfl, rfl, ho, hg⟩ := hrel
        by_cases hlt : k < n
        · have hk2 : k < (((ordTo l l.length).map fun i => (ptAt l i, i)).map encE).length := by rw [List.length_map, List.length_map]; have := HLN.out; unfold orderI at this; omega
          have hrr := (HR5.out.below (below_grownBy hg (Nat.le_refl _) (fun q e => by cases e)))
          obtain ⟨ad, e, hadb, hli⟩ := hrr.lies hk2
          subst e
          have hko : k < (orderI l).length := by rw [HLN.out]; exact hlt
          obtain ⟨q, hq⟩ : ∃ q, (orderI l)[k] = q := ⟨_, rfl⟩
          obtain ⟨y, hy⟩ : ∃ y, ptAt l q = y := ⟨_, rfl⟩
          have hli3 : Lies wr (ad.add (k * 2)) (encE (y, q)) := by
            have h := hli
            simp only [List.getElem_map] at h
            have hq' : ∀ h', (ordTo l l.length)[k]'h' = q := fun _ => hq
            simp only [hq', hy] at h
            exact h
          have a0 : wr.cell? (ad.add (k * 2)) = some (.int .i64 y) := hli3.at0
          have a1 : wr.cell? ⟨(ad.add (k * 2)).block, (ad.add (k * 2)).off + 1, none⟩ = some (.int .i64 (q : Int)) := hli3.atS 0 rfl
          have t1 : decide ((k : Int) < (n : Int)) = true := by rw [decide_eq_true_eq]; omega
          have t1' : decide (k < n) = true := by rw [decide_eq_true_eq]; omega
          have hx : (natI (orderI l))[k]? = some (q : Int) := by unfold natI; rw [List.getElem?_map, List.getElem?_eq_getElem hko, hq]; rfl
          have ho2 := ho.alloc (.cells #[.int .i64 y, .int .i64 (q : Int)] 54)
          have hg2 := grownBy_trans hg (World.grownBy_alloc wr (.cells #[.int .i64 y, .int .i64 (q : Int)] 54) none)
          have fz := ho2.frozenAt k
          have hcell := ho2.cellAt k (by omega)
          rw [upTo_at, HXL.out, if_pos hlt] at hcell
          have hst := ho2.stored k (.int .i64 (q : Int))
          rw [upTo_set _ hx] at hst
          have HS := Lib.hid hst
          have HG := Lib.hid hg2
          clear hst hx ho hg ho2 hg2 hli hli3 hq hy hrr hk2 hko
          go_wp2_with fail
          go_roundg (n - (k + 1))
          case measure => omega
          case rel => exact ⟨k + 1, by omega, rfl, by go_num, HS.out.1, grownBy_over HG.out HS.out.2 (Nat.le_refl _)⟩
        · obtain rfl : k = n := by omega
          have t1 : decide ((k : Int) < (k : Int)) = false := by rw [decide_eq_false_iff_not]; omega
          have HU : Hid (Reads wr wr.heap.size (some ⟨W5.heap.size, 0, none⟩) ((natI (orderI l)).map (Value.int .i64))) := Lib.hid (by
            have h := upTo_all (natI (orderI l))
            rw [HXL.out] at h
            rw [h] at ho
            exact Reads.of_own ho)
          have HB6 : Hid (Below w.heap.size w wr) := Lib.hid (HB5.out.trans (below_grownBy hg (by have := HB5.out.size; omega) (fun q e => by cases e)))
          clear ho hg
          go_wp2_with fail
          go_ret
          exact ⟨_, k, by rw [HXL.out]; rfl, HU.out, by rw [HXL.out]; exact Nat.le_refl _, by simp [maxLen]; omega, HB6.out⟩
end Go.Proofs.Ytglnofdncglmnaa
