/- shard.New, copied, Add of the program. -/
import Derived.Test.YtbbcgcinpodhkaaFwmake
namespace Go.Proofs.Ytbbcgcinpodhkaa
open Go.RowKit
set_option linter.unusedVariables false
set_option linter.unusedSimpArgs false
set_option maxRecDepth 100000

theorem six_zero : zero6.length = 6 ∧ ∀ x ∈ zero6, U64 x := by simp [zero6, U64]
set_option maxHeartbeats 4000000 in
theorem new11_is (t : Int) (w : World) (ht : I64 t) : Calls Try.prog 12 #[.int .i64 t] w (GridS (fun _ => True) w (newC t)) := by
  obtain ⟨ib, hib, hb0, hb1, hb2⟩ := info_parts row_info
  have IB := Lib.hid (⟨hib, hb0, hb1, hb2⟩ : _ ∧ _ ∧ _ ∧ _)
  clear hib hb0 hb1 hb2
  obtain ⟨iu, hiu, hu0, hu1, hu2⟩ := info_parts num64_info
  have IU := Lib.hid (⟨hiu, hu0, hu1, hu2⟩ : _ ∧ _ ∧ _ ∧ _)
  clear hiu hu0 hu1 hu2
  have hmay := maybe11_is t w
  unfold newC
  by_cases hc : 1 ≤ t ∧ t ≤ 8
  · rw [if_pos hc]
    have hm : mayB t = true := by unfold mayB; simp [hc.1, hc.2]
    rw [hm] at hmay
    obtain ⟨T, rfl⟩ : ∃ T : Nat, t = (T : Int) := ⟨t.toNat, by omega⟩
    rw [Int.toNat_natCast]
    have hT : T ≤ 8 := by omega
    have S := Laid.start w T
    clear hm hc
    go_enter Try.func12, Try.ntmps12
    go_wp2_with fail
    refine hmay.mono ?_
    rintro e w' ⟨rfl, rfl⟩
    clear hmay
    go_wp2_with (first | (at_make; refine wpList_make_alloc w' rfl (.tmp 9) (.tmp 9) 22 rfl 39 ib (.slice none 0 0) Try.underlying22 IB.out.1 IB.out.2.1 IB.out.2.2.1 rfl .i64 .i64 T rfl rfl (by rw [IB.out.2.2.2]; omega) (by simp [maxLen]; omega) ?_))
    go_loopg [13] T (fun g i wr => ∃ k : Nat, k ≤ T ∧ g = T - k ∧ i = .int .i64 k ∧ Laid w' wr T (List.replicate k zero6))
    case atStart => exact ⟨0, Nat.zero_le _, rfl, rfl, S⟩
    case round =>
      clear S
      obtain ⟨k, hk, rfl, rfl, S⟩ := hrel
      by_cases hlt : k < T
      · have t1 : decide ((k : Int) < (T : Int)) = true := by rw [decide_eq_true_eq]; omega
        have t1' : decide (k < T) = true := decide_eq_true hlt
        have f0 := S.cellO k
        rw [if_pos hlt, if_neg (by rw [List.length_replicate]; exact Nat.lt_irrefl _)] at f0
        have z0 := S.freeO k
        have N := S.next (by rw [List.length_replicate]; exact hlt) six_zero
        rw [List.length_replicate, ← List.replicate_succ'] at N
        have F0 : ∀ o, (wr.alloc o).cell? ⟨w'.heap.size, k, none⟩ = some (.slice none 0 0) := fun o => ((boxed wr o).cell (by show w'.heap.size < wr.heap.size; have := S.sz; omega)).trans f0
        have Z0 : ∀ o, (wr.alloc o).frozen? ⟨w'.heap.size, k, none⟩ = false := fun o => ((boxed wr o).frozen (by show w'.heap.size < wr.heap.size; have := S.sz; omega)).trans z0
        have HN := Lib.hid N
        clear S f0 z0 N
        go_wp2_with (first | (at_make; refine wpList_make_alloc wr rfl (.const (.int .i64 6)) (.const (.int .i64 6)) 39 rfl 27 iu (.int .u64 0) Try.underlying39 IU.out.1 IU.out.2.1 IU.out.2.2.1 rfl .i64 .i64 6 rfl rfl (by rw [IU.out.2.2.2]; omega) (by simp [maxLen]) ?_; have f1 := F0 (.cells (List.replicate 6 (.int .u64 0)).toArray 27); have z1 := Z0 (.cells (List.replicate 6 (.int .u64 0)).toArray 27)))
        go_roundg (T - (k + 1))
        case measure => omega
        case rel => exact ⟨k + 1, by omega, rfl, by go_num, HN.out⟩
      · obtain rfl : k = T := by omega
        have t1 : decide ((k : Int) < (k : Int)) = false := by rw [decide_eq_false_iff_not]; omega
        have HS := Lib.hid S
        clear S
        go_wp2_with fail
        go_ret2
        have h := HS.out
        have h2 := Laid.told (S := fun _ => True) (w := w') (wi := wr) (ls := List.replicate k zero6) (by rw [List.length_replicate]; exact h) (by rw [List.length_replicate]; simp [maxLen]; omega)
        rw [List.length_replicate] at h2
        exact h2
  · rw [if_neg hc]
    have hm : mayB t = false := by
      unfold mayB
      rw [Bool.eq_false_iff]
      intro h
      rw [Bool.and_eq_true, decide_eq_true_eq, decide_eq_true_eq] at h
      exact hc h
    rw [hm] at hmay
    clear hm hc
    go_enter Try.func12, Try.ntmps12
    go_wp2_with fail
    refine hmay.mono ?_
    rintro e w' ⟨rfl, rfl⟩
    clear hmay
    go_wp2_with fail
    go_ret2
    exact gridS_no (Below.refl _ _)

/-- copy over a whole row. -/
theorem wpList_copy_row {P : Program} {w : World} {ops : Array Oper} {rest : List Oper} {o : Oper} {a : Act} {Q : Exit → Act → World → Prop} (hgd : o.guard = none) (d s : Operand) (dT sT : TypeId)
    (ho : o.op = .call { callee := .builtin .copy, args := #[d, s], argTypes := #[dT, sT] }) (elem : TypeId) (hu : P.underlying dT = some (.slice elem)) (hsz : (P.info? elem).map (·.size) = some 1)
    (g n dCap : Nat) (ad : Addr) (sCap : Nat) (hd : a.eval d = .slice (some ⟨g, 0, none⟩) n dCap) (hs : a.eval s = .slice (some ad) n sCap)
    (cur : Array Value) (t : TypeId) (hg : w.heap[g]? = some (.cells cur t (0, 0))) (cs : List Value) (hn : cs.length = n) (hc : cur.size = n)
    (hsrc : ∀ j v, cs[j]? = some v → w.cell? (ad.add j) = some v) (h1 : ∀ v ∈ cs, v.oneCell' = true)
    (h : wpList P ops Q rest (a.put o.dst (goInt n)) (w.setRow g cs.toArray)) : wpList P ops Q (o :: rest) a w := by
  refine wpList_copy_own hgd d s dT sT ho elem hu hsz g 0 n dCap ad n sCap hd hs cur t hg cs (by rw [hn]; exact (Nat.min_self n).symm) hsrc (by omega) h1 ?_
  have e : cur.toList.take 0 ++ (cs ++ cur.toList.drop (0 + cs.length)) = cs := by
    rw [List.take_zero, List.nil_append, List.drop_eq_nil_of_le (by rw [Array.length_toList]; omega), List.append_nil]
  rw [e, hn]
  exact h

set_option maxHeartbeats 4000000 in
theorem copied11_is (A : Option Addr) (c : Nat) (rs : List Rw) (w : World) (h : GridIn .u64 w A c rs) (hc : isC (valsOf rs) = true) :
    Calls Try.prog 19 #[.slice A rs.length c] w fun e w' => e = .returned (.slice (some ⟨w.heap.size, 0, none⟩) rs.length rs.length) ∧ Laid w w' rs.length (valsOf rs) := by
  obtain ⟨ib, hib, hb0, hb1, hb2⟩ := info_parts row_info
  have IB := Lib.hid (⟨hib, hb0, hb1, hb2⟩ : _ ∧ _ ∧ _ ∧ _)
  clear hib hb0 hb1 hb2
  obtain ⟨iu, hiu, hu0, hu1, hu2⟩ := info_parts num64_info
  have IU := Lib.hid (⟨hiu, hu0, hu1, hu2⟩ : _ ∧ _ ∧ _ ∧ _)
  clear hiu hu0 hu1 hu2
  have h8 := isC_iff.1 hc
  have H6 := Lib.hid h8.1
  have hl8 : rs.length ≤ 8 := by rw [← vals_len]; exact h8.2.2
  have H := Lib.hid h
  have S := Laid.start w rs.length
  clear h h8 hc
  go_enter Try.func19, Try.ntmps19
  go_wp2_with (first | (at_make; refine wpList_make_alloc w rfl (.tmp 7) (.tmp 7) 22 rfl 39 ib (.slice none 0 0) Try.underlying22 IB.out.1 IB.out.2.1 IB.out.2.2.1 rfl .i64 .i64 rs.length rfl rfl (by rw [IB.out.2.2.2]; omega) (by simp [maxLen]; omega) ?_))
  go_loopg [11] rs.length (fun g i wr => ∃ k : Nat, k ≤ rs.length ∧ g = rs.length - k ∧ i = .int .i64 k ∧ Laid w wr rs.length ((valsOf rs).take k))
  case atStart => exact ⟨0, Nat.zero_le _, rfl, rfl, S⟩
  case round =>
    clear S
    obtain ⟨k, hk, rfl, rfl, S⟩ := hrel
    by_cases hlt : k < rs.length
    · have t1 : decide ((k : Int) < (rs.length : Int)) = true := by rw [decide_eq_true_eq]; omega
      have t1' : decide (k < rs.length) = true := decide_eq_true hlt
      have hln : ((valsOf rs).take k).length = k := by rw [List.length_take, vals_len, Nat.min_eq_left hk]
      have hrow := H.out.row hlt
      have hva := vals_at hlt
      have hl6 : rs[k].l.length = 6 := H6.out _ (List.mem_of_getElem? hva)
      obtain ⟨x, hx⟩ : ∃ x, rs[k] = x := ⟨_, rfl⟩
      rw [hx] at hrow hva hl6
      obtain ⟨ad, rfl, b0, f0, g0⟩ := hrow
      have hxu : ∀ v ∈ x.l, U64 v := fun v hv => u64_wf.1 (g0.wf v hv)
      obtain ⟨rd, hrd, hrb, hrc⟩ := g0.rd (by rw [List.length_map, hl6]; omega)
      have hsz := S.sz
      rw [hln] at hsz
      have f1 := (S.b.cell (p := ad.add k) (by rw [block_of_add]; exact b0)).trans f0
      rw [hrd, hl6] at f1
      have fo := S.cellO k
      rw [if_pos hlt, if_neg (by rw [hln]; exact Nat.lt_irrefl _)] at fo
      have z0 := S.freeO k
      have N := S.next (l := zero6) (by rw [hln]; exact hlt) six_zero
      rw [hln] at N
      have hnx := take_next hva
      have hover := N.over (l := x.l) ⟨hl6, hxu⟩
      rw [hln, ← hsz, ← hnx] at hover
      have hgz := N.row k zero6 (by rw [List.getElem?_append_right (by omega), hln, Nat.sub_self]; rfl)
      rw [← hsz] at hgz
      have hsrc : ∀ j v, (x.l.map (Value.int .u64))[j]? = some v → _ = some v := fun j v hv => (N.b.cell (p := rd.add j) (by rw [block_of_add]; exact hrb)).trans (hrc j v hv)
      have F0 : ∀ o, (wr.alloc o).cell? ⟨w.heap.size, k, none⟩ = some (.slice none 0 0) := fun o => ((boxed wr o).cell (by show w.heap.size < wr.heap.size; omega)).trans fo
      have Z0 : ∀ o, (wr.alloc o).frozen? ⟨w.heap.size, k, none⟩ = false := fun o => ((boxed wr o).frozen (by show w.heap.size < wr.heap.size; omega)).trans z0
      have HO := Lib.hid hover
      have HGZ := Lib.hid hgz
      have HSRC := Lib.hid hsrc
      have HL := Lib.hid (show (x.l.map (Value.int .u64)).length = 6 by rw [List.length_map, hl6])
      have HSZ := Lib.hid hsz
      clear hx hva S fo z0 N hnx hover hgz hsrc hl6 f0 hln hsz g0 hxu hrc
      go_wp2_with (first | (at_make; refine wpList_make_alloc wr rfl (.tmp 19) (.tmp 19) 39 rfl 27 iu (.int .u64 0) Try.underlying39 IU.out.1 IU.out.2.1 IU.out.2.2.1 rfl .i64 .i64 6 rfl rfl (by rw [IU.out.2.2.2]; omega) (by simp [maxLen]) ?_; have f3 := F0 (.cells (List.replicate 6 (.int .u64 0)).toArray 27); have z3 := Z0 (.cells (List.replicate 6 (.int .u64 0)).toArray 27)) | ((with_reducible show wpList _ _ _ (⟨some 27, _, _, _, _, _⟩ :: _) _ _); refine wpList_copy_row rfl (.tmp 25) (.tmp 26) 39 39 rfl 27 Try.underlying39 (by rw [IU.out.1]; simp [IU.out.2.2.1]) wr.heap.size 6 6 rd x.c rfl rfl (zero6.map (Value.int .u64)).toArray 27 HGZ.out (x.l.map (Value.int .u64)) HL.out rfl HSRC.out (fun v hv => by obtain ⟨y, _, rfl⟩ := List.mem_map.1 hv; rfl) ?_))
      go_roundg (rs.length - (k + 1))
      case measure => omega
      case rel => exact ⟨k + 1, by omega, rfl, by go_num, HO.out⟩
    · obtain rfl : k = rs.length := by omega
      have t1 : decide ((rs.length : Int) < (rs.length : Int)) = false := by rw [decide_eq_false_iff_not]; omega
      have t1' : decide (rs.length < rs.length) = false := by rw [decide_eq_false_iff_not]; omega
      rw [← vals_len, List.take_length, vals_len] at S
      have HS := Lib.hid S
      clear S
      go_wp2_with fail
      go_ret
      exact ⟨rfl, HS.out⟩

theorem hasB_yes {n : Nat} {i : Int} (h0 : 0 ≤ i) (h1 : i < n) : hasB n i = true := by unfold hasB; rw [Bool.and_eq_true, decide_eq_true_eq, decide_eq_true_eq]; exact ⟨h0, h1⟩
theorem hasB_iff {n i : Int} : hasB n i = true ↔ 0 ≤ i ∧ i < n := by unfold hasB; rw [Bool.and_eq_true, decide_eq_true_eq, decide_eq_true_eq]
set_option maxHeartbeats 4000000 in
theorem add11_is (A : Option Addr) (c : Nat) (rs : List Rw) (t k : Int) (w : World) (h : GridIn .u64 w A c rs) (ht : I64 t) (hk : I64 k) :
    Calls Try.prog 8 #[.slice A rs.length c, .int .i64 t, .int .i64 k] w (GridS (fun b => Sep b A rs) w (addC (valsOf rs) t k)) := by
  have his := is11_is A c rs w h
  have hh1 := has11_is (rs.length : Int) t w
  have hh2 := has11_is 6 k w
  have m1 := Nat.le_trans h.lc h.cm
  unfold maxLen at m1
  obtain ⟨b1, e1⟩ : ∃ b, isC (valsOf rs) = b := ⟨_, rfl⟩
  obtain ⟨b2, e2⟩ : ∃ b, hasB (rs.length : Int) t = b := ⟨_, rfl⟩
  obtain ⟨b3, e3⟩ : ∃ b, hasB 6 k = b := ⟨_, rfl⟩
  rw [e1] at his
  rw [e2] at hh1
  rw [e3] at hh2
  unfold addC
  have hok : okAdd (valsOf rs) t k ↔ b1 = true ∧ b2 = true ∧ b3 = true := by
    rw [← e1, ← e2, ← e3, hasB_iff, hasB_iff]
    unfold okAdd
    rw [vals_len]
    exact ⟨fun ⟨a, b, c, d, e⟩ => ⟨a, ⟨b, c⟩, d, e⟩, fun ⟨a, ⟨b, c⟩, d, e⟩ => ⟨a, b, c, d, e⟩⟩
  by_cases hy : b1 = true ∧ b2 = true ∧ b3 = true
  · rw [if_pos (hok.2 hy)]
    obtain ⟨rfl, rfl, rfl⟩ := hy
    have hcp := copied11_is A c rs w h e1
    have ht2 := hasB_iff.1 e2
    have hk2 := hasB_iff.1 e3
    obtain ⟨t, rfl⟩ : ∃ n : Nat, t = (n : Int) := ⟨t.toNat, by omega⟩
    obtain ⟨k, rfl⟩ : ∃ n : Nat, k = (n : Int) := ⟨k.toNat, by omega⟩
    rw [Int.toNat_natCast, Int.toNat_natCast]
    have htl : t < rs.length := by omega
    have hkl : k < 6 := by omega
    have hva := vals_at htl
    have hl6 := (isC_iff.1 e1).1 _ (List.mem_of_getElem? hva)
    obtain ⟨l, hl⟩ : ∃ l, rs[t].l = l := ⟨_, rfl⟩
    rw [hl] at hva hl6
    obtain ⟨x, hx⟩ : ∃ x, l[k]? = some x := ⟨_, List.getElem?_eq_getElem (by omega)⟩
    have HVA := Lib.hid hva
    have HX := Lib.hid hx
    have HL8 := Lib.hid (isC_iff.1 e1).2
    clear hok e1 e2 e3 ht hk h hva hx hl hl6
    go_enter Try.func8, Try.ntmps8
    go_wp2_with fail
    refine his.mono ?_
    rintro e w' ⟨rfl, rfl⟩
    clear his
    go_wp2_with fail
    refine hh1.mono ?_
    rintro e w' ⟨rfl, rfl⟩
    clear hh1
    go_wp2_with fail
    refine hh2.mono ?_
    rintro e w' ⟨rfl, rfl⟩
    clear hh2
    go_wp2_with fail
    refine hcp.mono ?_
    rintro e w1 ⟨rfl, S⟩
    clear hcp
    have f0 := S.cellO t
    rw [if_pos htl, if_pos (by rw [vals_len]; exact htl)] at f0
    have hr := S.row t l HVA.out
    have f1 : w1.cell? ⟨w'.heap.size + 1 + t, k, none⟩ = some (.int .u64 x) := by
      rw [block_cell hr]
      simp [HX.out]
    have z1 : w1.frozen? ⟨w'.heap.size + 1 + t, k, none⟩ = false := block_free hr _
    have HS := Lib.hid (S.add (k := k) HVA.out HX.out)
    clear S hr
    go_wp2_with fail
    go_ret2
    have h1 := HS.out
    have hln : (addV (valsOf rs) t k).length = rs.length := by rw [addV_len, vals_len]
    have h2 := Laid.told (S := fun b => Sep b A rs) (by rw [hln]; exact h1) (by rw [hln]; have := HL8.out.2; rw [vals_len] at this; simp [maxLen]; omega)
    rw [hln] at h2
    exact h2
  · rw [if_neg (fun h => hy (hok.1 h))]
    clear hok e1 e2 e3
    have three : b1 = false ∨ (b1 = true ∧ b2 = false) ∨ (b1 = true ∧ b2 = true ∧ b3 = false) := by
      revert hy
      cases b1 <;> cases b2 <;> cases b3 <;> simp
    clear hy h
    go_enter Try.func8, Try.ntmps8
    go_wp2_with fail
    refine his.mono ?_
    rintro e w' ⟨rfl, rfl⟩
    clear his
    rcases three with rfl | ⟨rfl, rfl⟩ | ⟨rfl, rfl, rfl⟩
    · go_wp2_with fail
      go_ret2
      exact gridS_no (Below.refl _ _)
    · go_wp2_with fail
      refine hh1.mono ?_
      rintro e w' ⟨rfl, rfl⟩
      go_wp2_with fail
      go_ret2
      exact gridS_no (Below.refl _ _)
    · go_wp2_with fail
      refine hh1.mono ?_
      rintro e w' ⟨rfl, rfl⟩
      clear hh1
      go_wp2_with fail
      refine hh2.mono ?_
      rintro e w' ⟨rfl, rfl⟩
      go_wp2_with fail
      go_ret2
      exact gridS_no (Below.refl _ _)
end Go.Proofs.Ytbbcgcinpodhkaa
