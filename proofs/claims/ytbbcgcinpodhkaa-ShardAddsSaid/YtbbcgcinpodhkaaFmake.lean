/- The document's New, Add of layer 11: rows of rows that a call makes. -/
import Derived.Test.YtbbcgcinpodhkaaFref
import Derived.RegionTactic
namespace Go.Proofs.Ytbbcgcinpodhkaa
open Go.RowKit
set_option linter.unusedVariables false
set_option linter.unusedSimpArgs false
set_option maxRecDepth 100000

theorem row_info : (Try.prog.info? 39).map (fun i => (i.zero, i.size, i.bytes)) = some (some (.slice none 0 0), 1, 24) := by kernel_rfl
theorem num64_info : (Try.prog.info? 27).map (fun i => (i.zero, i.size, i.bytes)) = some (some (.int .u64 0), 1, 8) := by kernel_rfl
/-- Two rows of the call's own, of elements of unlike types, lie in unlike blocks. -/
theorem own_sep {E E' b b' : Nat} {w : World} {v v' : Value} {xs ys : List Value} (h : Own E b w v xs) (h' : Own E' b' w v' ys) (hE : E ≠ E') : v.ownBlock = none ∨ v.ownBlock ≠ v'.ownBlock := by
  rcases h.2 with ⟨rfl, _⟩ | ⟨g, cap, cur, rfl, _, hh, _⟩
  · exact .inl rfl
  · rcases h'.2 with ⟨rfl, _⟩ | ⟨g', cap', cur', rfl, _, hh', _⟩
    · exact .inr (by simp [Value.ownBlock])
    · refine .inr fun e => ?_
      simp [Value.ownBlock] at e
      subst e
      rw [hh] at hh'
      injection hh' with hh'
      injection hh' with _ h2
      exact hE h2
theorem own_base11 {W : World} {b b' : Nat} {e : TypeId} {v : Value} {xs : List Value} (h : Own e b W v xs) (hb : b' ≤ b) : Own e b' W v xs := by
  obtain ⟨h1, h2⟩ := h
  refine ⟨h1, ?_⟩
  rcases h2 with h2 | ⟨g, cap, cur, hv, hg, r⟩
  · exact Or.inl h2
  · exact Or.inr ⟨g, cap, cur, hv, by omega, r⟩
/-- Rows that a call makes, and a row of them, made since w. -/
structure Made11 (w wi : World) (out : Value) (rs : List Rw) : Prop where
  g : w.grownBy wi none
  own : Own 39 w.heap.size wi out (rs.map Rw.cell)
  each : ∀ r ∈ rs, Own 27 w.heap.size wi r.cell (r.l.map (Value.int .u64)) ∧ ∀ x ∈ r.l, U64 x
section
variable {w wi wj wk : World} {out out' : Value} {rs : List Rw}
theorem Made11.below (h : Made11 w wi out rs) : Below w.heap.size w wi := (Below.refl _ _).grown h.g (Nat.le_refl _) (fun k e => by cases e)
theorem Made11.grown (h : Made11 w wi out rs) (g : wi.grownBy wj none) : Made11 w wj out rs := ⟨grownBy_trans h.g g, h.own.kept0 g, fun r hr => ⟨(h.each r hr).1.kept0 g, (h.each r hr).2⟩⟩
theorem Made11.app (h : Made11 w wi out rs) {r : Rw} (hr : Own 27 w.heap.size wi r.cell (r.l.map (Value.int .u64))) (hv : ∀ x ∈ r.l, U64 x) (ho : Own 39 w.heap.size wj out' (rs.map Rw.cell ++ [r.cell])) (g : wi.grownBy wj out.ownBlock) : Made11 w wj out' (rs ++ [r]) := by
  have keep : ∀ r' : Rw, Own 27 w.heap.size wi r'.cell (r'.l.map (Value.int .u64)) → Own 27 w.heap.size wj r'.cell (r'.l.map (Value.int .u64)) := fun r' h' => h'.kept g (own_sep h' h.own (by decide))
  refine ⟨?_, by rw [List.map_append]; exact ho, fun r' hr' => ?_⟩
  · rcases ho' : out.ownBlock with _ | k
    · rw [ho'] at g; exact grownBy_trans h.g g
    · rw [ho'] at g; exact grownBy_over h.g g (h.own.lt k ho').1
  · rcases List.mem_append.1 hr' with h1 | h1
    · exact ⟨keep r' (h.each r' h1).1, (h.each r' h1).2⟩
    · rw [List.mem_singleton] at h1
      subst h1
      exact ⟨keep r' hr, hv⟩
theorem Made11.slice (h : Made11 w wi out rs) : ∃ A c, out = .slice A rs.length c := by
  obtain ⟨A, c, e⟩ := h.own.slice
  rw [List.length_map] at e
  exact ⟨A, c, e⟩
theorem Made11.grid {A : Option Addr} {c : Nat} (h : Made11 w wi (.slice A rs.length c) rs) : GridIn .u64 wi A c rs := by
  have hle := own_le h.own
  refine ⟨Own.reads h.own, hle.1, hle.2, fun r hr => ?_⟩
  have h1 := (h.each r hr).1
  have hle := own_le h1
  exact ⟨Own.reads h1, hle.1, hle.2, fun x hx => u64_wf.2 ((h.each r hr).2 x hx)⟩
theorem Made11.told {p : List (List Int)} (h : Made11 w wi out rs) (hp : valsOf rs = p) : Grid11 w (p, 0) (.returned (.tuple #[out, .int .i64 0])) wi := by
  obtain ⟨A, c, rfl⟩ := h.slice
  exact ⟨h.below, A, c, rs, rfl, h.grid, hp⟩
end
theorem grid_no {w w' : World} (h : Below w.heap.size w w') : Grid11 w ([], 1) (.returned (.tuple #[.slice none 0 0, .int .i64 1])) w' := ⟨h, none, 0, [], rfl, GridIn.nil, rfl⟩

set_option maxHeartbeats 4000000 in
theorem rnew11_is (t : Int) (w : World) : Calls Try.prog 13 #[.int .i64 t] w (Grid11 w (newC t)) := by
  obtain ⟨ib, hib, hb0, hb1, hb2⟩ := info_parts row_info
  have IB := Lib.hid (⟨hib, hb0, hb1, hb2⟩ : _ ∧ _ ∧ _ ∧ _)
  clear hib hb0 hb1 hb2
  unfold newC
  obtain ⟨d1, hd1⟩ : ∃ d, decide (t < 1) = d := ⟨_, rfl⟩
  obtain ⟨d2, hd2⟩ : ∃ d, decide (8 < t) = d := ⟨_, rfl⟩
  by_cases hc : 1 ≤ t ∧ t ≤ 8
  · rw [if_pos hc]
    obtain ⟨T, rfl⟩ : ∃ T : Nat, t = (T : Int) := ⟨t.toNat, by omega⟩
    rw [Int.toNat_natCast]
    have hT : T ≤ 8 := by omega
    have e1 : d1 = false := by rw [← hd1, decide_eq_false_iff_not]; omega
    have e2 : d2 = false := by rw [← hd2, decide_eq_false_iff_not]; omega
    subst e1 e2
    have S : Made11 w (w.alloc (.cells #[] 39)) (.slice (some ⟨w.heap.size, 0, none⟩) 0 0) [] := ⟨World.grownBy_alloc _ _ _, Own.empty (Nat.le_refl _), fun r hr => by cases hr⟩
    clear hc
    go_enter Try.func13, Try.ntmps13
    go_wp2_with fail
    go_loopg [4, 5] T (fun g out i wr => ∃ (k : Nat) (rs : List Rw), k ≤ T ∧ g = T - k ∧ i = .int .i64 k ∧ valsOf rs = List.replicate k zero6 ∧ Made11 w wr out rs)
    case atStart => exact ⟨0, [], Nat.zero_le _, rfl, rfl, rfl, S⟩
    case round =>
      clear S
      obtain ⟨k, rs, hk, rfl, rfl, hv, S⟩ := hrel
      have hln : rs.length = k := by rw [← vals_len, hv, List.length_replicate]
      by_cases hlt : k < T
      · have t1 : decide ((k : Int) < (T : Int)) = true := by rw [decide_eq_true_eq]; omega
        have HV := Lib.hid hv
        have HLN := Lib.hid hln
        have S1 := S.grown (World.grownBy_alloc wr (.cells (zero6.map (Value.int .u64)).toArray 27) none)
        have R1 : Own 27 w.heap.size (wr.alloc (.cells (zero6.map (Value.int .u64)).toArray 27)) (Rw.cell ⟨some ⟨wr.heap.size, 0, none⟩, 6, zero6⟩) (zero6.map (Value.int .u64)) := by
          have h := World.ownsRow_lit (base := w.heap.size) (e := 27) (size := 1) wr (zero6.map (Value.int .u64)).toArray 6 S.g.size (by simp [maxLen]) (by simp [zero6])
          exact h
        have hS1 := Lib.hid S1
        have hR1 := Lib.hid R1
        clear hv hln S S1 R1
        go_wp2_with (at_builtin; refine wpList_append_one rfl (.tmp 18) (.tmp 20) 22 rfl ib (.slice none 0 0) 24 Try.underlying22 IB.out.1 IB.out.2.1 IB.out.2.2.1 IB.out.2.2.2 rfl rfl _ (Rw.cell ⟨some ⟨wr.heap.size, 0, none⟩, 6, zero6⟩) rfl hS1.out.own (by simp [Act.eval, Act.put]) (by rw [List.length_map, HLN.out]; simp [maxLen]; omega) (by rw [List.length_map, HLN.out]; omega) hS1.out.g.size ?_; intro out' w4 ho hg hb4; have S5 := hS1.out.app hR1.out (by simp [zero6, U64]) ho hg)
        clear ho hg hb4
        have HS := Lib.hid S5
        clear S5
        go_wp2_with fail
        go_roundg (T - (k + 1))
        case measure => omega
        case rel => exact ⟨k + 1, _, by omega, rfl, by go_num, by rw [List.replicate_succ', ← HV.out]; simp [valsOf], HS.out⟩
      · obtain rfl : k = T := by omega
        have t1 : decide ((k : Int) < (k : Int)) = false := by rw [decide_eq_false_iff_not]; omega
        have HV := Lib.hid hv
        clear hv hln
        go_wp2_with fail
        go_ret2
        exact S.told HV.out
  · rw [if_neg hc]
    have two : d1 = true ∨ (d1 = false ∧ d2 = true) := by
      subst hd1 hd2
      simp only [decide_eq_true_eq, decide_eq_false_iff_not]
      omega
    clear hc
    rcases two with rfl | ⟨rfl, rfl⟩
    all_goals
      go_enter Try.func13, Try.ntmps13
      go_wp2_with fail
      go_ret2
      exact grid_no (Below.refl _ _)

theorem addV_row {rs : List Rw} {t k i : Nat} (hi : i < rs.length) : (addV (valsOf rs) t k)[i]? = some (if t = i then rs[i].l.modify k bump else rs[i].l) := by
  rw [addV_at, vals_at hi]
  rfl
theorem row_num {l : List Int} {t k i j : Nat} (hj : j < l.length) : (if t = i then l.modify k bump else l)[j]? = some (if t = i ∧ k = j then bump l[j] else l[j]) := by
  by_cases h1 : t = i
  · rw [if_pos h1, List.getElem?_modify, List.getElem?_eq_getElem hj]
    by_cases h2 : k = j
    · simp [h1, h2]
    · simp [h2]
  · rw [if_neg h1, List.getElem?_eq_getElem hj, if_neg (fun h => h1 h.1)]
theorem take_next {α : Type} {l : List α} {k : Nat} {x : α} (h : l[k]? = some x) : l.take (k + 1) = l.take k ++ [x] := by
  rw [List.take_add_one, h]
  rfl

set_option maxHeartbeats 8000000 in
theorem radd11_is (A : Option Addr) (c : Nat) (rs : List Rw) (t k : Int) (w : World) (h : GridIn .u64 w A c rs) (ht : I64 t) (hk : I64 k) :
    Calls Try.prog 9 #[.slice A rs.length c, .int .i64 t, .int .i64 k] w (Grid11 w (addC (valsOf rs) t k)) := by
  obtain ⟨ib, hib, hb0, hb1, hb2⟩ := info_parts row_info
  have IB := Lib.hid (⟨hib, hb0, hb1, hb2⟩ : _ ∧ _ ∧ _ ∧ _)
  clear hib hb0 hb1 hb2
  obtain ⟨iu, hiu, hu0, hu1, hu2⟩ := info_parts num64_info
  have IU := Lib.hid (⟨hiu, hu0, hu1, hu2⟩ : _ ∧ _ ∧ _ ∧ _)
  clear hiu hu0 hu1 hu2
  have his := ris11_is .u64 A c rs w h
  have H := Lib.hid h
  have m1 := Nat.le_trans h.lc h.cm
  unfold maxLen at m1
  clear h
  unfold addC
  by_cases hok : okAdd (valsOf rs) t k
  · rw [if_pos hok]
    obtain ⟨o1, o2, o3, o4, o5⟩ := hok
    have h6 := Lib.hid ((isC_iff.1 o1).1)
    have h8 : rs.length ≤ 8 := by rw [← vals_len]; exact (isC_iff.1 o1).2.2
    rw [o1] at his
    rw [vals_len] at o3
    obtain ⟨t, rfl⟩ : ∃ n : Nat, t = (n : Int) := ⟨t.toNat, by omega⟩
    obtain ⟨k, rfl⟩ : ∃ n : Nat, k = (n : Int) := ⟨k.toNat, by omega⟩
    rw [Int.toNat_natCast, Int.toNat_natCast]
    have hkl : k < 6 := by omega
    have e1 : decide ((t : Int) < 0) = false := by rw [decide_eq_false_iff_not]; omega
    have e2 : decide ((rs.length : Int) ≤ (t : Int)) = false := by rw [decide_eq_false_iff_not]; omega
    have e2' : decide (rs.length ≤ t) = false := by rw [decide_eq_false_iff_not]; omega
    have e3 : decide ((k : Int) < 0) = false := by rw [decide_eq_false_iff_not]; omega
    have e4 : decide ((5 : Int) < (k : Int)) = false := by rw [decide_eq_false_iff_not]; omega
    have e4' : decide (5 < k) = false := by rw [decide_eq_false_iff_not]; omega
    have HAR := Lib.hid (fun i hi => addV_row (rs := rs) (t := t) (k := k) (i := i) hi)
    obtain ⟨G, hG⟩ : ∃ G, addV (valsOf rs) t k = G := ⟨_, rfl⟩
    have HGL : Hid (G.length = rs.length) := Lib.hid (by rw [← hG, addV_len, vals_len])
    simp only [hG] at HAR
    rw [hG]
    have S : Made11 w (w.alloc (.cells #[] 39)) (.slice (some ⟨w.heap.size, 0, none⟩) 0 0) [] := ⟨World.grownBy_alloc _ _ _, Own.empty (Nat.le_refl _), fun r hr => by cases hr⟩
    clear o1 o2 o4 o5 ht hk hG
    go_enter Try.func9, Try.ntmps9
    go_wp2_with fail
    refine his.mono ?_
    rintro e w' ⟨rfl, rfl⟩
    clear his
    go_wp2_with fail
    go_loopg [8, 9, 10, 11, 12] rs.length (fun g out i row j n wr => ∃ (m : Nat) (qs : List Rw), m ≤ rs.length ∧ g = rs.length - m ∧ i = .int .i64 m ∧ valsOf qs = G.take m ∧ Made11 w' wr out qs)
    case atStart => exact ⟨0, [], Nat.zero_le _, rfl, rfl, rfl, S⟩
    case round =>
      clear S
      obtain ⟨m, qs, hm, rfl, rfl, hv, S⟩ := hrel
      have hln : qs.length = m := by rw [← vals_len, hv, List.length_take, HGL.out, Nat.min_eq_left hm]
      by_cases hlt : m < rs.length
      · have t1 : decide ((m : Int) < (rs.length : Int)) = true := by rw [decide_eq_true_eq]; omega
        have t1' : decide (m < rs.length) = true := decide_eq_true hlt
        have HV := Lib.hid hv
        have HLN := Lib.hid hln
        have HS0 := Lib.hid S
        have har := HAR.out m hlt
        have hl6 : rs[m].l.length = 6 := h6.out _ (List.mem_of_getElem? (vals_at hlt))
        have hrow := H.out.row hlt
        obtain ⟨x, hx⟩ : ∃ x, rs[m] = x := ⟨_, rfl⟩
        rw [hx] at har hl6 hrow
        have hnum := fun j (hj : j < x.l.length) => row_num (l := x.l) (t := t) (k := k) (i := m) hj
        obtain ⟨ad, rfl, b0, f0, g0⟩ := hrow
        obtain ⟨T, hT⟩ : ∃ T, (if t = m then x.l.modify k bump else x.l) = T := ⟨_, rfl⟩
        rw [hT] at har
        simp only [hT] at hnum
        have HT : Hid (T.length = 6) := Lib.hid (by
          rw [← hT]
          split
          · rw [List.length_modify]; exact hl6
          · exact hl6)
        have HNUM := Lib.hid hnum
        have HARM := Lib.hid har
        have HRW := Lib.hid g0
        have F0 := Lib.hid (fun W (hW : Below w'.heap.size w' W) => (hW.cell (p := ad.add m) (by rw [block_of_add]; exact b0)).trans f0)
        have HL6 := Lib.hid hl6
        have S2 : Outs 27 .u64 wr (wr.alloc (.cells #[] 27)) (.slice (some ⟨wr.heap.size, 0, none⟩) 0 0) [] := ⟨World.grownBy_alloc _ _ _, Own.empty (Nat.le_refl _)⟩
        clear hv hln S hx hT har hnum f0 g0 hl6
        go_wp2_with fail
        go_loopg [10, 11, 12] 6 (fun g row j n wi => ∃ q : Nat, q ≤ 6 ∧ g = 6 - q ∧ j = .int .i64 q ∧ Outs 27 .u64 wr wi row (T.take q))
        case atStart => exact ⟨0, Nat.zero_le _, rfl, rfl, S2⟩
        case round =>
          clear S2
          obtain ⟨q, hq, rfl, rfl, O⟩ := hrel
          by_cases hq6 : q < 6
          · have t2 : decide ((q : Int) < 6) = true := by rw [decide_eq_true_eq]; omega
            have t2' : decide (q < 6) = true := decide_eq_true hq6
            have BW := below_next HS0.out.below O.below
            have f0 := F0.out _ BW
            have hqx : q < x.l.length := by rw [HL6.out]; exact hq6
            obtain ⟨rd, hrd, hrb, f1⟩ := (HRW.out.rd.below BW).int hqx
            rw [hrd] at f0
            have hnx := take_next (HNUM.out q hqx)
            have hlen : (T.take q).length ≤ 6 := by rw [List.length_take]; omega
            obtain ⟨z, hz⟩ : ∃ z, x.l[q] = z := ⟨_, rfl⟩
            rw [hz] at f1 hnx
            have HO := Lib.hid O
            have HBW := Lib.hid BW
            by_cases hhit : t = m ∧ k = q
            · rw [if_pos hhit] at hnx
              have HNX := Lib.hid hnx
              have e5 : ((m : Int) == (t : Int)) = true := by rw [beq_iff_eq]; omega
              have e6 : ((q : Int) == (k : Int)) = true := by rw [beq_iff_eq]; omega
              clear hhit hnx O hz BW
              go_wp2_with (at_builtin; refine wpList_append_one rfl (.tmp 63) (.tmp 65) 39 rfl iu (.int .u64 0) 8 Try.underlying39 IU.out.1 IU.out.2.1 IU.out.2.2.1 IU.out.2.2.2 rfl rfl _ (.int .u64 (bump z)) rfl HO.out.2 rfl (by rw [List.length_map]; simp [maxLen]; omega) (by rw [List.length_map]; omega) HO.out.1.size ?_; intro out' w4 ho hg hb4; have S5 := HO.out.app (ys := T.take (q + 1)) (by rw [HNX.out]; simpa using ho) hg)
              clear ho hg hb4
              have HS := Lib.hid S5
              clear S5 f0 f1
              go_wp2_with fail
              go_roundg (6 - (q + 1))
              case measure => omega
              case rel => exact ⟨q + 1, by omega, rfl, by go_num, HS.out⟩
            · rw [if_neg hhit] at hnx
              have HNX := Lib.hid hnx
              have two : ((m : Int) == (t : Int)) = false ∨ (((m : Int) == (t : Int)) = true ∧ ((q : Int) == (k : Int)) = false) := by
                by_cases h1 : t = m
                · refine .inr ⟨by rw [beq_iff_eq]; omega, ?_⟩
                  rw [beq_eq_false_iff_ne]
                  intro h2
                  exact hhit ⟨h1, by omega⟩
                · exact .inl (by rw [beq_eq_false_iff_ne]; omega)
              clear hhit hnx O hz BW
              rcases two with e5 | ⟨e5, e6⟩
              all_goals
                go_wp2_with (at_builtin; refine wpList_append_one rfl (.tmp 63) (.tmp 65) 39 rfl iu (.int .u64 0) 8 Try.underlying39 IU.out.1 IU.out.2.1 IU.out.2.2.1 IU.out.2.2.2 rfl rfl _ (.int .u64 z) rfl HO.out.2 rfl (by rw [List.length_map]; simp [maxLen]; omega) (by rw [List.length_map]; omega) HO.out.1.size ?_; intro out' w4 ho hg hb4; have S5 := HO.out.app (ys := T.take (q + 1)) (by rw [HNX.out]; simpa using ho) hg)
                clear ho hg hb4
                have HS := Lib.hid S5
                clear S5 f0 f1
                go_wp2_with fail
                go_roundg (6 - (q + 1))
                case measure => omega
                case rel => exact ⟨q + 1, by omega, rfl, by go_num, HS.out⟩
          · obtain rfl : q = 6 := by omega
            have t2 : decide (((6 : Nat) : Int) < 6) = false := by decide
            have hT6 : T.take 6 = T := List.take_of_length_le (by have := HT.out; omega)
            rw [hT6] at O
            obtain ⟨A9, c9, e9⟩ := O.2.slice
            rw [List.length_map] at e9
            subst e9
            have R1 : Own 27 w'.heap.size _ (Rw.cell ⟨A9, c9, T⟩) (T.map (Value.int .u64)) := own_base11 O.2 HS0.out.g.size
            have S1 := HS0.out.grown O.1
            have hR1 := Lib.hid R1
            have hS1 := Lib.hid S1
            have HU : Hid (∀ x ∈ T, U64 x) := Lib.hid fun y hy => by
              obtain ⟨j, hj, rfl⟩ := List.getElem_of_mem hy
              have h1 := HNUM.out j (by rw [HL6.out]; have := HT.out; omega)
              rw [List.getElem?_eq_getElem hj] at h1
              injection h1 with h1
              rw [h1]
              split
              · unfold bump U64; omega
              · exact u64_wf.1 (HRW.out.wf _ (List.getElem_mem _))
            clear O hT6 R1 S1
            go_wp2_with (at_builtin; refine wpList_append_one rfl (.tmp 67) (.tmp 69) 22 rfl ib (.slice none 0 0) 24 Try.underlying22 IB.out.1 IB.out.2.1 IB.out.2.2.1 IB.out.2.2.2 rfl rfl _ (Rw.cell ⟨A9, c9, T⟩) rfl hS1.out.own rfl (by rw [List.length_map, HLN.out]; simp [maxLen]; omega) (by rw [List.length_map, HLN.out]; omega) hS1.out.g.size ?_; intro out' w4 ho hg hb4; have S5 := hS1.out.app hR1.out HU.out ho hg)
            clear ho hg hb4
            have HS := Lib.hid S5
            clear S5
            go_wp2_with fail
            go_roundg (rs.length - (m + 1))
            case measure => omega
            case rel => exact ⟨m + 1, _, by omega, rfl, by go_num, by rw [take_next HARM.out, ← HV.out]; simp [valsOf], HS.out⟩
      · obtain rfl : m = rs.length := by omega
        have t1 : decide ((rs.length : Int) < (rs.length : Int)) = false := by rw [decide_eq_false_iff_not]; omega
        have HV : Hid (valsOf qs = G) := Lib.hid (by rw [hv, List.take_of_length_le (by rw [HGL.out]; exact Nat.le_refl _)])
        clear hv hln
        go_wp2_with fail
        go_ret2
        exact S.told HV.out
  · rw [if_neg hok]
    obtain ⟨b, hb⟩ : ∃ b, isC (valsOf rs) = b := ⟨_, rfl⟩
    rw [hb] at his
    obtain ⟨d1, hd1⟩ : ∃ d, decide (t < 0) = d := ⟨_, rfl⟩
    obtain ⟨d2, hd2⟩ : ∃ d, decide ((rs.length : Int) ≤ t) = d := ⟨_, rfl⟩
    obtain ⟨d3, hd3⟩ : ∃ d, decide (k < 0) = d := ⟨_, rfl⟩
    obtain ⟨d4, hd4⟩ : ∃ d, decide (5 < k) = d := ⟨_, rfl⟩
    have five : b = false ∨ (b = true ∧ d1 = true) ∨ (b = true ∧ d1 = false ∧ d2 = true) ∨ (b = true ∧ d1 = false ∧ d2 = false ∧ d3 = true) ∨ (b = true ∧ d1 = false ∧ d2 = false ∧ d3 = false ∧ d4 = true) := by
      rcases hbb : b with _ | _
      · exact .inl rfl
      · rw [hbb] at hb
        refine .inr ?_
        have hno : ¬ (0 ≤ t ∧ t < rs.length ∧ 0 ≤ k ∧ k < 6) := fun ⟨a1, a2, a3, a4⟩ => hok ⟨hb, a1, by rw [vals_len]; exact a2, a3, a4⟩
        subst hd1 hd2 hd3 hd4
        simp only [decide_eq_true_eq, decide_eq_false_iff_not, true_and]
        omega
    clear hok hb ht hk
    rcases five with rfl | ⟨rfl, rfl⟩ | ⟨rfl, rfl, rfl⟩ | ⟨rfl, rfl, rfl, rfl⟩ | ⟨rfl, rfl, rfl, rfl, rfl⟩
    all_goals
      go_enter Try.func9, Try.ntmps9
      go_wp2_with fail
      refine his.mono ?_
      rintro e w' ⟨rfl, rfl⟩
      clear his
      go_wp2_with fail
      go_ret2
      exact grid_no (Below.refl _ _)
end Go.Proofs.Ytbbcgcinpodhkaa
