/- The document's Order of layer 10. -/
import Derived.Test.YtglnofdncglmnaaEref
import Derived.Deep.QuietTactic
import Derived.BigQuiet
namespace Go.Proofs.Ytglnofdncglmnaa
open Go.RowKit
set_option linter.unusedVariables false
set_option linter.unusedSimpArgs false
set_option maxRecDepth 100000

def natI (r : List Nat) : List Int := r.map fun (n : Nat) => (n : Int)
theorem natI_len (r : List Nat) : (natI r).length = r.length := List.length_map _
theorem natI_add (r : List Nat) (i : Nat) : natI (r ++ [i]) = natI r ++ [(i : Int)] := by unfold natI; rw [List.map_append]; rfl
/-- Does one of these take effect behind i? -/
def overB (l : List Cal) (i : Nat) (r : List Nat) : Bool := r.any fun x => decide (ptAt l i < ptAt l x)
def midL (l : List Cal) (i : Nat) (r : List Nat) : List Nat := bif overB l i r then insI l i r else r
section
variable {l : List Cal} {i x : Nat} {r : List Nat}
theorem over_cons : overB l i (x :: r) = (decide (ptAt l i < ptAt l x) || overB l i r) := rfl
theorem over_add : overB l i (r ++ [x]) = (overB l i r || decide (ptAt l i < ptAt l x)) := by unfold overB; rw [List.any_append]; simp
theorem ins_over (h : overB l i r = true) : insI l i (r ++ [x]) = insI l i r ++ [x] := by
  induction r with
  | nil => cases h
  | cons k r ih =>
    rw [List.cons_append, insI, insI]
    by_cases hk : ptAt l i < ptAt l k
    · rw [if_pos hk, if_pos hk]; rfl
    · rw [over_cons, decide_eq_false hk, Bool.false_or] at h
      rw [if_neg hk, if_neg hk, ih h]; rfl
theorem ins_last (h : overB l i r = false) : insI l i r = r ++ [i] := by
  induction r with
  | nil => rfl
  | cons k r ih =>
    rw [over_cons, Bool.or_eq_false_iff, decide_eq_false_iff_not] at h
    rw [insI, if_neg h.1, ih h.2]; rfl
theorem ins_hit (h : overB l i r = false) (hx : ptAt l i < ptAt l x) : insI l i (r ++ [x]) = r ++ [i] ++ [x] := by
  induction r with
  | nil => rw [List.nil_append, insI, if_pos hx]; rfl
  | cons k r ih =>
    rw [over_cons, Bool.or_eq_false_iff, decide_eq_false_iff_not] at h
    rw [List.cons_append, insI, if_neg h.1, ih h.2]; rfl
theorem mid_over (h : overB l i r = true) : midL l i (r ++ [x]) = midL l i r ++ [x] := by
  unfold midL
  rw [over_add, h, Bool.true_or, cond_true, cond_true, ins_over h]
theorem mid_hit (h : overB l i r = false) (hx : decide (ptAt l i < ptAt l x) = true) : midL l i (r ++ [x]) = midL l i r ++ [i] ++ [x] := by
  unfold midL
  rw [over_add, h, Bool.false_or, hx, cond_true, cond_false, ins_hit h (by simpa using hx)]
theorem mid_no (h : overB l i r = false) (hx : decide (ptAt l i < ptAt l x) = false) : midL l i (r ++ [x]) = midL l i r ++ [x] := by
  unfold midL
  rw [over_add, h, Bool.false_or, hx, cond_false, cond_false]
theorem mid_end (h : overB l i r = true) : midL l i r = insI l i r := by unfold midL; rw [h]; rfl
theorem mid_end0 (h : overB l i r = false) : midL l i r ++ [i] = insI l i r := by unfold midL; rw [h, ins_last h]; rfl
theorem mid_len : (midL l i r).length ≤ r.length + 1 := by
  unfold midL
  cases overB l i r
  · simp
  · rw [cond_true, ins_len]; exact Nat.le_refl _
end
theorem own_base {W : World} {b b' : Nat} {e : TypeId} {size : Nat} {v : Value} {n : Nat} {xs : List Value} (h : W.ownsRow b e size v n xs) (hb : b' ≤ b) : W.ownsRow b' e size v n xs := by
  obtain ⟨h1, h2⟩ := h
  refine ⟨h1, ?_⟩
  rcases h2 with h2 | ⟨g, cap, cur, hv, hg, r⟩
  · exact Or.inl h2
  · exact Or.inr ⟨g, cap, cur, hv, by omega, r⟩
/-- A row that was made from a later block on was made from an earlier one on. -/
theorem Outs.from {E : Nat} {q : IntKind} {w wr wi : World} {out : Value} {xs : List Int} (g : w.grownBy wr none) (h : Outs E q wr wi out xs) : Outs E q w wi out xs :=
  ⟨grownBy_trans g h.1, own_base h.2 g.size⟩
theorem Outs.drewN {E : Nat} {q : IntKind} {w wr : World} {out : Value} {xs : List Int} (h : Outs E q w wr out xs) (n : Nat) : Outs E q w (wr.drewN n) out xs :=
  ⟨grownBy_trans h.1 ⟨rfl, rfl, rfl, Nat.le_refl _, fun _ _ _ => rfl⟩, h.2.kept0 ⟨rfl, rfl, rfl, Nat.le_refl _, fun _ _ _ => rfl⟩⟩
/-- The call answers a list of numbers. -/
def Row10 (w : World) (xs : List Int) (e : Ending) (w' : World) : Prop :=
  ∃ A c, e = .returned (.slice A xs.length c) ∧ Reads w' w'.heap.size A (xs.map (Value.int .i64)) ∧ xs.length ≤ c ∧ c ≤ maxLen ∧ Below w.heap.size w w'
theorem Outs.row {E : Nat} {w w' : World} {out : Value} {xs : List Int} (h : Outs E .i64 w w' out xs) : Row10 w xs (.returned out) w' := by
  obtain ⟨A, n, c, rfl⟩ := own_form h.2
  obtain ⟨A', c', e⟩ := Own.slice h.2
  cases e
  have hle := own_le h.2
  rw [List.length_map] at hle
  exact ⟨A, c, by rw [List.length_map], Own.reads h.2, hle.1, hle.2, h.below⟩

set_option maxHeartbeats 8000000 in
theorem rorder_is (A : Option Addr) (c : Nat) (l : List Cal) (w : World) (hr : RowsN 18 w w.heap.size A (l.map Cal.cells)) (hl : l.length ≤ 100000) :
    Calls Try.prog 15 #[.slice A l.length c] w (Row10 w (natI (orderI l))) := by
  obtain ⟨ib, hib, hb0, hb1, hb2⟩ := info_parts (show (Try.prog.info? 3).map (fun i => (i.zero, i.size, i.bytes)) = some (some (.int .i64 0), 1, 8) by kernel_rfl)
  have IB := Lib.hid (⟨hib, hb0, hb1, hb2⟩ : _ ∧ _ ∧ _ ∧ _)
  clear hib hb0 hb1 hb2
  have HR := Lib.hid hr
  have S : Outs 3 .i64 w (w.alloc (.cells #[] 3)) (.slice (some ⟨w.heap.size, 0, none⟩) 0 0) (natI []) := ⟨World.grownBy_alloc _ _ _, Own.empty (Nat.le_refl _)⟩
  clear hr
  go_enter Try.func15, Try.ntmps15
  go_wp2_with fail
  go_loopg [3, 4, 5, 6, 7] l.length (fun g out i m put kk wr => ∃ k : Nat, k ≤ l.length ∧ g = l.length - k ∧ i = .int .i64 k ∧ Outs 3 .i64 w wr out (natI (ordTo l k)))
  case atStart => exact ⟨0, Nat.zero_le _, rfl, rfl, S⟩
  case round =>
    clear S
    obtain ⟨k, hk, rfl, rfl, S⟩ := hrel
    by_cases hlt : k < l.length
    · have HRI := Lib.hid (HR.out.below S.below)
      obtain ⟨ad, rfl, hadb, hli⟩ := cal_of HRI.out hlt
      obtain ⟨_, _, _, f3, _⟩ := cal_at hli
      have hpk : ptAt l k = l[k].point := pt_get (List.getElem?_eq_getElem hlt)
      have t0 : decide (k < l.length) = true := decide_eq_true hlt
      rw [← hpk] at f3
      obtain ⟨y, hy⟩ : ∃ y, ptAt l k = y := ⟨_, rfl⟩
      rw [hy] at f3
      have HY := Lib.hid hy
      have hno := fun h => show ordTo l (k + 1) = ordTo l k by rw [ordTo, if_pos h]
      have hyes := fun h => show ordTo l (k + 1) = insI l k (ordTo l k) by rw [ordTo, if_neg h]
      obtain ⟨r, hrr⟩ : ∃ r, ordTo l k = r := ⟨_, rfl⟩
      have HMEM : Hid (∀ x ∈ r, x < k) := Lib.hid fun x hx => (ord_mem.1 (by rw [hrr]; exact hx)).1
      have HLEN : Hid (r.length ≤ k) := Lib.hid (by rw [← hrr]; exact ord_len)
      rw [hrr] at S hno hyes
      have HNO := Lib.hid hno
      have HYES := Lib.hid hyes
      clear hli hpk hy hno hyes hrr
      obtain ⟨A', c', e⟩ := S.2.slice
      rw [List.length_map, natI_len] at e
      subst e
      obtain ⟨d, hd⟩ : ∃ d, (y == (-1 : Int)) = d := ⟨_, rfl⟩
      have HD := Lib.hid hd
      have HS := Lib.hid S
      clear S
      cases d with
      | true =>
        go_wp2_with fail
        go_roundg (l.length - (k + 1))
        case measure => omega
        case rel => exact ⟨k + 1, by omega, rfl, by go_num, by
          rw [HNO.out (by rw [HY.out]; simpa using HD.out)]
          exact HS.out⟩
      | false =>
        have HM : Hid (Outs 3 .i64 wr (wr.alloc (.cells #[] 3)) (.slice (some ⟨wr.heap.size, 0, none⟩) 0 0) (natI [])) := Lib.hid ⟨World.grownBy_alloc _ _ _, Own.empty (Nat.le_refl _)⟩
        go_wp2_with fail
        go_loopg [5, 6, 7] r.length (fun g m put kk wi => ∃ q : Nat, q ≤ r.length ∧ g = r.length - q ∧ kk = .int .i64 q ∧ put = .bool (overB l k (r.take q)) ∧ Outs 3 .i64 wr wi m (natI (midL l k (r.take q))))
        case atStart => exact ⟨0, Nat.zero_le _, rfl, rfl, rfl, HM.out⟩
        case round =>
          clear HM
          obtain ⟨q, hq, rfl, rfl, rfl, M⟩ := hrel
          have LB : Hid ((midL l k (r.take q)).length ≤ 100001) := Lib.hid (by have := @mid_len l k (r.take q); rw [List.length_take] at this; have := HLEN.out; omega)
          have hkl : k ≤ 100000 := by omega
          by_cases hqr : q < r.length
          · have t1 : decide (q < r.length) = true := decide_eq_true hqr
            have hown := (HS.out.2.kept0 M.1).reads
            obtain ⟨ad2, e2, _, fo⟩ := hown.int (k := q) (by rw [natI_len]; exact hqr)
            subst e2
            have hrq : (natI r)[q]'(by rw [natI_len]; exact hqr) = ((r[q] : Nat) : Int) := by unfold natI; rw [List.getElem_map]
            rw [hrq] at fo
            have hrk := HMEM.out _ (List.getElem_mem hqr)
            have htk := List.take_succ_eq_append_getElem hqr
            have hfo := fun (W : World) g => (HS.out.2.kept0 (w' := W) g).reads.int (k := q) (by rw [natI_len]; exact hqr)
            have HFO := Lib.hid hfo
            obtain ⟨x, hx⟩ : ∃ x, r[q] = x := ⟨_, rfl⟩
            rw [hx] at fo hrk htk hrq
            have HRQ := Lib.hid hrq
            have hrl : r.length ≤ 100000 := by have := HLEN.out; omega
            clear hfo
            have hxl : x < l.length := by omega
            have t2 : decide (x < l.length) = true := decide_eq_true hxl
            obtain ⟨ad3, e3, _, hlx⟩ := cal_of (HR.out.below (below_next HS.out.below M.below)) hxl
            cases e3
            obtain ⟨_, _, _, g3, _⟩ := cal_at hlx
            have hpx : ptAt l x = l[x].point := pt_get (List.getElem?_eq_getElem hxl)
            rw [← hpx] at g3
            obtain ⟨z, hz⟩ : ∃ z, ptAt l x = z := ⟨_, rfl⟩
            rw [hz] at g3
            have f3' := (M.below.cell (p := ⟨(ad.add (k * 18)).block, (ad.add (k * 18)).off + 3, none⟩) (by show (ad.add (k * 18)).block < _; rw [block_of_add]; exact Nat.lt_of_lt_of_le hadb HS.out.below.size)).trans f3
            obtain ⟨d, hd⟩ : ∃ d, decide (ptAt l k < ptAt l x) = d := ⟨_, rfl⟩
            have hov := @over_add l k x (r.take q)
            have hmo := @mid_over l k x (r.take q)
            have hmh := @mid_hit l k x (r.take q)
            have hmn := @mid_no l k x (r.take q)
            rw [← htk] at hov hmo hmh hmn
            rw [hd] at hov hmh hmn
            rw [HY.out, hz] at hd
            obtain ⟨p, hp⟩ : ∃ p, overB l k (r.take q) = p := ⟨_, rfl⟩
            rw [hp] at hov hmo hmh hmn
            have HOV := Lib.hid hov
            have HMO := Lib.hid hmo
            have HMH := Lib.hid hmh
            have HMN := Lib.hid hmn
            rw [hp]
            clear hov hmo hmh hmn hp hx htk hrq hown hlx hpx hz f3
            cases p with
            | true =>
              have HMD := Lib.hid M.drewN
              clear M
              go_wp2_with fail
              go_quiet (fail)
              go_wp2_with (at_builtin; refine wpList_append_one rfl (.tmp 50) (.tmp 55) 32 rfl ib (.int .i64 0) 8 Try.underlying32 IB.out.1 IB.out.2.1 IB.out.2.2.1 IB.out.2.2.2 rfl rfl _ (.int .i64 ((x : Nat) : Int)) rfl (HMD.out _).2 rfl (by rw [List.length_map, natI_len]; have := LB.out; simp [maxLen]; omega) (by rw [List.length_map, natI_len]; have := LB.out; omega) (HMD.out _).1.size ?_; intro out' w4 ho hg hb4; have S5 := (HMD.out _).app (ys := natI (midL l k (r.take q) ++ [x])) (by rw [natI_add]; simpa using ho) hg)
              clear ho hg hb4
              have HS5 := Lib.hid S5
              clear S5
              go_wp2_with fail
              go_roundg (r.length - (q + 1))
              case measure => omega
              case rel => exact ⟨q + 1, by omega, rfl, by go_num, by rw [HOV.out]; rfl, by rw [HMO.out (by trivial)]; exact HS5.out⟩
            | false =>
              cases d with
              | true =>
                have HMD := Lib.hid M.drewN
                clear M
                go_wp2_with fail
                go_quiet (fail)
                have LB2 : Hid ((midL l k (r.take q) ++ [k]).length ≤ 100002) := Lib.hid (by rw [List.length_append]; have := LB.out; simp; omega)
                go_wp2_with (first | (at_builtin; refine wpList_append_one rfl (.tmp 46) (.tmp 48) 32 rfl ib (.int .i64 0) 8 Try.underlying32 IB.out.1 IB.out.2.1 IB.out.2.2.1 IB.out.2.2.2 rfl rfl _ (.int .i64 ((k : Nat) : Int)) rfl (HMD.out _).2 rfl (by rw [List.length_map, natI_len]; have := LB.out; simp [maxLen]; omega) (by rw [List.length_map, natI_len]; have := LB.out; omega) (HMD.out _).1.size ?_; intro out' w4 ho hg hb4; have S6 := (HMD.out _).app (ys := natI (midL l k (r.take q) ++ [k])) (by rw [natI_add]; simpa using ho) hg; obtain ⟨_, e4, _, fo4⟩ := HFO.out _ S6.1; cases e4; rw [HRQ.out] at fo4) | (at_builtin; refine wpList_append_one rfl (.tmp 50) (.tmp 55) 32 rfl ib (.int .i64 0) 8 Try.underlying32 IB.out.1 IB.out.2.1 IB.out.2.2.1 IB.out.2.2.2 rfl rfl _ (.int .i64 ((x : Nat) : Int)) rfl S6.2 rfl (by rw [List.length_map, natI_len]; have := LB2.out; have := LB.out; simp [maxLen]; omega) (by rw [List.length_map, natI_len]; have := LB2.out; have := LB.out; omega) S6.1.size ?_; intro out' w5 ho hg hb4; have S5 := S6.app (ys := natI (midL l k (r.take q) ++ [k] ++ [x])) (by rw [natI_add]; simpa using ho) hg))
                clear ho hg hb4
                have HS5 := Lib.hid S5
                clear S5 S6
                go_wp2_with fail
                go_roundg (r.length - (q + 1))
                case measure => omega
                case rel => exact ⟨q + 1, by omega, rfl, by go_num, by rw [HOV.out]; rfl, by rw [HMH.out (by trivial) (by trivial)]; exact HS5.out⟩
              | false =>
                have HMD := Lib.hid M.drewN
                clear M
                go_wp2_with fail
                go_quiet (fail)
                go_wp2_with (at_builtin; refine wpList_append_one rfl (.tmp 50) (.tmp 55) 32 rfl ib (.int .i64 0) 8 Try.underlying32 IB.out.1 IB.out.2.1 IB.out.2.2.1 IB.out.2.2.2 rfl rfl _ (.int .i64 ((x : Nat) : Int)) rfl (HMD.out _).2 rfl (by rw [List.length_map, natI_len]; have := LB.out; simp [maxLen]; omega) (by rw [List.length_map, natI_len]; have := LB.out; omega) (HMD.out _).1.size ?_; intro out' w4 ho hg hb4; have S5 := (HMD.out _).app (ys := natI (midL l k (r.take q) ++ [x])) (by rw [natI_add]; simpa using ho) hg)
                clear ho hg hb4
                have HS5 := Lib.hid S5
                clear S5
                go_wp2_with fail
                go_roundg (r.length - (q + 1))
                case measure => omega
                case rel => exact ⟨q + 1, by omega, rfl, by go_num, by rw [HOV.out]; rfl, by rw [HMN.out (by trivial) (by trivial)]; exact HS5.out⟩
          · have t1 : decide (q < r.length) = false := decide_eq_false hqr
            obtain rfl : q = r.length := by omega
            rw [List.take_length] at M ⊢
            have HE := Lib.hid (@mid_end l k r)
            have HE0 := Lib.hid (@mid_end0 l k r)
            have HNX := Lib.hid (HYES.out (by rw [HY.out]; simpa using HD.out))
            obtain ⟨p, hp⟩ : ∃ p, overB l k r = p := ⟨_, rfl⟩
            rw [hp] at HE HE0 ⊢
            clear hp
            cases p with
            | true =>
              have HF0 := Outs.from HS.out.1 M
              rw [HE.out (by trivial), ← HNX.out] at HF0
              have HF := Lib.hid HF0
              clear M HF0
              go_wp2_with fail
              go_roundg (l.length - (k + 1))
              case measure => omega
              case rel => exact ⟨k + 1, by omega, rfl, by go_num, HF.out⟩
            | false =>
              rw [List.take_length] at LB
              go_wp2_with (at_builtin; refine wpList_append_one rfl (.tmp 59) (.tmp 61) 32 rfl ib (.int .i64 0) 8 Try.underlying32 IB.out.1 IB.out.2.1 IB.out.2.2.1 IB.out.2.2.2 rfl rfl _ (.int .i64 ((k : Nat) : Int)) rfl M.2 rfl (by rw [List.length_map, natI_len]; have := LB.out; simp [maxLen]; omega) (by rw [List.length_map, natI_len]; have := LB.out; omega) M.1.size ?_; intro out' w4 ho hg hb4; have S5 := M.app (ys := natI (midL l k r ++ [k])) (by rw [natI_add]; simpa using ho) hg)
              clear ho hg hb4
              have HF0 := Outs.from HS.out.1 S5
              rw [HE0.out (by trivial), ← HNX.out] at HF0
              have HF := Lib.hid HF0
              clear M S5 HF0
              go_wp2_with fail
              go_roundg (l.length - (k + 1))
              case measure => omega
              case rel => exact ⟨k + 1, by omega, rfl, by go_num, HF.out⟩
    · have t0 : decide (k < l.length) = false := decide_eq_false hlt
      obtain rfl : k = l.length := by omega
      go_wp2_with fail
      go_ret
      exact S.row
end Go.Proofs.Ytglnofdncglmnaa
