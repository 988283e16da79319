/- The document's Is, Big, Same of layer 11. -/
import Derived.Test.YtbbcgcinpodhkaaFin
import Derived.Test.YtbbcgcinpodhkaaStill
import Derived.Deep.LoopGhost
namespace Go.Proofs.Ytbbcgcinpodhkaa
open Go.RowKit
set_option linter.unusedVariables false
set_option linter.unusedSimpArgs false
set_option maxRecDepth 100000

theorem vals_at {rs : List Rw} {k : Nat} (hk : k < rs.length) : (valsOf rs)[k]? = some rs[k].l := by unfold valsOf; rw [List.getElem?_map, List.getElem?_eq_getElem hk]; rfl
theorem all_take {rs : List Rw} {p : List Int → Bool} {k : Nat} (hk : k < rs.length) : (valsOf (rs.take (k + 1))).all p = ((valsOf (rs.take k)).all p && p rs[k].l) := by
  unfold valsOf
  rw [List.take_succ_eq_append_getElem hk, List.map_append, List.all_append]
  simp
theorem all_miss {rs : List Rw} {p : List Int → Bool} {k : Nat} (hk : k < rs.length) (h : p rs[k].l = false) : (valsOf rs).all p = false := by
  rw [Bool.eq_false_iff]
  intro ha
  have := List.all_eq_true.1 ha rs[k].l (List.mem_of_getElem? (vals_at hk))
  rw [h] at this
  cases this
theorem any_yes {rs : List Rw} {p : List Int → Bool} {k : Nat} (hk : k < rs.length) (h : p rs[k].l = true) : (valsOf rs).any p = true := List.any_eq_true.2 ⟨_, List.mem_of_getElem? (vals_at hk), h⟩
theorem any_take11 {rs : List Rw} {p : List Int → Bool} {k : Nat} (hk : k < rs.length) : (valsOf (rs.take (k + 1))).any p = ((valsOf (rs.take k)).any p || p rs[k].l) := by
  unfold valsOf
  rw [List.take_succ_eq_append_getElem hk, List.map_append, List.any_append]
  simp

theorem ris11_is (q : IntKind) (A : Option Addr) (c : Nat) (rs : List Rw) (w : World) (h : GridIn q w A c rs) :
    Calls Try.prog 17 #[.slice A rs.length c] w fun e w' => e = .returned (.bool (isC (valsOf rs))) ∧ w' = w := by
  have m1 := Nat.le_trans h.lc h.cm
  unfold maxLen at m1
  have H := Lib.hid h
  clear h
  go_enter Try.func17, Try.ntmps17
  go_wp2_with fail
  go_loopg [3] rs.length (fun g i wr => ∃ k : Nat, k ≤ rs.length ∧ g = rs.length - k ∧ i = .int .i64 k ∧ (valsOf (rs.take k)).all (fun r => decide (r.length = 6)) = true ∧ wr = w)
  case atStart => exact ⟨0, Nat.zero_le _, rfl, rfl, rfl, rfl⟩
  case round =>
    obtain ⟨k, hk, rfl, rfl, hno, rfl⟩ := hrel
    have HN := Lib.hid hno
    clear hno
    by_cases hlt : k < rs.length
    · have t1 : decide ((k : Int) < (rs.length : Int)) = true := by rw [decide_eq_true_eq]; omega
      obtain ⟨ad, rfl, _, f0, hrw⟩ := H.out.row hlt
      have hnx := all_take (p := fun r => decide (r.length = 6)) hlt
      have hms := all_miss (p := fun r => decide (r.length = 6)) hlt
      obtain ⟨x, hx⟩ : ∃ x, rs[k] = x := ⟨_, rfl⟩
      rw [hx] at f0 hnx hms hrw
      have HNX := Lib.hid hnx
      have HMS := Lib.hid hms
      have hxl : x.l.length ≤ 9223372036854775807 := by have := Nat.le_trans hrw.lc hrw.cm; unfold maxLen at this; omega
      clear hx hnx hms hrw
      by_cases h6 : x.l.length = 6
      · have t2 : ((x.l.length : Int) != 6) = false := by rw [h6]; rfl
        have t3 : decide (x.l.length = 6) = true := decide_eq_true h6
        have T3 := Lib.hid t3
        clear h6 t3
        go_wp2_with fail
        go_roundg (rs.length - (k + 1))
        case measure => omega
        case rel => exact ⟨k + 1, by omega, rfl, by go_num, by rw [HNX.out, HN.out, T3.out]; rfl, rfl⟩
      · have t2 : ((x.l.length : Int) != 6) = true := by rw [bne_iff_ne]; omega
        have HF : Hid (false = isC (valsOf rs)) := Lib.hid (by unfold isC; rw [HMS.out (decide_eq_false h6)]; rfl)
        clear h6
        go_wp2_with fail
        go_ret
        exact ⟨ret_bool HF.out, rfl⟩
    · obtain rfl : k = rs.length := by omega
      have t1 : decide ((rs.length : Int) < (rs.length : Int)) = false := by rw [decide_eq_false_iff_not]; omega
      rw [List.take_length] at HN
      obtain ⟨d1, hd1⟩ : ∃ d, decide ((1 : Int) ≤ (rs.length : Int)) = d := ⟨_, rfl⟩
      obtain ⟨d2, hd2⟩ : ∃ d, decide ((rs.length : Int) ≤ 8) = d := ⟨_, rfl⟩
      have HF : Hid (isC (valsOf rs) = (d1 && d2)) := Lib.hid (by
        unfold isC
        rw [HN.out, Bool.true_and, vals_len, ← hd1, ← hd2]
        congr 1
        · rw [Bool.eq_iff_iff, decide_eq_true_eq, decide_eq_true_eq]; omega
        · rw [Bool.eq_iff_iff, decide_eq_true_eq, decide_eq_true_eq]; omega)
      cases d1 with
      | false =>
        go_wp2_with fail
        go_ret
        exact ⟨by rw [HF.out]; rfl, rfl⟩
      | true =>
        go_wp2_with fail
        go_ret
        exact ⟨by rw [HF.out]; rfl, rfl⟩

theorem rbig11_is (q : IntKind) (A : Option Addr) (c : Nat) (rs : List Rw) (w : World) (h : GridIn q w A c rs) :
    Calls Try.prog 7 #[.slice A rs.length c] w fun e w' => e = .returned (.bool (bigC (valsOf rs))) ∧ w' = w := by
  have m1 := Nat.le_trans h.lc h.cm
  unfold maxLen at m1
  have H := Lib.hid h
  clear h
  obtain ⟨d0, hd0⟩ : ∃ d, decide ((rs.length : Int) ≤ 50) = d := ⟨_, rfl⟩
  go_enter Try.func7, Try.ntmps7
  go_wp2_with fail
  go_loopg [3] rs.length (fun g i wr => ∃ k : Nat, k ≤ rs.length ∧ g = rs.length - k ∧ i = .int .i64 k ∧ (valsOf (rs.take k)).any (fun r => decide (50 < r.length)) = false ∧ wr = w)
  case atStart => exact ⟨0, Nat.zero_le _, rfl, rfl, rfl, rfl⟩
  case round =>
    obtain ⟨k, hk, rfl, rfl, hno, rfl⟩ := hrel
    have HN := Lib.hid hno
    clear hno
    have hbig : d0 = false → decide (50 < rs.length) = true := fun h => by rw [h, decide_eq_false_iff_not] at hd0; rw [decide_eq_true_eq]; omega
    have hsm : d0 = true → decide (50 < rs.length) = false := fun h => by rw [h, decide_eq_true_eq] at hd0; rw [decide_eq_false_iff_not]; omega
    by_cases hlt : k < rs.length
    · have t1 : decide ((k : Int) < (rs.length : Int)) = true := by rw [decide_eq_true_eq]; omega
      cases d0 with
      | false =>
        have e0 := hbig rfl
        have t5 : decide ((50 : Int) < (rs.length : Int)) = true := by rw [decide_eq_true_eq] at e0 ⊢; omega
        have HF : Hid (true = bigC (valsOf rs)) := Lib.hid (by unfold bigC; rw [vals_len, e0]; rfl)
        clear hbig hsm e0
        go_wp2_with fail
        go_ret
        exact ⟨ret_bool HF.out, rfl⟩
      | true =>
        obtain ⟨ad, rfl, _, f0, hrw⟩ := H.out.row hlt
        have hnx := any_take11 (p := fun r => decide (50 < r.length)) hlt
        have hms := any_yes (p := fun r => decide (50 < r.length)) hlt
        obtain ⟨x, hx⟩ : ∃ x, rs[k] = x := ⟨_, rfl⟩
        rw [hx] at f0 hnx hms hrw
        have HNX := Lib.hid hnx
        have HMS := Lib.hid hms
        have hxl : x.l.length ≤ 9223372036854775807 := by have := Nat.le_trans hrw.lc hrw.cm; unfold maxLen at this; omega
        clear hx hnx hms hrw hbig hsm
        by_cases h6 : 50 < x.l.length
        · have t2 : decide ((50 : Int) < (x.l.length : Int)) = true := by rw [decide_eq_true_eq]; omega
          have HF : Hid (true = bigC (valsOf rs)) := Lib.hid (by unfold bigC; rw [HMS.out (decide_eq_true h6), Bool.or_true])
          clear h6
          go_wp2_with fail
          go_ret
          exact ⟨ret_bool HF.out, rfl⟩
        · have t2 : decide ((50 : Int) < (x.l.length : Int)) = false := by rw [decide_eq_false_iff_not]; omega
          have T3 := Lib.hid (decide_eq_false h6)
          clear h6
          go_wp2_with fail
          go_roundg (rs.length - (k + 1))
          case measure => omega
          case rel => exact ⟨k + 1, by omega, rfl, by go_num, by rw [HNX.out, HN.out, T3.out]; rfl, rfl⟩
    · obtain rfl : k = rs.length := by omega
      have t1 : decide ((rs.length : Int) < (rs.length : Int)) = false := by rw [decide_eq_false_iff_not]; omega
      rw [List.take_length] at HN
      obtain ⟨d5, hd5⟩ : ∃ d, decide ((50 : Int) < (rs.length : Int)) = d := ⟨_, rfl⟩
      have HF : Hid (d5 = bigC (valsOf rs)) := Lib.hid (by
        unfold bigC
        rw [HN.out, Bool.or_false, vals_len, ← hd5, Bool.eq_iff_iff, decide_eq_true_eq, decide_eq_true_eq]
        omega)
      clear hbig hsm hd0
      go_wp2_with fail
      go_ret
      exact ⟨ret_bool HF.out, rfl⟩

theorem far_cell {B : Nat} {wr : World} {p : Addr} {v : Value} (hb : p.block < B) (h : wr.cell? p = some v) : ∀ i : Far B wr, i.v.cell? p = some v := fun i => (i.p.cell hb).trans h

set_option maxHeartbeats 4000000 in
theorem rsame11_is (A1 A2 : Option Addr) (c1 c2 : Nat) (xs ys : List Rw) (w : World) (h1 : GridIn .u64 w A1 c1 xs) (h2 : GridIn .u64 w A2 c2 ys) (hv : valsOf xs = valsOf ys) :
    Calls Try.prog 15 #[.slice A1 xs.length c1, .slice A2 ys.length c2] w fun e w' => e = .returned (.bool true) ∧ Below w.heap.size w w' := by
  have m1 := Nat.le_trans h1.lc h1.cm
  unfold maxLen at m1
  have hlen : ys.length = xs.length := by rw [← vals_len ys, ← hv, vals_len]
  have hrow : ∀ k (hk : k < xs.length) (hy : k < ys.length), ys[k].l = xs[k].l := fun k hk hy => by
    have h := vals_at hk
    rw [hv, vals_at hy] at h
    injection h
  have t0 : ((xs.length : Int) != (xs.length : Int)) = false := by simp
  have H1 := Lib.hid h1
  have H2 := Lib.hid h2
  have HR := Lib.hid hrow
  have HL := Lib.hid hlen
  rw [hlen]
  clear h1 h2 hrow hv hlen
  go_enter Try.func15, Try.ntmps15
  go_wp2_with fail
  go_loopg [5, 6] xs.length (fun g i j wr => ∃ k : Nat, k ≤ xs.length ∧ g = xs.length - k ∧ i = .int .i64 k ∧ Below w.heap.size w wr)
  case atStart => exact ⟨0, Nat.zero_le _, rfl, rfl, Below.refl _ _⟩
  case round =>
    obtain ⟨k, hk, rfl, rfl, B⟩ := hrel
    have BR := Lib.hid B
    by_cases hlt : k < xs.length
    · have t1 : decide ((k : Int) < (xs.length : Int)) = true := by rw [decide_eq_true_eq]; omega
      have t1' : decide (k < xs.length) = true := decide_eq_true hlt
      obtain ⟨a1, rfl, b1, f1, g1⟩ := H1.out.row hlt
      have hyl : k < ys.length := by rw [HL.out]; exact hlt
      obtain ⟨a2, rfl, b2, f2, g2⟩ := H2.out.row hyl
      rw [HR.out k hlt hyl] at f2
      have hg2 := g2.rd
      rw [HR.out k hlt hyl] at hg2
      have hxl : xs[k].l.length ≤ 9223372036854775807 := by have := Nat.le_trans g1.lc g1.cm; unfold maxLen at this; omega
      have F1 := far_cell (p := a1.add k) (by rw [block_of_add]; exact b1) ((B.cell (p := a1.add k) (by rw [block_of_add]; exact b1)).trans f1)
      have F2 := far_cell (p := a2.add k) (by rw [block_of_add]; exact b2) ((B.cell (p := a2.add k) (by rw [block_of_add]; exact b2)).trans f2)
      have HG1 := Lib.hid g1.rd
      have HG2 := Lib.hid hg2
      obtain ⟨p1, hp1⟩ : ∃ p, xs[k].a = p := ⟨_, rfl⟩
      obtain ⟨p2, hp2⟩ : ∃ p, ys[k].a = p := ⟨_, rfl⟩
      obtain ⟨l, hl⟩ : ∃ l, xs[k].l = l := ⟨_, rfl⟩
      obtain ⟨d1, hd1⟩ : ∃ p, xs[k].c = p := ⟨_, rfl⟩
      obtain ⟨d2, hd2⟩ : ∃ p, ys[k].c = p := ⟨_, rfl⟩
      rw [hp1, hl, hd1] at F1
      rw [hp2, hl, hd2] at F2
      rw [hp1, hl] at HG1
      rw [hp2, hl] at HG2
      rw [hl] at hxl
      have t2 : ((l.length : Int) != (l.length : Int)) = false := by simp
      clear f1 f2 g1 g2 hg2 hp1 hp2 hl hd1 hd2 B
      go_wp2_with fail
      refine wp_region_far (B := w.heap.size) (by kernel_rfl) (by kernel_rfl) ?_
      iterate 11 go_big_quiet_step (fail)
      refine wpQuiet_nil ?_
      rintro _ ⟨i, rfl⟩
      have BI := Lib.hid (BR.out.trans i.p)
      have f1 := F1 i
      obtain ⟨W5, hW5⟩ : ∃ W5, i.v = W5 := ⟨_, rfl⟩
      have F1' : ∀ W, Below w.heap.size w W → W.cell? (a1.add k) = some (.slice p1 l.length d1) := fun W hW => by
        have h1 := F1 ⟨wr, Below.refl _ _⟩
        exact (hW.cell (by rw [block_of_add]; exact b1)).trans ((BR.out.cell (p := a1.add k) (by rw [block_of_add]; exact b1)).symm.trans h1)
      have F2' : ∀ W, Below w.heap.size w W → W.cell? (a2.add k) = some (.slice p2 l.length d2) := fun W hW => by
        have h1 := F2 ⟨wr, Below.refl _ _⟩
        exact (hW.cell (by rw [block_of_add]; exact b2)).trans ((BR.out.cell (p := a2.add k) (by rw [block_of_add]; exact b2)).symm.trans h1)
      have HF1 := Lib.hid F1'
      have HF2 := Lib.hid F2'
      rw [hW5] at BI ⊢
      clear hW5 F1 F2 F1' F2' f1
      go_wp2_with fail
      go_loopg [6] l.length (fun g j wi => ∃ n : Nat, n ≤ l.length ∧ g = l.length - n ∧ j = .int .i64 n ∧ Below w.heap.size w wi)
      case atStart => exact ⟨0, Nat.zero_le _, rfl, rfl, BI.out⟩
      case round =>
        obtain ⟨n, hn, rfl, rfl, B⟩ := hrel
        have B9 := Lib.hid B
        have f1 := HF1.out _ B
        by_cases hnl : n < l.length
        · have t3 : decide ((n : Int) < (l.length : Int)) = true := by rw [decide_eq_true_eq]; omega
          have t3' : decide (n < l.length) = true := decide_eq_true hnl
          obtain ⟨r1, rfl, c1', u1⟩ := (HG1.out.below B).int hnl
          obtain ⟨r2, rfl, c2', u2⟩ := (HG2.out.below B).int hnl
          have G1 := far_cell (p := a1.add k) (B := w.heap.size) (by rw [block_of_add]; exact b1) f1
          have G2 := far_cell (p := a2.add k) (B := w.heap.size) (by rw [block_of_add]; exact b2) (HF2.out _ B)
          have U1 := far_cell (p := r1.add n) (B := w.heap.size) (by rw [block_of_add]; exact c1') u1
          have U2 := far_cell (p := r2.add n) (B := w.heap.size) (by rw [block_of_add]; exact c2') u2
          obtain ⟨x, hx⟩ : ∃ x, l[n] = x := ⟨_, rfl⟩
          rw [hx] at U1 U2
          have t4 : (x != x) = false := by simp
          clear u1 u2 hx B
          go_wp2_with fail
          refine wp_region_far (B := w.heap.size) (by kernel_rfl) (by kernel_rfl) ?_
          iterate 15 go_big_quiet_step (fail)
          refine wpQuiet_nil ?_
          rintro _ ⟨i, rfl⟩
          have BI2 := Lib.hid (B9.out.trans i.p)
          obtain ⟨W6, hW6⟩ : ∃ W6, i.v = W6 := ⟨_, rfl⟩
          rw [hW6] at BI2 ⊢
          clear hW6 G1 G2 U1 U2 f1
          go_wp2_with fail
          go_roundg (l.length - (n + 1))
          case measure => omega
          case rel => exact ⟨n + 1, by omega, rfl, by go_num, BI2.out⟩
        · obtain rfl : n = l.length := by omega
          have t3 : decide ((l.length : Int) < (l.length : Int)) = false := by rw [decide_eq_false_iff_not]; omega
          clear B
          go_wp2_with fail
          go_roundg (xs.length - (k + 1))
          case measure => omega
          case rel => exact ⟨k + 1, by omega, rfl, by go_num, B9.out⟩
    · obtain rfl : k = xs.length := by omega
      have t1 : decide ((xs.length : Int) < (xs.length : Int)) = false := by rw [decide_eq_false_iff_not]; omega
      clear B
      go_wp2_with fail
      go_ret
      exact ⟨rfl, BR.out⟩
end Go.Proofs.Ytbbcgcinpodhkaa
