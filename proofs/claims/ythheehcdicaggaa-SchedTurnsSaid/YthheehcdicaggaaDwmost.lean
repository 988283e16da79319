/- sched.longestWait, Most, Fair of the program; all four calls. -/
import Derived.Test.YthheehcdicaggaaDwpick
import Derived.Test.YthheehcdicaggaaDwait
namespace Go.Proofs.Ythheehcdicaggaa
open Go.RowKit
set_option linter.unusedVariables false
set_option linter.unusedSimpArgs false
set_option maxRecDepth 100000

def natsV (ss : List Nat) : List Value := ss.map (fun n : Nat => Value.int .i64 (n : Int))
theorem natsV_at {ss : List Nat} {t s : Nat} (h : ss[t]? = some s) : (natsV ss)[t]? = some (.int .i64 (s : Int)) := by unfold natsV; rw [List.getElem?_map, h]; rfl
theorem natsV_set (ss : List Nat) (t s : Nat) : (natsV ss).set t (.int .i64 (s : Int)) = natsV (ss.set t s) := by unfold natsV; rw [List.map_set]
theorem natsV_zeros (T : Nat) : natsV (List.replicate T 0) = List.replicate T (.int .i64 0) := by unfold natsV; rw [List.map_replicate]; rfl

set_option maxHeartbeats 4000000 in
theorem wait_is (A : Option Addr) (c : Nat) (l : List Int) (T : Nat) (w : World) (hn : NumsIn w A c l) (hl : l.length ≤ 400) (hT : T ≤ 20) :
    Calls Try.prog 21 #[.slice A l.length c, .int .i64 T] w fun e w' => ∃ L : Nat, e = .returned (.int .i64 L) ∧ mostF l T l.length 1 = L + 1 ∧ Below w.heap.size w w' := by
  obtain ⟨ib, hib, hb0, hb1, hb2⟩ := info_parts num_info
  have IB := Lib.hid (⟨hib, hb0, hb1, hb2⟩ : _ ∧ _ ∧ _ ∧ _)
  have HN := Lib.hid hn
  clear hib hb0 hb1 hb2 hn
  go_enter Try.func21, Try.ntmps21
  go_wp2_with (first | refine wpList_make_full w rfl (.tmp 11) (.tmp 11) 22 rfl w.heap.size 3 ib (.int .i64 0) 1 Try.underlying22 IB.out.1 IB.out.2.1 IB.out.2.2.1 .i64 .i64 (T : Int) (T : Int) T rfl rfl rfl rfl (by rw [IB.out.2.2.2]; omega) (by simp [maxLen]; omega) (Nat.le_refl _) ?_; intro w1 ho hg)
  have S : Hid (w1.ownsRow w.heap.size 3 1 (.slice (some ⟨w.heap.size, 0, none⟩) T T) T (natsV (List.replicate T 0))) := Lib.hid (by rw [natsV_zeros, ← zeros_len]; exact ho)
  have G := Lib.hid hg
  clear ho hg
  go_loopg [5, 15] l.length (fun g v i wr => ∃ (k L : Nat) (ss : List Nat), k ≤ l.length ∧ g = l.length - k ∧ v = .int .i64 L ∧ L ≤ l.length ∧ i = .int .i64 k ∧ Waits l T k ss 0 L ∧ wr.ownsRow w.heap.size 3 1 (.slice (some ⟨w.heap.size, 0, none⟩) T T) T (natsV ss) ∧ w.grownBy wr none)
  case atStart => exact ⟨0, 0, _, Nat.zero_le _, rfl, rfl, Nat.zero_le _, rfl, Waits.start l T, S.out, G.out⟩
  case round =>
    clear S G
    obtain ⟨k, L, ss, hk, rfl, rfl, hL, rfl, hW, ho, hg⟩ := hrel
    by_cases hlt : k < l.length
    · have t1 : decide ((k : Int) < (l.length : Int)) = true := by rw [decide_eq_true_eq]; omega
      have t1' : decide (k < l.length) = true := by rw [decide_eq_true_eq]; omega
      have B := (Below.refl w.heap.size w).grown hg (Nat.le_refl _) (fun b e => by cases e)
      obtain ⟨ad, rfl, _, f0⟩ := (HN.out.r.below B).int hlt
      have hv := HN.out.v _ (List.getElem_mem hlt)
      have hxk : l[k]? = some l[k] := List.getElem?_eq_getElem hlt
      obtain ⟨x, hx⟩ : ∃ x, l[k] = x := ⟨_, rfl⟩
      rw [hx] at f0 hv hxk
      have HV := Lib.hid hv
      have HXK := Lib.hid hxk
      have HW := Lib.hid hW
      have HG := Lib.hid hg
      have HO := Lib.hid ho
      clear hx B hv hxk hW hg ho
      by_cases hbad : x < 0 ∨ (T : Int) ≤ x
      · have two : decide (x < 0) = true ∨ (decide (x < 0) = false ∧ decide ((T : Int) ≤ x) = true) := by
          rw [decide_eq_true_eq, decide_eq_false_iff_not, decide_eq_true_eq]; omega
        have HW2 := Lib.hid (HW.out.skip fun t ht => by rw [HXK.out]; intro e; injection e with e; omega)
        clear hbad
        rcases two with h1 | ⟨h1, h2⟩
        all_goals
          go_wp2_with fail
          go_roundg (l.length - (k + 1))
          case measure => omega
          case rel => exact ⟨k + 1, L, ss, by omega, rfl, rfl, hL, by go_num, HW2.out, HO.out, HG.out⟩
      · obtain ⟨m, rfl⟩ : ∃ m : Nat, x = (m : Int) := ⟨x.toNat, by omega⟩
        have hm : m < T := by omega
        have h1 : decide ((m : Int) < 0) = false := by rw [decide_eq_false_iff_not]; omega
        have h2 : decide ((T : Int) ≤ (m : Int)) = false := by rw [decide_eq_false_iff_not]; omega
        have h2' : decide (T ≤ m) = false := by rw [decide_eq_false_iff_not]; omega
        obtain ⟨s, hs⟩ : ∃ s, ss[m]? = some s := ⟨_, List.getElem?_eq_getElem (by rw [HW.out.len]; exact hm)⟩
        have hs1 := (HW.out.le m s hs).1
        have fz := HO.out.frozenAt m
        have hcell := HO.out.cellAt m (by omega)
        rw [natsV_at hs] at hcell
        have hst := HO.out.stored m (.int .i64 ((k + 1 : Nat) : Int))
        rw [natsV_set] at hst
        have HST := Lib.hid hst
        have HG2 := Lib.hid (grownBy_over HG.out hst.2 (Nat.le_refl _))
        have HW2 := Lib.hid (HW.out.hit HXK.out hs)
        clear hbad hs hst
        go_wp2_with fail
        all_goals
          go_roundg (l.length - (k + 1))
          case measure => omega
          case rel => exact ⟨k + 1, max L (k - s), ss.set m (k + 1), by omega, rfl, by congr 1; omega, by omega, by go_num, HW2.out, HST.out.1, HG2.out⟩
    · obtain rfl : k = l.length := by omega
      have t1 : decide ((l.length : Int) < (l.length : Int)) = false := by rw [decide_eq_false_iff_not]; omega
      have HW := Lib.hid hW
      have HG := Lib.hid hg
      have HO := Lib.hid ho
      have HTL := Lib.hid hW.len
      clear hW hg ho
      go_wp2_with fail
      go_loopg [5, 43] T (fun g v i wi => ∃ (j R : Nat), j ≤ T ∧ g = T - j ∧ v = .int .i64 R ∧ R ≤ l.length ∧ i = .int .i64 j ∧ Waits l T l.length ss j R ∧ wi = wr)
      case atStart => exact ⟨0, L, Nat.zero_le _, rfl, rfl, hL, rfl, HW.out, rfl⟩
      case round =>
        obtain ⟨j, R, hj, rfl, rfl, hR, rfl, hW2, rfl⟩ := hrel
        have HW2 := Lib.hid hW2
        clear hW2
        by_cases hjt : j < T
        · have t2 : decide ((j : Int) < (T : Int)) = true := by rw [decide_eq_true_eq]; omega
          have t2' : decide (j < T) = true := by rw [decide_eq_true_eq]; omega
          obtain ⟨s, hs⟩ : ∃ s, ss[j]? = some s := ⟨_, List.getElem?_eq_getElem (by rw [HTL.out]; exact hjt)⟩
          have hs1 := (HW.out.le j s hs).1
          have hcell := HO.out.cellAt j (by omega)
          rw [natsV_at hs] at hcell
          have HW3 := Lib.hid (HW2.out.close hs)
          clear hs
          go_wp2_with fail
          all_goals
            go_roundg (T - (j + 1))
            case measure => omega
            case rel => exact ⟨j + 1, max R (l.length - s), by omega, rfl, by congr 1; omega, by omega, by go_num, HW3.out, rfl⟩
        · obtain rfl : j = T := by omega
          have t2 : decide ((j : Int) < (j : Int)) = false := by rw [decide_eq_false_iff_not]; omega
          go_wp2_with fail
          go_ret
          exact ⟨R, rfl, HW2.out.most, (Below.refl _ _).grown HG.out (Nat.le_refl _) (fun b e => by cases e)⟩

theorem mostI_pos {l : List Int} {T : Nat} (hT : 1 ≤ T) : mostI l T = ((mostF l T l.length 1 : Nat) : Int) := by
  unfold mostI
  rw [if_neg (by omega), Int.toNat_natCast]
theorem most9_is (A : Option Addr) (c : Nat) (l : List Int) (t : Int) (w : World) (hn : NumsIn w A c l) (hl : l.length ≤ 400) (ht : I64 t) (hT : t ≤ 20) :
    Calls Try.prog 16 #[.slice A l.length c, .int .i64 t] w (One9 w (mostI l t)) := by
  by_cases h1 : t < 1
  · have t1 : decide (t < 1) = true := decide_eq_true h1
    rw [show mostI l t = 0 by unfold mostI; rw [if_pos h1]]
    clear h1 ht hn
    go_enter Try.func16, Try.ntmps16
    go_wp2_with fail
    go_ret
    exact ⟨rfl, Below.refl _ _⟩
  · have t1 : decide (t < 1) = false := decide_eq_false h1
    obtain ⟨T, rfl⟩ : ∃ T : Nat, t = (T : Int) := ⟨t.toNat, by omega⟩
    rw [mostI_pos (by omega)]
    by_cases h2 : l.length < T
    · have t2 : decide ((l.length : Int) < (T : Int)) = true := by rw [decide_eq_true_eq]; omega
      have t2' : decide (l.length < T) = true := decide_eq_true h2
      rw [most_more h2]
      clear h1 h2 ht hn
      go_enter Try.func16, Try.ntmps16
      go_wp2_with fail
      go_ret
      exact ⟨by go_num, Below.refl _ _⟩
    · have t2 : decide ((l.length : Int) < (T : Int)) = false := by rw [decide_eq_false_iff_not]; omega
      have t2' : decide (l.length < T) = false := decide_eq_false h2
      have hcall := wait_is A c l T w hn hl (by omega)
      obtain ⟨M, hM⟩ : ∃ M, mostF l T l.length 1 = M := ⟨_, rfl⟩
      have hle : M ≤ l.length + 1 := by rw [← hM]; exact most_le (fair_big (by omega)) (by omega)
      rw [hM] at hcall ⊢
      clear h1 h2 ht hn hM
      go_enter Try.func16, Try.ntmps16
      go_wp2_with fail
      refine hcall.mono ?_
      rintro e w1 ⟨L, rfl, hL, B⟩
      have HL := Lib.hid hL
      have HB := Lib.hid B
      have hLb : L ≤ 400 := by omega
      clear hcall hL B
      go_wp2_with fail
      go_ret
      exact ⟨by rw [HL.out]; rfl, HB.out⟩

theorem fair_most {l : List Int} {T : Nat} {b : Int} (hT : 1 ≤ T) : fairI l T b = decide (mostI l T ≤ b) := by
  rw [mostI_pos hT]
  unfold fairI
  rw [decide_eq_true (show (1 : Int) ≤ T by omega), Bool.true_and, Int.toNat_natCast]
  have hge := most_ge l T l.length 1
  by_cases hb : 1 ≤ b
  · rw [decide_eq_true hb, Bool.true_and, Bool.eq_iff_iff, decide_eq_true_eq]
    refine ⟨fun h => ?_, fun h => ?_⟩
    · have := most_le (f := l.length) (b := 1) h (by omega)
      omega
    · exact fair_more (most_is_fair l T) (by omega)
  · rw [decide_eq_false hb, Bool.false_and]
    symm
    rw [decide_eq_false_iff_not]
    omega

theorem fair9_is (A : Option Addr) (c : Nat) (l : List Int) (t b : Int) (w : World) (hn : NumsIn w A c l) (hl : l.length ≤ 400) (ht : I64 t) (hT : t ≤ 20) (hb : I64 b) :
    Calls Try.prog 14 #[.slice A l.length c, .int .i64 t, .int .i64 b] w (Says w (fairI l t b)) := by
  by_cases h1 : t < 1
  · have t1 : decide ((1 : Int) ≤ t) = false := by rw [decide_eq_false_iff_not]; omega
    rw [show fairI l t b = false by unfold fairI; rw [t1, Bool.false_and, Bool.false_and]]
    clear h1 ht hn hb
    go_enter Try.func14, Try.ntmps14
    go_wp2_with fail
    go_ret
    exact ⟨rfl, Below.refl _ _⟩
  · have t1 : decide ((1 : Int) ≤ t) = true := by rw [decide_eq_true_eq]; omega
    have hcall := most9_is A c l t w hn hl ht hT
    have HF : Hid (fairI l t b = decide (mostI l t ≤ b)) := Lib.hid (by
      obtain ⟨T, rfl⟩ : ∃ T : Nat, t = (T : Int) := ⟨t.toNat, by omega⟩
      exact fair_most (by omega))
    rw [HF.out]
    obtain ⟨M, hM⟩ : ∃ M, mostI l t = M := ⟨_, rfl⟩
    rw [hM] at hcall ⊢
    obtain ⟨d, hd⟩ : ∃ d, decide (M ≤ b) = d := ⟨_, rfl⟩
    rw [hd]
    clear h1 ht hn hb hM HF
    go_enter Try.func14, Try.ntmps14
    go_wp2_with fail
    refine hcall.mono ?_
    rintro e w1 ⟨rfl, B⟩
    have HB := Lib.hid B
    clear hcall B
    go_wp2_with fail
    go_ret
    exact ⟨rfl, HB.out⟩

theorem words9 : Words9 :=
  ⟨fun p A c l w hn hl hp => pick9_is p A c l w hn hl hp, fun t n w ht hn => round9_is t n w ht hn, fun A c l t b w hn hl ht hT hb => fair9_is A c l t b w hn hl ht hT hb, fun A c l t w hn hl ht hT => most9_is A c l t w hn hl ht hT⟩
end Go.Proofs.Ythheehcdicaggaa
