/- The document's Bytes. -/
import Derived.Test.YtmjdamcbdclgpaaM3
import Derived.Test.YtmjdamcbdclgpaaM1
import Derived.Test.YtmjdamcbdclgpaaRows
import Derived.ProofKit
import Derived.Below
import Derived.Test.YtmjdamcbdclgpaaFlat
import Derived.RegionTactic
import Derived.Deep.LoopGhost
namespace Go.Proofs.Ytmjdamcbdclgpaa
open Go.RowKit
set_option linter.unusedVariables false
set_option linter.unusedSimpArgs false
set_option maxRecDepth 100000

theorem byte_info : (Try.prog.info? 5).map (fun i => (i.zero, i.size, i.bytes)) = some (some (.int .u8 0), 1, 1) := by kernel_rfl
theorem int8_info : (Try.prog.info? 3).map (fun i => (i.zero, i.size, i.bytes)) = some (some (.int .i64 0), 1, 8) := by kernel_rfl

/-- A row of numbers of the call's own, made since w. -/
def Outs (E : Nat) (q : IntKind) (w wi : World) (out : Value) (xs : List Int) : Prop := w.grownBy wi none ∧ Own E w.heap.size wi out (xs.map (Value.int q))
theorem Outs.app {E : Nat} {q : IntKind} {w wi wj : World} {out out' : Value} {xs ys : List Int} (h : Outs E q w wi out xs) (ho : Own E w.heap.size wj out' (ys.map (Value.int q))) (g : wi.grownBy wj out.ownBlock) : Outs E q w wj out' ys := by
  refine ⟨?_, ho⟩
  rcases ho' : out.ownBlock with _ | k
  · rw [ho'] at g; exact grownBy_trans h.1 g
  · rw [ho'] at g; exact grownBy_over h.1 g (h.2.lt k ho').1
theorem Outs.below {E : Nat} {q : IntKind} {w w' : World} {out : Value} {xs : List Int} (h : Outs E q w w' out xs) : Below w.heap.size w w' := (Below.refl _ _).grown h.1 (Nat.le_refl _) (fun k e => by cases e)
/-- The call answers a list of numbers of one kind, and an error's number. -/
def Wrote (w : World) (q : IntKind) (p : List Int × Int) (e : Ending) (w' : World) : Prop :=
  ∃ A c, e = .returned (.tuple #[.slice A p.1.length c, .int .i64 p.2]) ∧ Reads w' w'.heap.size A (p.1.map (Value.int q)) ∧ p.1.length ≤ c ∧ c ≤ maxLen ∧ Below w.heap.size w w'
theorem own_le {E base : Nat} {w : World} {A : Option Addr} {n c : Nat} {xs : List Value} (h : Own E base w (.slice A n c) xs) : n ≤ c ∧ c ≤ maxLen := by
  obtain ⟨_, h⟩ := h
  rcases h with ⟨hv, h0⟩ | ⟨g, cap, cur, hv, _, hh, h1, h2, _⟩
  · cases hv
    exact ⟨Nat.le_refl _, by simp [maxLen]⟩
  · cases hv
    exact ⟨h1, h2⟩
theorem Outs.wrote {E : Nat} {q : IntKind} {w w' : World} {out : Value} {xs : List Int} {er : Int} (h : Outs E q w w' out xs) : Wrote w q (xs, er) (.returned (.tuple #[out, .int .i64 er])) w' := by
  obtain ⟨A, n, c, rfl⟩ := own_form h.2
  obtain ⟨A', c', e⟩ := Own.slice h.2
  cases e
  have hle := own_le h.2
  rw [List.length_map] at hle
  exact ⟨A, c, by rw [List.length_map], Own.reads h.2, hle.1, hle.2, h.below⟩
theorem wrote_nil {q : IntKind} {w w' : World} {er : Int} (h : Below w.heap.size w w') : Wrote w q ([], er) (.returned (.tuple #[.slice none 0 0, .int .i64 er])) w' :=
  ⟨none, 0, rfl, fun hn => absurd hn (by simp), Nat.le_refl _, by simp [maxLen], h⟩

set_option maxHeartbeats 4000000 in
theorem rbytes_is (A : Option Addr) (c : Nat) (l : List Int) (w : World) (hr : Reads w w.heap.size A (l.map (Value.int .i64))) (hl : l.length ≤ 5000) (hw : ∀ x ∈ l, x < 9223372036854775808) :
    Calls Try.prog 16 #[.slice A l.length c] w (Wrote w .u8 (bytesI l)) := by
  obtain ⟨ib, hib, hb0, hb1, hb2⟩ := info_parts byte_info
  have IB := Lib.hid (⟨hib, hb0, hb1, hb2⟩ : _ ∧ _ ∧ _ ∧ _)
  clear hib hb0 hb1 hb2
  have HR := Lib.hid hr
  have HW := Lib.hid hw
  clear hr hw
  unfold bytesI
  by_cases h4 : 4000 < l.length
  · have h4' : decide (4000 < (l.length : Int)) = true := by rw [decide_eq_true_eq]; omega
    rw [if_pos h4]
    go_enter Try.func16, Try.ntmps16
    go_wp2_with fail
    go_ret2
    exact wrote_nil (Below.refl _ _)
  · have h4' : decide (4000 < (l.length : Int)) = false := by rw [decide_eq_false_iff_not]; omega
    rw [if_neg h4]
    obtain ⟨P, hP⟩ : ∃ P, (if l.any (· < 0) = true then (([], 1) : List Int × Int) else (encL l, 0)) = P := ⟨_, rfl⟩
    rw [hP]
    have HP := Lib.hid hP
    clear hP
    have S : Outs 5 .u8 w (w.alloc (.cells #[] 5)) (.slice (some ⟨w.heap.size, 0, none⟩) 0 0) [] := ⟨World.grownBy_alloc _ _ _, Own.empty (Nat.le_refl _)⟩
    go_enter Try.func16, Try.ntmps16
    go_wp2_with fail
    go_loopg [4, 5] l.length (fun g out i wr => ∃ k : Nat, k ≤ l.length ∧ g = l.length - k ∧ i = .int .i64 k ∧ (l.take k).any (· < 0) = false ∧ Outs 5 .u8 w wr out (encL (l.take k)))
    case atStart => exact ⟨0, Nat.zero_le _, rfl, rfl, rfl, S⟩
    case round =>
      obtain ⟨k, hk, rfl, rfl, hno, S⟩ := hrel
      by_cases hlt : k < l.length
      · obtain ⟨ad, rfl, hb, f0⟩ := (HR.out.below S.below).int hlt
        have hx := HW.out _ (List.getElem_mem hlt)
        have hlen := encL_len (l := l.take k) fun x hx => HW.out x (List.mem_of_mem_take hx)
        rw [List.length_take] at hlen
        have hany := any_next (p := fun x => decide (x < (0 : Int))) hlt
        have henc : encL (l.take (k + 1)) = encL (l.take k) ++ encN (l[k]).toNat := by rw [List.take_succ_eq_append_getElem hlt, encL_append]; simp [encL]
        obtain ⟨x, hxx⟩ : ∃ x, l[k] = x := ⟨_, rfl⟩
        have hmem : x ∈ l := hxx ▸ List.getElem_mem hlt
        rw [hxx] at f0 hx hany henc
        have HN := Lib.hid hno
        have HE := Lib.hid henc
        have HA := Lib.hid hany
        have HM := Lib.hid hmem
        have HX := Lib.hid hxx
        clear hno henc hany hmem hxx
        rcases hd : decide (x < (0 : Int)) with _ | _
        · have hx0 : 0 ≤ x := by have := of_decide_eq_false hd; omega
          obtain ⟨m0, rfl⟩ : ∃ m0 : Nat, x = (m0 : Int) := ⟨x.toNat, by omega⟩
          have HL := Lib.hid hlen
          clear hlen
          go_wp2_with fail
          clear f0
          go_loopg [4, 6] m0 (fun g out n wi => ∃ (pre : List Int), g ≤ m0 ∧ n = .int .i64 g ∧ pre ++ encN g = encN m0 ∧ Outs 5 .u8 w wi out (encL (l.take k) ++ pre))
          case atStart => exact ⟨[], Nat.le_refl _, rfl, rfl, by rw [List.append_nil]; exact S⟩
          case round =>
            obtain ⟨pre, hm0, rfl, hpre, S4⟩ := hrel
            have HPRE := Lib.hid hpre
            clear hpre
            by_cases hm : gk < 128
            · have ht : decide ((127 : Int) < (gk : Int)) = false := by rw [decide_eq_false_iff_not]; omega
              have hl1 := congrArg List.length HPRE.out
              rw [enc_small hm, List.length_append, List.length_singleton] at hl1
              have hl0 := HL.out
              have hl2 := enc_len (n := m0) (f := 9) (by omega) (by omega)
              go_wp2_with (at_builtin; refine wpList_append_one rfl (.tmp 34) (.tmp 37) 35 rfl ib (.int .u8 0) 1 Try.underlying35 IB.out.1 IB.out.2.1 IB.out.2.2.1 IB.out.2.2.2 rfl rfl _ (.int .u8 (gk : Int)) rfl S4.2 rfl (by rw [List.length_map, List.length_append]; simp [maxLen]; omega) (by rw [List.length_map, List.length_append]; omega) S4.1.size ?_; intro out' w4 ho hg hb4; have S5 := S4.app (ys := encL (l.take k) ++ (pre ++ [(gk : Int)])) (by simpa using ho) hg)
              clear ho hg hb4
              have HF : Hid (encL (l.take (k + 1)) = encL (l.take k) ++ (pre ++ [(gk : Int)])) := Lib.hid (by rw [HE.out, ← enc_small hm, HPRE.out]; rfl)
              have S6 : Outs 5 .u8 w w4 out' (encL (l.take (k + 1))) := by rw [HF.out]; exact S5
              have HS := Lib.hid S6
              clear S5 S6 S4 S hl1 hl2 hl0
              go_wp2_with fail
              go_roundg (l.length - (k + 1))
              case measure => omega
              case rel => exact ⟨k + 1, by omega, rfl, by go_num, by rw [HA.out, HN.out, hd]; rfl, HS.out⟩
            · have ht : decide ((127 : Int) < (gk : Int)) = true := by rw [decide_eq_true_eq]; omega
              have hl1 := congrArg List.length HPRE.out
              rw [enc_big hm, List.length_append, List.length_cons] at hl1
              have hl0 := HL.out
              have hl2 := enc_len (n := m0) (f := 9) (by omega) (by omega)
              go_wp2_with (at_builtin; refine wpList_append_one rfl (.tmp 25) (.tmp 30) 35 rfl ib (.int .u8 0) 1 Try.underlying35 IB.out.1 IB.out.2.1 IB.out.2.2.1 IB.out.2.2.2 rfl rfl _ (.int .u8 ((gk : Int) % 128 + 128)) rfl S4.2 rfl (by rw [List.length_map, List.length_append]; simp [maxLen]; omega) (by rw [List.length_map, List.length_append]; omega) S4.1.size ?_; intro out' w4 ho hg hb4; have S5 := S4.app (ys := encL (l.take k) ++ (pre ++ [((gk : Int) % 128 + 128)])) (by simpa using ho) hg)
              clear ho hg hb4
              have HS := Lib.hid S5
              clear S5 S4 S hl1 hl2 hl0
              go_wp2_with fail
              go_roundg (gk / 128)
              case measure => omega
              case rel => exact ⟨pre ++ [((gk : Int) % 128 + 128)], by omega, by go_num, by rw [← HPRE.out, enc_big hm, List.append_assoc]; congr 1, HS.out⟩
        · have HF : Hid (P = ([], 1)) := Lib.hid (by rw [← HP.out, if_pos (any_hit (p := fun x => decide (x < (0 : Int))) hlt (by rw [HX.out]; exact hd))])
          go_wp2_with fail
          go_ret2
          rw [HF.out]
          exact wrote_nil S.below
      · have HF : Hid (P = (encL (l.take k), 0)) := Lib.hid (by
          rw [← HP.out, if_neg (by rw [any_end hlt hno]; decide), List.take_of_length_le (by omega)])
        go_wp2_with fail
        go_ret2
        rw [HF.out]
        exact S.wrote
end Go.Proofs.Ytmjdamcbdclgpaa
