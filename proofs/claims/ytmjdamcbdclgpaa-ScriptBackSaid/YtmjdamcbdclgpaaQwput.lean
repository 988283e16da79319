/- script.written, script.Bytes: numbers written as bytes, by the program. -/
import Derived.Test.YtmjdamcbdclgpaaQwis
import Derived.Test.YtmjdamcbdclgpaaQrbytes
import Derived.RegionTactic
namespace Go.Proofs.Ytmjdamcbdclgpaa
open Go.RowKit
set_option linter.unusedVariables false
set_option linter.unusedSimpArgs false
set_option maxRecDepth 100000

theorem or128 {x : Int} (h0 : 0 ≤ x) (h1 : x < 128) : bits BinOp.or IntKind.u8 x 128 = x + 128 := by
  have h : ∀ n : Fin 128, bits BinOp.or IntKind.u8 (n.val : Int) 128 = (n.val : Int) + 128 := by decide +kernel
  have := h ⟨x.toNat, by omega⟩
  simpa [show ((x.toNat : Nat) : Int) = x by omega] using this

set_option maxHeartbeats 4000000 in
theorem put8_is (w : World) (out : Value) (xs : List Int) (m0 : Nat) (wi : World) (hm : m0 < 9223372036854775808) (hn : xs.length ≤ 100000) (S : Outs 5 .u8 w wi out xs) :
    Calls Try.prog 31 #[out, .int .i64 m0] wi fun e w' => ∃ out', e = .returned out' ∧ Outs 5 .u8 w w' out' (xs ++ encN m0) := by
  obtain ⟨ib, hib, hb0, hb1, hb2⟩ := info_parts byte_info
  have IB := Lib.hid (⟨hib, hb0, hb1, hb2⟩ : _ ∧ _ ∧ _ ∧ _)
  clear hib hb0 hb1 hb2
  have hl2 := enc_len (n := m0) (f := 9) (by omega) (by omega)
  have HL2 := Lib.hid hl2
  have HS0 := Lib.hid S
  clear S hl2
  go_enter Try.func31, Try.ntmps31
  go_wp2_with fail
  go_loopg [0, 1] m0 (fun g out n wi => ∃ (pre : List Int), g ≤ m0 ∧ n = .int .i64 g ∧ pre ++ encN g = encN m0 ∧ Outs 5 .u8 w wi out (xs ++ pre))
  case atStart => exact ⟨[], Nat.le_refl _, rfl, rfl, by rw [List.append_nil]; exact HS0.out⟩
  case round =>
    obtain ⟨pre, hm0, rfl, hpre, S4⟩ := hrel
    clear HS0
    have HPRE := Lib.hid hpre
    clear hpre
    have hl2 := HL2.out
    by_cases hm : gk < 128
    · have ht : decide ((128 : Int) ≤ (gk : Int)) = false := by rw [decide_eq_false_iff_not]; omega
      have hl1 := congrArg List.length HPRE.out
      rw [enc_small hm, List.length_append, List.length_singleton] at hl1
      go_wp2_with (at_builtin; refine wpList_append_one rfl (.tmp 16) (.tmp 19) 35 rfl ib (.int .u8 0) 1 Try.underlying35 IB.out.1 IB.out.2.1 IB.out.2.2.1 IB.out.2.2.2 rfl rfl _ (.int .u8 (gk : Int)) rfl S4.2 rfl (by rw [List.length_map, List.length_append]; simp [maxLen]; omega) (by rw [List.length_map, List.length_append]; omega) S4.1.size ?_; intro out' w4 ho hg hb4; have S5 := S4.app (ys := xs ++ (pre ++ [(gk : Int)])) (by simpa using ho) hg)
      have HF : Hid (xs ++ encN m0 = xs ++ (pre ++ [(gk : Int)])) := Lib.hid (by rw [← HPRE.out, enc_small hm])
      go_ret
      exact ⟨_, rfl, by rw [HF.out]; exact S5⟩
    · have ht : decide ((128 : Int) ≤ (gk : Int)) = true := by rw [decide_eq_true_eq]; omega
      have hl1 := congrArg List.length HPRE.out
      rw [enc_big hm, List.length_append, List.length_cons] at hl1
      go_wp2_with (at_builtin; refine wpList_append_one rfl (.tmp 9) (.tmp 14) 35 rfl ib (.int .u8 0) 1 Try.underlying35 IB.out.1 IB.out.2.1 IB.out.2.2.1 IB.out.2.2.2 rfl rfl _ (.int .u8 (bits BinOp.or IntKind.u8 ((gk : Int) % 128) 128)) rfl S4.2 rfl (by rw [List.length_map, List.length_append]; simp [maxLen]; omega) (by rw [List.length_map, List.length_append]; omega) S4.1.size ?_; intro out' w4 ho hg hb4; have S5 := S4.app (ys := xs ++ (pre ++ [((gk : Int) % 128 + 128)])) (by rw [← or128 (x := (gk : Int) % 128) (by omega) (by omega)]; simpa using ho) hg)
      clear ho hg hb4
      have HS := Lib.hid S5
      clear S5 S4 hl1 hl2
      go_wp2_with fail
      go_roundg (gk / 128)
      case measure => omega
      case rel => exact ⟨pre ++ [((gk : Int) % 128 + 128)], by omega, by go_num, by rw [← HPRE.out, enc_big hm, List.append_assoc]; congr 1, HS.out⟩

set_option maxHeartbeats 4000000 in
theorem bytes8_is (A : Option Addr) (c : Nat) (l : List Int) (w : World) (hr : Reads w w.heap.size A (l.map (Value.int .i64))) (hl : l.length ≤ 5000) (hw : ∀ x ∈ l, x < 9223372036854775808) :
    Calls Try.prog 15 #[.slice A l.length c] w (Wrote w .u8 (bytesI l)) := by
  have hany := anyBelow_is A c l w hr (by omega)
  have HR := Lib.hid hr
  have HW := Lib.hid hw
  clear hr hw
  unfold bytesI
  by_cases h4 : 4000 < l.length
  · have h4' : decide (4000 < (l.length : Int)) = true := by rw [decide_eq_true_eq]; omega
    rw [if_pos h4]
    clear h4
    go_enter Try.func15, Try.ntmps15
    go_wp2_with fail
    go_ret2
    exact wrote_nil (Below.refl _ _)
  · have h4' : decide (4000 < (l.length : Int)) = false := by rw [decide_eq_false_iff_not]; omega
    rw [if_neg h4]
    obtain ⟨b, hb⟩ : ∃ b, l.any (· < 0) = b := ⟨_, rfl⟩
    rw [hb] at hany ⊢
    cases b with
    | true =>
      rw [if_pos rfl]
      clear h4 hb
      go_enter Try.func15, Try.ntmps15
      go_wp2_with fail
      refine hany.mono ?_
      rintro e w' ⟨rfl, rfl⟩
      clear hany
      go_wp2_with fail
      go_ret2
      exact wrote_nil (Below.refl _ _)
    | false =>
      rw [if_neg (by decide)]
      have HB := Lib.hid hb
      clear hb
      have S : Outs 5 .u8 w w (.slice none 0 0) [] := ⟨World.grownBy.refl _ _, Own.nil⟩
      go_enter Try.func15, Try.ntmps15
      go_wp2_with fail
      refine hany.mono ?_
      rintro e w' ⟨rfl, rfl⟩
      clear hany
      go_wp2_with fail
      go_loopg [4, 14] l.length (fun g out i wr => ∃ k : Nat, k ≤ l.length ∧ g = l.length - k ∧ i = .int .i64 k ∧ Outs 5 .u8 w' wr out (encL (l.take k)))
      case atStart => exact ⟨0, Nat.zero_le _, rfl, rfl, S⟩
      case round =>
        obtain ⟨k, hk, rfl, rfl, S⟩ := hrel
        by_cases hlt : k < l.length
        · obtain ⟨ad, rfl, hb, f0⟩ := (HR.out.below S.below).int hlt
          have hx := HW.out _ (List.getElem_mem hlt)
          have hlen := encL_len (l := l.take k) fun x hx => HW.out x (List.mem_of_mem_take hx)
          rw [List.length_take] at hlen
          have henc : encL (l.take (k + 1)) = encL (l.take k) ++ encN (l[k]).toNat := by rw [List.take_succ_eq_append_getElem hlt, encL_append]; simp [encL]
          have hx0 : 0 ≤ l[k] := by have := List.any_eq_false.1 HB.out _ (List.getElem_mem hlt); simpa using this
          obtain ⟨x, hxx⟩ : ∃ x, l[k] = x := ⟨_, rfl⟩
          rw [hxx] at f0 hx hx0 henc
          clear hxx
          obtain ⟨m0, rfl⟩ : ∃ m0 : Nat, x = (m0 : Int) := ⟨x.toNat, by omega⟩
          have hcall := put8_is w' _ _ m0 wr (by omega) (by omega) S
          have HE := Lib.hid henc
          clear henc S hlen
          go_wp2_with fail
          refine hcall.mono ?_
          rintro e w4 ⟨out', rfl, S4⟩
          have HS := Lib.hid S4
          clear hcall S4 f0
          go_wp2_with fail
          go_roundg (l.length - (k + 1))
          case measure => omega
          case rel => exact ⟨k + 1, by omega, rfl, by go_num, by rw [HE.out]; exact HS.out⟩
        · have HF : Hid (encL l = encL (l.take k)) := Lib.hid (by rw [List.take_of_length_le (by omega)])
          go_wp2_with fail
          go_ret2
          rw [HF.out]
          exact S.wrote
end Go.Proofs.Ytmjdamcbdclgpaa
