/- The document's own answers of layer 4. -/
import Derived.Test.YtnjacobimndnbaaHosts
import Derived.IntWalk
namespace Go.Proofs.Ytnjacobimndnbaa
open Go.RowKit
set_option linter.unusedVariables false
set_option linter.unusedSimpArgs false
set_option maxRecDepth 100000

theorem first_star {p : ByteArray} (h : 0 < p.size) : ((p[0].toNat : Int) == 42) = preB p starS := by
  rw [Bool.eq_iff_iff, beq_iff_eq, preB_iff]
  obtain ⟨⟨l⟩⟩ := p
  cases l with
  | nil => exact absurd h (by decide)
  | cons c cs =>
    have hc : (⟨⟨c :: cs⟩⟩ : ByteArray)[0] = c := rfl
    rw [hc]
    constructor
    · intro e
      have : c = 42 := UInt8.toNat_inj.1 (by have : c.toNat = 42 := by omega
                                             rw [this]; rfl)
      exact ⟨cs, by rw [this]; rfl⟩
    · rintro ⟨m, e⟩
      have e' : c :: cs = 42 :: m := e
      rw [(List.cons.inj e').1]; rfl

theorem pattern_some {p : ByteArray} (h : patternB p = true) : 0 < p.size := by
  have hs := size_list p
  rcases weight_cases p with ⟨h0, _⟩ | ⟨h0, _, hw⟩ | ⟨t, h0, _, h1, h2, _, hw⟩ | ⟨h0, _, hw⟩
  · rw [h] at h0; cases h0
  · rw [h0] at hs; simp at hs; omega
  · rw [h0] at hs; simp at hs; omega
  · obtain ⟨c, cs, e, _⟩ := hostL_head h0
    rw [e] at hs; simp at hs; omega

theorem rmatch_is (p h : ByteArray) (w : World) (hp : p.size ≤ 2000) (hh : h.size ≤ 2000) : Calls Try.prog 22 #[.string p, .string h] w (Says w (matchB p h)) := by
  have n1 := fun w => rpattern_is p w hp
  have n2 := fun w => rhost_is h w hh
  obtain ⟨a, ha⟩ : ∃ a, patternB p = a := ⟨_, rfl⟩
  obtain ⟨b, hb⟩ : ∃ b, hostB h = b := ⟨_, rfl⟩
  rw [ha] at n1
  rw [hb] at n2
  have B : Below w.heap.size w w := Below.refl _ _
  cases a with
  | false =>
    have e : matchB p h = false := by rw [matchB, ha]; rfl
    rw [e]
    clear e ha hb n2
    go_enter Try.func22, Try.ntmps22
    go_wp2_with (go_at_call 34; ((with_reducible refine (n1 _).mono ?_); rintro e wx ⟨rfl, kk⟩; replace B := below_next B kk; clear kk))
    go_ret
    exact ⟨rfl, B⟩
  | true =>
    cases b with
    | false =>
      have e : matchB p h = false := by
        rw [Bool.eq_false_iff]
        intro hm
        have := ((match_iff p h).1 hm).1
        rw [← hostB_L, hb] at this
        cases this
      rw [e]
      clear e ha hb
      go_enter Try.func22, Try.ntmps22
      go_wp2_with (first
        | (go_at_call 34; ((with_reducible refine (n1 _).mono ?_); rintro e wx ⟨rfl, kk⟩; replace B := below_next B kk; clear kk))
        | (go_at_call 35; ((with_reducible refine (n2 _).mono ?_); rintro e wx ⟨rfl, kk⟩; replace B := below_next B kk; clear kk)))
      go_ret
      exact ⟨rfl, B⟩
    | true =>
      have hz := pattern_some ha
      have hf := first_star hz
      have hL : hostL h.data.toList = true := by rw [← hostB_L]; exact hb
      obtain ⟨c1, hc1⟩ : ∃ c, (p.toList == [42]) = c := ⟨_, rfl⟩
      obtain ⟨c2, hc2⟩ : ∃ c, (p.toList == h.toList) = c := ⟨_, rfl⟩
      obtain ⟨c3, hc3⟩ : ∃ c, preB p starS = c := ⟨_, rfl⟩
      rw [hc3] at hf
      by_cases hq : c1 = true ∨ c2 = true
      · have e : matchB p h = true := by
          refine (match_iff p h).2 ⟨hL, ?_⟩
          rcases hq with rfl | rfl
          · exact .inl ((eq42 p).1 hc1)
          · rw [beq_iff_eq, toList_data, toList_data] at hc2
            exact .inr (.inl hc2)
        rw [e]
        clear e ha hb hL hf hc3 hz
        cases c1 <;> cases c2
        all_goals first | (exact absurd hq (by decide)) | clear hq
        all_goals
          go_enter Try.func22, Try.ntmps22
          go_wp2_with (first
            | (go_at_call 34; ((with_reducible refine (n1 _).mono ?_); rintro e wx ⟨rfl, kk⟩; replace B := below_next B kk; clear kk))
            | (go_at_call 35; ((with_reducible refine (n2 _).mono ?_); rintro e wx ⟨rfl, kk⟩; replace B := below_next B kk; clear kk)))
          go_ret
          exact ⟨rfl, B⟩
      · obtain rfl : c1 = false := by cases c1; rfl; exact absurd (.inl rfl) hq
        obtain rfl : c2 = false := by cases c2; rfl; exact absurd (.inr rfl) hq
        clear hq
        cases c3 with
        | false =>
          have e : matchB p h = false := by
            rw [Bool.eq_false_iff]
            intro hm
            rcases kind_cases p with ⟨_, _, hp, hk⟩ | ⟨_, _, hp, h1, hk⟩ | ⟨_, _, hp, h1, h2, hk⟩ | ⟨_, _, hp, h1, h2, hk⟩
            · rw [hk] at hm; cases hm
            · rw [hc1] at h1; cases h1
            · rw [hc3] at h2; cases h2
            · rw [hk, beq_iff_eq] at hm
              rw [← hm, beq_self_eq_true] at hc2
              cases hc2
          rw [e]
          have hf' : ((p[0].toNat : Int) != 42) = true := by rw [bne, hf]; rfl
          clear e ha hb hL hc3
          go_enter Try.func22, Try.ntmps22
          go_wp2_with (first
            | (go_at_call 34; ((with_reducible refine (n1 _).mono ?_); rintro e wx ⟨rfl, kk⟩; replace B := below_next B kk; clear kk))
            | (go_at_call 35; ((with_reducible refine (n2 _).mono ?_); rintro e wx ⟨rfl, kk⟩; replace B := below_next B kk; clear kk)))
          go_ret
          exact ⟨rfl, B⟩
        | true =>
          have hf' : ((p[0].toNat : Int) != 42) = false := by rw [bne, hf]; rfl
          obtain ⟨t, e1, e2, e3⟩ := pattern_star ha hc1 hc3
          have hps := size_list p
          have hex : (p.extract 1 p.size).data.toList = 46 :: t := by
            rw [extract_list, List.take_of_length_le (by rw [size_list]; omega), e1]; rfl
          by_cases hn : p.size ≤ h.size
          · -- the tail may be there
            obtain ⟨m, hm⟩ : ∃ m, h.size = m + (p.size - 1) := ⟨h.size - (p.size - 1), by omega⟩
            have hm0 : 0 < m := by omega
            have g1 : decide (0 < m) = true := decide_eq_true hm0
            obtain ⟨z, hzz⟩ : ∃ z, ((h.extract m h.size).toList == (p.extract 1 p.size).toList) = z := ⟨_, rfl⟩
            have e : matchB p h = z := by
              rw [← hzz, Bool.eq_iff_iff, match_iff, beq_iff_eq, toList_data, toList_data, hex, extract_list, List.take_of_length_le (by rw [size_list]; omega)]
              have hhs := size_list h
              rw [e1, List.length_cons, List.length_cons] at hps
              constructor
              · rintro ⟨_, h1 | h1 | ⟨t', l, h1, _, h3⟩⟩
                · rw [e1] at h1; cases h1
                · rw [beq_eq_false_iff_ne, toList_data, toList_data] at hc2
                  exact absurd h1 hc2
                · rw [e1] at h1
                  have et : t = t' := by simpa using h1
                  rw [h3, et]
                  refine List.drop_left' ?_
                  have := congrArg List.length h3
                  rw [List.length_append, List.length_cons, ← et] at this
                  omega
              · intro h1
                refine ⟨hL, .inr (.inr ⟨t, h.data.toList.take m, e1, e2, ?_⟩)⟩
                rw [← h1, List.take_append_drop]
            rw [e]
            have hsz : (p.extract 1 p.size).size = p.size - 1 := by simp
            have k1 : (h.size : Int) - ((p.size - 1 : Nat) : Int) = (m : Int) := by omega
            have k2 : (h.size : Int) - ((p.size : Int) - 1) = (m : Int) := by omega
            have k3 : m ≤ h.size := by omega
            clear e ha hb hL hc3 e1 e2 e3 hex hm
            have HZ := Lib.hid hzz
            clear hzz
            go_enter Try.func22, Try.ntmps22
            go_wp2_with (first
              | (go_at_call 34; ((with_reducible refine (n1 _).mono ?_); rintro e wx ⟨rfl, kk⟩; replace B := below_next B kk; clear kk))
              | (go_at_call 35; ((with_reducible refine (n2 _).mono ?_); rintro e wx ⟨rfl, kk⟩; replace B := below_next B kk; clear kk)))
            go_ret
            exact ⟨ret_bool HZ.out, B⟩
          · have e : matchB p h = false := by
              rw [Bool.eq_false_iff]
              intro hm
              obtain ⟨_, h1 | h1 | ⟨t', l, h1, _, h3⟩⟩ := (match_iff p h).1 hm
              · rw [e1] at h1; cases h1
              · rw [beq_eq_false_iff_ne, toList_data, toList_data] at hc2
                exact absurd h1 hc2
              · rw [e1] at h1
                have et : t = t' := by simpa using h1
                have h4 := congrArg List.length h3
                have hhs := size_list h
                rw [e1, List.length_cons, List.length_cons] at hps
                rw [List.length_append, List.length_cons, ← et] at h4
                have : l = [] := List.eq_nil_of_length_eq_zero (by omega)
                obtain ⟨c, cs, ec, hc⟩ := hostL_head hL
                rw [this, List.nil_append, ec] at h3
                rw [(List.cons.inj h3).1] at hc
                exact absurd hc (by decide)
            rw [e]
            clear e ha hb hL hc3 e1 e2 e3 hex
            go_enter Try.func22, Try.ntmps22
            go_wp2_with (first
              | (go_at_call 34; ((with_reducible refine (n1 _).mono ?_); rintro e wx ⟨rfl, kk⟩; replace B := below_next B kk; clear kk))
              | (go_at_call 35; ((with_reducible refine (n2 _).mono ?_); rintro e wx ⟨rfl, kk⟩; replace B := below_next B kk; clear kk)))
            go_ret
            exact ⟨rfl, B⟩

theorem rweight_is (p : ByteArray) (w : World) (hp : p.size ≤ 2000) : Calls Try.prog 37 #[.string p] w (SaysI w (weightI p)) := by
  have n1 := fun w => rpattern_is p w hp
  have B : Below w.heap.size w w := Below.refl _ _
  rcases kind_cases p with ⟨_, hw, hp, _⟩ | ⟨_, hw, hp, h1, _⟩ | ⟨_, hw, hp, h1, h2, _⟩ | ⟨_, hw, hp, h1, h2, _⟩ <;> rw [hw] <;> rw [hp] at n1
  · clear hw hp
    go_enter Try.func37, Try.ntmps37
    go_wp2_with (go_at_call 34; ((with_reducible refine (n1 _).mono ?_); rintro e wx ⟨rfl, kk⟩; replace B := below_next B kk; clear kk))
    go_ret
    exact ⟨rfl, B⟩
  · clear hw hp
    go_enter Try.func37, Try.ntmps37
    go_wp2_with (go_at_call 34; ((with_reducible refine (n1 _).mono ?_); rintro e wx ⟨rfl, kk⟩; replace B := below_next B kk; clear kk))
    go_ret
    exact ⟨rfl, B⟩
  · have hz := pattern_some hp
    have hf := first_star hz
    rw [h2] at hf
    clear hw hp h2
    go_enter Try.func37, Try.ntmps37
    go_wp2_with (go_at_call 34; ((with_reducible refine (n1 _).mono ?_); rintro e wx ⟨rfl, kk⟩; replace B := below_next B kk; clear kk))
    go_ret
    exact ⟨rfl, B⟩
  · have hz := pattern_some hp
    have hf := first_star hz
    rw [h2] at hf
    clear hw hp h2
    go_enter Try.func37, Try.ntmps37
    go_wp2_with (go_at_call 34; ((with_reducible refine (n1 _).mono ?_); rintro e wx ⟨rfl, kk⟩; replace B := below_next B kk; clear kk))
    go_ret
    exact ⟨rfl, B⟩

theorem rbetter_is (p q p' q' : ByteArray) (w : World) (hp : p.size ≤ 2000) (hp' : p'.size ≤ 2000) : Calls Try.prog 26 #[.string p, .string q, .string p', .string q'] w (Says w (betterB p q p' q')) := by
  have hw := fun w => rweight_is p w hp
  have hw' := fun w => rweight_is p' w hp'
  unfold betterB
  generalize weightI p = n at hw ⊢
  generalize weightI p' = n' at hw' ⊢
  obtain ⟨a, ha⟩ : ∃ a, decide (n' < n) = a := ⟨_, rfl⟩
  obtain ⟨b, hb⟩ : ∃ b, (n == n') = b := ⟨_, rfl⟩
  obtain ⟨c, hc⟩ : ∃ c, decide (q'.size < q.size) = c := ⟨_, rfl⟩
  have hc' : decide ((q'.size : Int) < (q.size : Int)) = c := by rw [← hc]; simp
  clear hp hp'
  rw [ha, hb, hc]
  cases a <;> cases b <;> cases c
  all_goals
    go_enter Try.func26, Try.ntmps26
    go_wp2_with fail
    refine (hw _).mono ?_
    rintro e w1 ⟨rfl, B⟩
    go_wp2_with fail
    refine (hw' _).mono ?_
    rintro e w2 ⟨rfl, B2⟩
    replace B := below_next B B2
    go_wp2_with fail
    go_ret
    exact ⟨rfl, B⟩

/-! Under, by places. -/
theorem last_slash {t : ByteArray} {k : Nat} (h : t.size = k + 1) : ((t[k].toNat : Int) == 47) = sufB t slashS := by
  rw [Bool.eq_iff_iff, beq_iff_eq, sufB_iff]
  have hs := size_list t
  have hl : k < t.data.toList.length := by omega
  have e : t.data.toList = t.data.toList.take k ++ [t[k]] := by
    have : t.data.toList = t.data.toList.take (k + 1) := (List.take_of_length_le (by omega)).symm
    conv => lhs; rw [this]
    rw [List.take_succ_eq_append_getElem hl]; rfl
  constructor
  · intro e'
    refine ⟨t.data.toList.take k, ?_⟩
    have : t[k] = 47 := UInt8.toNat_inj.1 (by have : t[k].toNat = 47 := by omega
                                              rw [this]; rfl)
    conv => lhs; rw [e, this]
    rfl
  · rintro ⟨x, hx⟩
    rw [e] at hx
    have := List.append_inj_right' hx rfl
    have h7 : t[k] = 47 := by
      have h8 : ([t[k]] : List UInt8) = [47] := this
      exact (List.cons.inj h8).1
    rw [h7]; rfl
theorem next_slash {a t : ByteArray} (hp : preB a t = true) (h : t.size < a.size) : ((a[t.size].toNat : Int) == 47) = preB (cutB a t) slashS := by
  rw [Bool.eq_iff_iff, beq_iff_eq, preB_iff]
  have hs := size_list a
  have hl : t.size < a.data.toList.length := by omega
  obtain ⟨l, e⟩ := (preB_iff _ _).1 hp
  rw [cutB_list e]
  have el : l = a[t.size] :: a.data.toList.drop (t.size + 1) := by
    have h1 : a.data.toList.drop t.size = l := by rw [e]; exact List.drop_left' (size_list t)
    rw [← h1, List.drop_eq_getElem_cons hl]; rfl
  rw [el]
  constructor
  · intro e'
    have : a[t.size] = 47 := UInt8.toNat_inj.1 (by have : a[t.size].toNat = 47 := by omega
                                                   rw [this]; rfl)
    rw [this]
    exact ⟨_, rfl⟩
  · rintro ⟨m, hm⟩
    have h8 : a[t.size] :: a.data.toList.drop (t.size + 1) = 47 :: m := hm
    rw [(List.cons.inj h8).1]; rfl
theorem cut_empty {a t : ByteArray} (hp : preB a t = true) : (cutB a t).toList.isEmpty = decide (a.size = t.size) := by
  obtain ⟨l, e⟩ := (preB_iff _ _).1 hp
  have h1 := congrArg List.length e
  rw [List.length_append, size_list, size_list] at h1
  rw [Bool.eq_iff_iff, List.isEmpty_iff, decide_eq_true_eq, toList_data, cutB_list e]
  constructor
  · rintro rfl
    simpa using h1
  · intro h
    exact List.eq_nil_of_length_eq_zero (by omega)
theorem path_some {t : ByteArray} (h : pathB t = true) : ∃ k, t.size = k + 1 := by
  obtain ⟨cs, e⟩ := path_head h
  have := size_list t
  rw [e, List.length_cons] at this
  exact ⟨_, this.symm⟩
end Go.Proofs.Ytnjacobimndnbaa
