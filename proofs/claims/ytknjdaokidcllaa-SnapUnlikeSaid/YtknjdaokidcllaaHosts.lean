/- Package hosts: what its functions answer. -/
import Derived.Test.YtknjdaokidcllaaM1
import Derived.Test.YtknjdaokidcllaaNhasP
namespace Go.Proofs.Ytknjdaokidcllaa
open Go.RowKit
set_option linter.unusedVariables false
set_option linter.unusedSimpArgs false
set_option maxRecDepth 100000

def SaysI (w : World) (n : Int) (e : Ending) (w' : World) : Prop := e = .returned (.int .i64 n) ∧ Below w.heap.size w w'
theorem SaysI.of {w w' : World} {b c : Int} {e : Ending} (h : SaysI w b e w') (hc : b = c) : SaysI w c e w' := hc ▸ h

theorem ret_int {k : IntKind} {a b : Int} (h : a = b) : Ending.returned (.int k a) = .returned (.int k b) := by rw [h]

theorem after_is (p : ByteArray) (w : World) : Calls Try.prog 95 #[.string p] w fun e w' => e = .returned (.string (cutB p starS)) ∧ w = w' := by
  have hp := cutTrim_is p starS w
  unfold starS at hp ⊢
  generalize cutB p ⟨#[42]⟩ = c at hp ⊢
  go_enter Try.func95, Try.ntmps95
  go_wp2_with fail
  refine hp.mono ?_
  rintro e w' ⟨rfl, rfl⟩
  go_wp2_with fail
  go_ret
  exact ⟨rfl, rfl⟩

theorem kindOf_is (p : ByteArray) (w : World) : Calls Try.prog 93 #[.string p] w (SaysI w (kindI p)) := by
  have hp := pattern_is p w
  have hs := fun w => pre_is p starS w
  unfold kindI
  unfold starS at hs ⊢
  obtain ⟨a, ha⟩ : ∃ a, patternB p = a := ⟨_, rfl⟩
  obtain ⟨b, hb⟩ : ∃ b, (p.toList == [42]) = b := ⟨_, rfl⟩
  obtain ⟨c, hc⟩ : ∃ c, preB p ⟨#[42]⟩ = c := ⟨_, rfl⟩
  rw [ha] at hp ⊢
  rw [hc] at hs ⊢
  rw [hb]
  clear ha hc
  cases a <;> cases b <;> cases c
  all_goals
    go_enter Try.func93, Try.ntmps93
    go_wp2_with (first
      | (go_at_call 65; ((with_reducible refine hp.mono ?_); rintro e w1 ⟨rfl, B⟩))
      | (go_at_call 97; ((with_reducible refine (hs _).mono ?_); rintro e w' ⟨rfl, rfl⟩)))
    go_ret
    exact ⟨rfl, B⟩

theorem match_is (p h : ByteArray) (w : World) (hh : h.size ≤ 2000) : Calls Try.prog 86 #[.string p, .string h] w (Says w (matchB p h)) := by
  have hk := kindOf_is p w
  have ha := fun w => after_is p w
  have hs := fun w => suf_is h (cutB p starS) w hh
  have hn := fun w => host_is h w
  rcases kind_cases p with ⟨k, _, hp, hm⟩ | ⟨k, _, hp, h1, hm⟩ | ⟨k, _, hp, h1, h2, hm⟩ | ⟨k, _, hp, h1, h2, hm⟩ <;> rw [hm h] <;> rw [k] at hk <;> clear hm k
  · clear ha hs hn hp
    go_enter Try.func86, Try.ntmps86
    go_wp2_with fail
    refine hk.mono ?_
    rintro e w1 ⟨rfl, B⟩
    go_wp2_with fail
    go_ret
    exact ⟨rfl, B⟩
  · clear ha hs hp h1
    generalize hostB h = n at hn ⊢
    go_enter Try.func86, Try.ntmps86
    go_wp2_with fail
    refine hk.mono ?_
    rintro e w1 ⟨rfl, B⟩
    go_wp2_with fail
    refine (hn _).mono ?_
    rintro e w2 ⟨rfl, B2⟩
    replace B := below_next B B2
    go_wp2_with fail
    go_ret
    exact ⟨rfl, B⟩
  · clear hp h1 h2
    generalize hostB h = n at hn ⊢
    generalize cutB p starS = t at ha hs ⊢
    generalize sufB h t = s at hs ⊢
    cases s
    · go_enter Try.func86, Try.ntmps86
      go_wp2_with fail
      refine hk.mono ?_
      rintro e w1 ⟨rfl, B⟩
      go_wp2_with fail
      refine (ha _).mono ?_
      rintro e w' ⟨rfl, rfl⟩
      go_wp2_with fail
      refine (hs _).mono ?_
      rintro e w' ⟨rfl, rfl⟩
      go_wp2_with fail
      go_ret
      exact ⟨rfl, B⟩
    · rw [Bool.true_and]
      go_enter Try.func86, Try.ntmps86
      go_wp2_with fail
      refine hk.mono ?_
      rintro e w1 ⟨rfl, B⟩
      go_wp2_with fail
      refine (ha _).mono ?_
      rintro e w' ⟨rfl, rfl⟩
      go_wp2_with fail
      refine (hs _).mono ?_
      rintro e w' ⟨rfl, rfl⟩
      go_wp2_with fail
      refine (hn _).mono ?_
      rintro e w2 ⟨rfl, B2⟩
      replace B := below_next B B2
      go_wp2_with fail
      go_ret
      exact ⟨rfl, B⟩
  · clear hp h1 h2 ha hs hn
    obtain ⟨q, hq⟩ : ∃ q, (h.toList == p.toList) = q := ⟨_, rfl⟩
    rw [hq]
    go_enter Try.func86, Try.ntmps86
    go_wp2_with fail
    refine hk.mono ?_
    rintro e w1 ⟨rfl, B⟩
    go_wp2_with fail
    go_ret
    exact ⟨rfl, B⟩

theorem weight_is (p : ByteArray) (w : World) : Calls Try.prog 88 #[.string p] w (SaysI w (weightI p)) := by
  have hk := kindOf_is p w
  have ha := fun w => after_is p w
  rcases kind_cases p with ⟨k, hw, hp, hm⟩ | ⟨k, hw, hp, h1, hm⟩ | ⟨k, hw, hp, h1, h2, hm⟩ | ⟨k, hw, hp, h1, h2, hm⟩ <;> rw [hw] <;> rw [k] at hk <;> clear hm k hw
  · clear ha hp
    go_enter Try.func88, Try.ntmps88
    go_wp2_with fail
    refine hk.mono ?_
    rintro e w1 ⟨rfl, B⟩
    go_wp2_with fail
    go_ret
    exact ⟨rfl, B⟩
  · clear ha hp h1
    go_enter Try.func88, Try.ntmps88
    go_wp2_with fail
    refine hk.mono ?_
    rintro e w1 ⟨rfl, B⟩
    go_wp2_with fail
    go_ret
    exact ⟨rfl, B⟩
  · obtain ⟨t, e1, e2, e3⟩ := pattern_star hp h1 h2
    have s1 := size_list p
    have s2 := size_list (cutB p starS)
    have s3 := hostL_size e2
    rw [e1, List.length_cons, List.length_cons] at s1
    rw [e3, List.length_cons] at s2
    generalize t.length = n at s1 s2 s3
    have s4 : (p.size : Int) - 2 = (n : Int) := by omega
    rw [s4]
    generalize cutB p starS = u at ha s2
    clear e1 e2 e3 hp h1 h2 s1 s4
    have ha' : ∀ w, Calls Try.prog 95 #[.string p] w fun e w' => ∃ u : ByteArray, e = .returned (.string u) ∧ u.size = n + 1 ∧ w = w' := fun w => (ha w).mono fun _ _ h => ⟨u, h.1, s2.symm, h.2⟩
    clear ha s2
    go_enter Try.func88, Try.ntmps88
    go_wp2_with fail
    refine hk.mono ?_
    rintro e w1 ⟨rfl, B⟩
    go_wp2_with fail
    refine (ha' _).mono ?_
    rintro e w' ⟨u, rfl, hu, rfl⟩
    have hu1 : (n : Int) + 1 = (u.size : Int) := by omega
    have HU := Lib.hid hu1
    have hu2 : u.size ≤ 100 := by omega
    clear hu hu1
    go_wp2_with fail
    go_ret
    exact ⟨ret_int (by have := HU.out; omega), B⟩
  · clear ha hp h1 h2
    go_enter Try.func88, Try.ntmps88
    go_wp2_with fail
    refine hk.mono ?_
    rintro e w1 ⟨rfl, B⟩
    go_wp2_with fail
    go_ret
    exact ⟨rfl, B⟩

theorem better_is (p q p' q' : ByteArray) (w : World) : Calls Try.prog 71 #[.string p, .string q, .string p', .string q'] w (Says w (betterB p q p' q')) := by
  have hw := fun w => weight_is p w
  have hw' := fun w => weight_is p' w
  have b1 := weight_bd p
  have b2 := weight_bd p'
  unfold betterB
  generalize weightI p = n at hw b1 ⊢
  generalize weightI p' = n' at hw' b2 ⊢
  obtain ⟨a, ha⟩ : ∃ a, decide (n' < n) = a := ⟨_, rfl⟩
  obtain ⟨b, hb⟩ : ∃ b, (n == n') = b := ⟨_, rfl⟩
  obtain ⟨c, hc⟩ : ∃ c, decide (q'.size < q.size) = c := ⟨_, rfl⟩
  have hc' : decide ((q'.size : Int) < (q.size : Int)) = c := by rw [← hc]; simp
  clear b1 b2
  rw [ha, hb, hc]
  cases a <;> cases b <;> cases c
  all_goals
    go_enter Try.func71, Try.ntmps71
    go_wp2_with fail
    refine (hw _).mono ?_
    rintro e w1 ⟨rfl, B⟩
    go_wp2_with fail
    refine (hw' _).mono ?_
    rintro e w2 ⟨rfl, B2⟩
    replace B := below_next B B2
    go_wp2_with fail
    go_ret
    exact ⟨rfl, B⟩

theorem under_is (a t : ByteArray) (w : World) (ht : t.size ≤ 2000) : Calls Try.prog 87 #[.string a, .string t] w (Says w (underB a t)) := by
  have h1 := fun w => path_is a w
  have h2 := fun w => path_is t w
  have h3 := fun w => cut_is a t w
  have h4 := fun w => suf_is t slashS w ht
  have h5 := fun w => pre_is (cutB a t) slashS w
  unfold underB
  unfold slashS at h4 h5 ⊢
  generalize cutB a t = r at h3 h5 ⊢
  generalize pathB a = x1 at h1 ⊢
  generalize pathB t = x2 at h2 ⊢
  generalize preB a t = x3 at h3 ⊢
  generalize sufB t ⟨#[47]⟩ = x4 at h4 ⊢
  generalize preB r ⟨#[47]⟩ = x5 at h5 ⊢
  obtain ⟨x6, hx6⟩ : ∃ x, r.toList.isEmpty = x := ⟨_, rfl⟩
  rw [hx6]
  cases x1 <;> cases x2 <;> cases x3 <;> cases x4 <;> cases x5 <;> cases x6
  all_goals
    have B := Below.refl w.heap.size w
    go_enter Try.func87, Try.ntmps87
    go_wp2_with (first
      | (go_at_call 66; ((with_reducible refine (h1 _).mono ?_); rintro e wx ⟨rfl, kk⟩; replace B := below_next B kk; clear kk))
      | (go_at_call 66; ((with_reducible refine (h2 _).mono ?_); rintro e wx ⟨rfl, kk⟩; replace B := below_next B kk; clear kk))
      | (go_at_call 96; ((with_reducible refine (h3 _).mono ?_); rintro e w' ⟨rfl, rfl⟩))
      | (go_at_call 94; ((with_reducible refine (h4 _).mono ?_); rintro e w' ⟨rfl, rfl⟩))
      | (go_at_call 97; ((with_reducible refine (h5 _).mono ?_); rintro e w' ⟨rfl, rfl⟩)))
    go_ret
    exact ⟨rfl, B⟩
end Go.Proofs.Ytknjdaokidcllaa
