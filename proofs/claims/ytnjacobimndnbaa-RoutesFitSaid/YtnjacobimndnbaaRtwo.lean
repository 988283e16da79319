/- The walk of RoutesFit. -/
import Derived.Test.YtnjacobimndnbaaRone
namespace Go.Proofs.Ytnjacobimndnbaa
open Go.RowKit
set_option linter.unusedVariables false
set_option linter.unusedSimpArgs false
set_option maxRecDepth 100000

/-- What is known of the best one: it fits, and none that fits is better; or none fits. -/
theorem best_two (l : List Rl) (f : Rl → Bool) : (bestO l f = none ∧ ∀ k (hk : k < l.length), f l[k] = false) ∨ ∃ x, ∃ hx : x < l.length, bestO l f = some ⟨x, hx⟩ ∧ f l[x] = true ∧ ∀ k (hk : k < l.length), f l[k] = true → btB l[k] l[x] = false := by
  have h := best_is (l := l) (f := f)
  generalize bestO l f = o at h ⊢
  cases o with
  | none => exact .inl ⟨rfl, fun k hk => h ⟨k, hk⟩ hk⟩
  | some x => exact .inr ⟨x.1, x.2, rfl, h.2.1, fun k hk hf => h.2.2.1 ⟨k, hk⟩ hk hf⟩

set_option maxHeartbeats 8000000 in
theorem routesFit_walk (A : Option Addr) (c : Nat) (l : List Rl) (n : Int) (h p : ByteArray) (i : Int) (w : World) (hin : RulesIn w w.heap.size A c l) (wf : (Lit.int .i64 n).wf = true) (hs : h.size ≤ maxLen) (ps : p.size ≤ maxLen) (wi : (Lit.int .i64 i).wf = true) :
    Calls Try.prog 4 #[.slice A l.length c, .int .i64 n, .string h, .string p, .int .i64 i] w fun e w' => e = .returned (.bool true) ∧ Below w.heap.size w w' := by
  have hm : l.length ≤ 9223372036854775807 := hin.len
  have hL := long_is A c l h p w hin
  obtain ⟨b, hb⟩ : ∃ b, longB l h p = b := ⟨_, rfl⟩
  rw [hb] at hL
  have HIN := Lib.hid hin
  have HB := Lib.hid hb
  clear hb hin
  go_enter Try.func4, Try.ntmps4
  go_wp2_with fail
  refine hL.mono ?_
  rintro e wx ⟨rfl, rfl⟩
  clear hL
  cases b with
  | true =>
    go_wp2_with fail
    go_ret
    exact ⟨rfl, Below.refl _ _⟩
  | false =>
  have F := Lib.hid (Fine.of HB.out)
  have h1 := best_calls A c l n h p w HIN.out F.out.h F.out.paths
  have hO := best_two l (fitsB n h p)
  generalize bestO l (fitsB n h p) = o at h1 hO
  have HO := Lib.hid hO
  clear hO
  go_wp2_with fail
  refine h1.mono ?_
  rintro e W1 ⟨rfl, B1⟩
  clear h1
  by_cases hi : i < 0 ∨ (l.length : Int) ≤ i
  · -- no number of a rule
    obtain ⟨x1, hx1⟩ : ∃ b, decide (i < 0) = b := ⟨_, rfl⟩
    obtain ⟨x2, hx2⟩ : ∃ b, decide ((l.length : Int) ≤ i) = b := ⟨_, rfl⟩
    have hxx : x1 = true ∨ x2 = true := by rw [← hx1, ← hx2, decide_eq_true_eq, decide_eq_true_eq]; exact hi
    have HXX := Lib.hid hxx
    clear hi hxx
    rcases HO.out with ⟨rfl, _⟩ | ⟨x, hx, rfl, hfx, _⟩
    · simp only [numO, errO]
      cases x1 <;> cases x2
      case false.false => exact absurd HXX.out (by decide)
      all_goals
        clear HXX
        go_wp2_with (go_at_call 11; ((with_reducible refine (chosen_is _).mono ?_); rintro e W2 ⟨rfl, kk⟩; have B2 := below_next B1 kk))
        go_ret
        exact ⟨rfl, B2⟩
    · simp only [numO, errO]
      obtain ⟨ad, e, _⟩ := HIN.out.ad hx
      subst e
      have HFX := Lib.hid hfx
      clear hfx
      have t1 : decide (x < l.length) = true := decide_eq_true hx
      have tail : ∀ W, Below w.heap.size w W → Four W (ad.add (x * 4)) (.int .i64 l[x].listen) (.string l[x].host) (.string l[x].path) (.int .i64 l[x].cluster) := fun W hW => HIN.out.at_ hx (fun q hq => hW.cell hq)
      have hf := fun W => fits_is l[x] n h p W F.out.h (F.out.paths _ (List.getElem_mem hx))
      rw [HFX.out] at hf
      unfold Rl.val at hf
      have TL := Lib.hid tail
      clear tail
      cases x1 <;> cases x2
      case false.false => exact absurd HXX.out (by decide)
      all_goals
        clear HXX
        go_wp2_with fail
        refine (chosen_is _).mono ?_
        rintro e W2 ⟨rfl, kk⟩
        have B2 := below_next B1 kk
        obtain ⟨f0, f1, f2, f3⟩ := TL.out _ B2
        clear kk
        go_wp2_with fail
        refine (hf _).mono ?_
        rintro e W3 ⟨rfl, kk⟩
        have B3 := below_next B2 kk
        clear kk f0 f1 f2 f3
        go_wp2_with fail
        go_ret
        exact ⟨rfl, B3⟩
  · obtain ⟨k, rfl⟩ : ∃ k : Nat, i = (k : Int) := ⟨i.toNat, by omega⟩
    have hk : k < l.length := by omega
    have t1 : decide ((k : Int) < 0) = false := decide_eq_false (by omega)
    have t2 : decide (l.length ≤ k) = false := decide_eq_false (by omega)
    clear hi
    obtain ⟨ad, e, _⟩ := HIN.out.ad hk
    subst e
    have tail : ∀ W, Below w.heap.size w W → W.cell? (ad.add (k * 4)) = some (.int .i64 l[k].listen) ∧ W.cell? ⟨(ad.add (k * 4)).block, (ad.add (k * 4)).off + 1, none⟩ = some (.string l[k].host) ∧ W.cell? ⟨(ad.add (k * 4)).block, (ad.add (k * 4)).off + 2, none⟩ = some (.string l[k].path) ∧ W.cell? ⟨(ad.add (k * 4)).block, (ad.add (k * 4)).off + 3, none⟩ = some (.int .i64 l[k].cluster) := fun W hW => HIN.out.at_ hk (fun q hq => hW.cell hq)
    have TL := Lib.hid tail
    clear tail
    have hf := fun W => fits_is l[k] n h p W F.out.h (F.out.paths _ (List.getElem_mem hk))
    have hg := fun W => rfits_is l[k] n h p W F.out.h (F.out.short _ (List.getElem_mem hk)).1 (F.out.short _ (List.getElem_mem hk)).2 F.out.p
    obtain ⟨b, hb⟩ : ∃ b, fitsB n h p l[k] = b := ⟨_, rfl⟩
    rw [hb] at hf hg
    have HFK := Lib.hid hb
    clear hb
    unfold Rl.val at hf hg
    go_wp2_with fail
    have B := below_drew B1
    have cK := TL.out _ B
    go_region_held3 (fun wk => wk.cell? (ad.add (k * 4)) = some (.int .i64 l[k].listen) ∧ wk.cell? ⟨(ad.add (k * 4)).block, (ad.add (k * 4)).off + 1, none⟩ = some (.string l[k].host) ∧ wk.cell? ⟨(ad.add (k * 4)).block, (ad.add (k * 4)).off + 2, none⟩ = some (.string l[k].path) ∧ wk.cell? ⟨(ad.add (k * 4)).block, (ad.add (k * 4)).off + 3, none⟩ = some (.int .i64 l[k].cluster)) (exact cK)
      (first
        | (go_at_call 12; ((with_reducible refine (hf _).mono ?_); rintro e wx ⟨rfl, kk⟩; replace B := below_next B kk; clear kk; replace cK := TL.out _ B))
        | (go_at_call 13; ((with_reducible refine (hg _).mono ?_); rintro e wx ⟨rfl, kk⟩; replace B := below_next B kk; clear kk; replace cK := TL.out _ B)))
    clear cK B1
    obtain ⟨f0, f1, f2, f3⟩ := TL.out _ B
    cases b with
    | false =>
      clear hg
      go_wp2_with fail
      refine (hf _).mono ?_
      rintro e W3 ⟨rfl, kk⟩
      have B3 := below_next B kk
      clear kk f0 f1 f2 f3 hf B
      rcases HO.out with ⟨rfl, _⟩ | ⟨x, hx, rfl, hfx, _⟩
      · simp only [numO, errO]
        go_wp2_with (go_at_call 11; ((with_reducible refine (chosen_is _).mono ?_); rintro e W4 ⟨rfl, kk⟩; have B4 := below_next B3 kk))
        go_ret
        exact ⟨rfl, B4⟩
      · simp only [numO, errO]
        have hne : ¬ x = k := fun e => by
          subst e
          rw [HFK.out] at hfx
          cases hfx
        have t5 : (x == k) = false := by simpa using hne
        have t6 : ((x : Int) != (k : Int)) = true := by rw [bne_iff_ne]; omega
        clear hfx hne HO
        go_wp2_with (go_at_call 11; ((with_reducible refine (chosen_is _).mono ?_); rintro e W4 ⟨rfl, kk⟩; have B4 := below_next B3 kk))
        go_ret
        exact ⟨rfl, B4⟩
    | true =>
      clear hg
      go_wp2_with fail
      refine (hf _).mono ?_
      rintro e W3 ⟨rfl, kk⟩
      have B3 := below_next B kk
      clear kk f0 f1 f2 f3 hf B
      rcases HO.out with ⟨rfl, hno⟩ | ⟨x, hx, rfl, hfx, hbx⟩
      · have := hno k hk
        rw [HFK.out] at this
        cases this
      · simp only [numO, errO]
        have hbt := hbx k hk HFK.out
        have t7 : decide (x < l.length) = true := decide_eq_true hx
        have tail : ∀ W, Below w.heap.size w W → W.cell? ⟨(ad.add (k * 4)).block, (ad.add (k * 4)).off + 1, none⟩ = some (.string l[k].host) ∧ W.cell? ⟨(ad.add (k * 4)).block, (ad.add (k * 4)).off + 2, none⟩ = some (.string l[k].path) ∧ W.cell? ⟨(ad.add (x * 4)).block, (ad.add (x * 4)).off + 1, none⟩ = some (.string l[x].host) ∧ W.cell? ⟨(ad.add (x * 4)).block, (ad.add (x * 4)).off + 2, none⟩ = some (.string l[x].path) := fun W hW => by
          obtain ⟨_, h1, h2, _⟩ := HIN.out.at_ hk (fun q hq => hW.cell hq)
          obtain ⟨_, h3, h4, _⟩ := HIN.out.at_ hx (fun q hq => hW.cell hq)
          exact ⟨h1, h2, h3, h4⟩
        have T2 := Lib.hid tail
        have hb := fun W => better_is l[k].host l[k].path l[x].host l[x].path W
        have e3 : betterB l[k].host l[k].path l[x].host l[x].path = false := hbt
        rw [e3] at hb
        clear tail hbx hbt e3 hfx HO TL
        generalize l[k] = rk at *
        generalize l[x] = rx at *
        go_wp2_with fail
        have B := below_drew B3
        have cK := T2.out _ B
        go_region_held3 (fun wk => wk.cell? ⟨(ad.add (k * 4)).block, (ad.add (k * 4)).off + 1, none⟩ = some (.string rk.host) ∧ wk.cell? ⟨(ad.add (k * 4)).block, (ad.add (k * 4)).off + 2, none⟩ = some (.string rk.path) ∧ wk.cell? ⟨(ad.add (x * 4)).block, (ad.add (x * 4)).off + 1, none⟩ = some (.string rx.host) ∧ wk.cell? ⟨(ad.add (x * 4)).block, (ad.add (x * 4)).off + 2, none⟩ = some (.string rx.path)) (exact cK)
          (first
            | (go_at_call 11; ((with_reducible refine (chosen_is _).mono ?_); rintro e wx ⟨rfl, kk⟩; replace B := below_next B kk; clear kk; replace cK := T2.out _ B))
            | (go_at_call 14; ((with_reducible refine (hb _).mono ?_); rintro e wx ⟨rfl, kk⟩; replace B := below_next B kk; clear kk; replace cK := T2.out _ B)))
        clear cK
        go_wp2_with fail
        go_ret
        exact ⟨rfl, B⟩
end Go.Proofs.Ytnjacobimndnbaa
