/- The document's best rule: the first one that fits and is not beaten. -/
import Derived.Test.YtnjacobimndnbaaRfit
import Derived.Deep.RegionHeld3
import Derived.Deep.RegionWith
import Derived.Deep.LoopGhost
namespace Go.Proofs.Ytnjacobimndnbaa
open Go.RowKit
set_option linter.unusedVariables false
set_option linter.unusedSimpArgs false
set_option maxRecDepth 100000

/-- All texts are short enough. -/
def Short (l : List Rl) : Prop := ∀ r ∈ l, r.host.size ≤ 2000 ∧ r.path.size ≤ 2000

set_option maxHeartbeats 4000000 in
theorem beaten_is (A : Option Addr) (c : Nat) (l : List Rl) (i : Nat) (hi : i < l.length) (li : Int) (h p : ByteArray) (w : World) (hin : RulesIn w w.heap.size A c l) (hh : h.size ≤ 2000) (hq : p.size ≤ 2000) (hs : Short l) :
    Calls Try.prog 18 #[.slice A l.length c, .int .i64 i, .int .i64 li, .string h, .string p] w (Says w (beatB l (fitsB li h p) l[i])) := by
  have hm : l.length ≤ 9223372036854775807 := hin.len
  obtain ⟨ad, e, _⟩ := hin.ad hi
  subst e
  have HIN := Lib.hid hin
  have HS := Lib.hid hs
  have HH := Lib.hid hh
  have HQ := Lib.hid hq
  clear hin hs hh hq
  obtain ⟨ri, hri⟩ : ∃ r, l[i] = r := ⟨_, rfl⟩
  have HRI := Lib.hid hri
  have HRS := Lib.hid (show ri.host.size ≤ 2000 from by rw [← hri]; exact (HS.out _ (List.getElem_mem hi)).1)
  rw [hri]
  clear hri
  go_enter Try.func18, Try.ntmps18
  go_wp2
  go_loopg [11] l.length (fun g x wr => ∃ k : Nat, k ≤ l.length ∧ g = l.length - k ∧ x = .int .i64 k ∧ ((l.take k).any fun x => fitsB li h p x && btB x ri) = false ∧ Below w.heap.size w wr)
  case atStart => exact ⟨0, Nat.zero_le _, rfl, rfl, rfl, Below.refl _ _⟩
  case round =>
    obtain ⟨k, hk, rfl, rfl, hno, B⟩ := hrel
    have HN := Lib.hid hno
    clear hno
    by_cases hlt : k < l.length
    · obtain ⟨f0, f1, f2, f3⟩ := HIN.out.at_ (W := wr) hlt (fun q hq => B.cell hq)
      obtain ⟨g0, g1, g2, g3⟩ := HIN.out.at_ (W := wr) hi (fun q hq => B.cell hq)
      have rest : ∀ W, Below w.heap.size w W → Four W (ad.add (k * 4)) (.int .i64 l[k].listen) (.string l[k].host) (.string l[k].path) (.int .i64 l[k].cluster) ∧ Four W (ad.add (i * 4)) (.int .i64 l[i].listen) (.string l[i].host) (.string l[i].path) (.int .i64 l[i].cluster) :=
        fun W hW => ⟨HIN.out.at_ (W := W) hlt (fun q hq => hW.cell hq), HIN.out.at_ (W := W) hi (fun q hq => hW.cell hq)⟩
      have s1 := HS.out _ (List.getElem_mem hlt)
      rw [HRI.out] at g0 g1 g2 g3 rest
      have HX : ∀ b c, fitsB li h p l[k] = b → btB l[k] ri = c → ((l.take (k + 1)).any fun x => fitsB li h p x && btB x ri) = (b && c) := fun b c h1 h2 => by rw [any_next hlt, HN.out, h1, h2, Bool.false_or]
      have HY : fitsB li h p l[k] = true → btB l[k] ri = true → beatB l (fitsB li h p) ri = true := fun h1 h2 => any_hit hlt (by rw [h1, h2]; rfl)
      generalize l[k] = r at f0 f1 f2 f3 s1 rest HX HY
      have hf := fun W => rfits_is r li h p W HH.out s1.1 s1.2 HQ.out
      have hb := fun W => rbetter_is r.host r.path ri.host ri.path W s1.1 HRS.out
      have e3 : betterB r.host r.path ri.host ri.path = btB r ri := rfl
      rw [e3] at hb
      clear e3 s1
      unfold Rl.val at hf
      obtain ⟨b, hb1⟩ : ∃ b, fitsB li h p r = b := ⟨_, rfl⟩
      obtain ⟨d, hd1⟩ : ∃ d, btB r ri = d := ⟨_, rfl⟩
      rw [hb1] at hf HX HY
      rw [hd1] at hb HX HY
      have HX' := Lib.hid (HX b d rfl rfl)
      have HY' := Lib.hid HY
      have RST := Lib.hid rest
      clear hb1 hd1 HX HY rest
      have BH := Lib.hid B
      have c0 : wr.drew.cell? (ad.add (k * 4)) = some (.int .i64 r.listen) ∧ wr.drew.cell? ⟨(ad.add (k * 4)).block, (ad.add (k * 4)).off + 1, none⟩ = some (.string r.host) ∧ wr.drew.cell? ⟨(ad.add (k * 4)).block, (ad.add (k * 4)).off + 2, none⟩ = some (.string r.path) ∧ wr.drew.cell? ⟨(ad.add (k * 4)).block, (ad.add (k * 4)).off + 3, none⟩ = some (.int .i64 r.cluster)
        ∧ wr.drew.cell? ⟨(ad.add (i * 4)).block, (ad.add (i * 4)).off + 1, none⟩ = some (.string ri.host) ∧ wr.drew.cell? ⟨(ad.add (i * 4)).block, (ad.add (i * 4)).off + 2, none⟩ = some (.string ri.path) := ⟨f0, f1, f2, f3, g1, g2⟩
      clear f0 f1 f2 f3 g0 g1 g2 g3 B
      cases b with
      | false =>
        go_wp2_with fail
        obtain ⟨f0, f1, f2, f3, _, _⟩ := c0
        refine wp_region_any (by kernel_rfl) ?_
        change wpAny _ _ _ _ _ _ _ (World.drew _)
        refine wpAny_take (i := 0) (oi := { dst := some 18, op := _, type := _, pos := _, after := _, guard := _ }) (v := .slice (some ad) l.length c) rfl (by kernel_rfl) (by kernel_rfl) (by kernel_rfl) (fun _ _ _ h => h) (Or.inl ⟨by rfl, fun w => by go_simp⟩) ?_
        simp only [Act.put, List.setIfInBounds_toArray, List.set_cons_zero, List.set_cons_succ]
        refine wpAny_take (i := 1) (oi := { dst := some 19, op := _, type := _, pos := _, after := _, guard := _ }) (v := .int .i64 k) rfl (by kernel_rfl) (by kernel_rfl) (by kernel_rfl) (fun _ _ _ h => h) (Or.inl ⟨by rfl, fun w => by go_simp⟩) ?_
        simp only [Act.put, List.setIfInBounds_toArray, List.set_cons_zero, List.set_cons_succ]
        refine wpAny_take (i := 2) (oi := { dst := some 20, op := _, type := _, pos := _, after := _, guard := _ }) (v := .pointer (some (ad.add (k * 4)))) rfl (by kernel_rfl) (by kernel_rfl) (by kernel_rfl) (fun _ _ _ h => h) (Or.inl ⟨by rfl, fun w => by go_simp⟩) ?_
        simp only [Act.put, List.setIfInBounds_toArray, List.set_cons_zero, List.set_cons_succ]
        refine wpAny_take (i := 4) (oi := { dst := some 22, op := _, type := _, pos := _, after := _, guard := _ }) (v := .int .i64 li) rfl (by kernel_rfl) (by kernel_rfl) (by kernel_rfl) (fun _ _ _ h => h) (Or.inl ⟨by rfl, fun w => by go_simp⟩) ?_
        simp only [Act.put, List.setIfInBounds_toArray, List.set_cons_zero, List.set_cons_succ]
        refine wpAny_take (i := 5) (oi := { dst := some 23, op := _, type := _, pos := _, after := _, guard := _ }) (v := .string h) rfl (by kernel_rfl) (by kernel_rfl) (by kernel_rfl) (fun _ _ _ h => h) (Or.inl ⟨by rfl, fun w => by go_simp⟩) ?_
        simp only [Act.put, List.setIfInBounds_toArray, List.set_cons_zero, List.set_cons_succ]
        refine wpAny_take (i := 6) (oi := { dst := some 24, op := _, type := _, pos := _, after := _, guard := _ }) (v := .string p) rfl (by kernel_rfl) (by kernel_rfl) (by kernel_rfl) (fun _ _ _ h => h) (Or.inl ⟨by rfl, fun w => by go_simp⟩) ?_
        simp only [Act.put, List.setIfInBounds_toArray, List.set_cons_zero, List.set_cons_succ]
        refine wpAny_ready (rs := [3]) (by kernel_rfl) (by simp) ?_
        refine AllReady.cons rfl (fun K hK => ?_) AllReady.nil
        go_simp
        refine hK _ _ ?_
        clear hK K
        refine wpAny_ready (rs := [7]) (by kernel_rfl) (by simp) ?_
        refine AllReady.cons rfl (fun K hK => ?_) AllReady.nil
        go_simp
        refine (hf _).mono ?_
        rintro e w3 ⟨rfl, kk⟩
        have B3 := below_next BH.out ((below_drew (Below.refl _ _)).trans kk)
        refine hK _ _ ?_
        clear hK K kk
        refine wpAny_take (i := 8) (oi := { dst := some 26, op := _, type := _, pos := _, after := _, guard := _ }) (v := .bool false) rfl (by kernel_rfl) (by kernel_rfl) (by kernel_rfl) (fun _ _ _ h => h) (Or.inl ⟨by rfl, fun w => by go_simp⟩) ?_
        simp only [Act.put, List.setIfInBounds_toArray, List.set_cons_zero, List.set_cons_succ]
        refine wpAny_take (i := 9) (oi := { dst := some 27, op := _, type := _, pos := _, after := _, guard := _ }) (v := undef) rfl (by kernel_rfl) (by kernel_rfl) (by kernel_rfl) (fun _ _ _ h => h) (Or.inr ⟨by rfl, rfl⟩) ?_
        simp only [Act.put, List.setIfInBounds_toArray, List.set_cons_zero, List.set_cons_succ]
        refine wpAny_take (i := 10) (oi := { dst := some 28, op := _, type := _, pos := _, after := _, guard := _ }) (v := undef) rfl (by kernel_rfl) (by kernel_rfl) (by kernel_rfl) (fun _ _ _ h => h) (Or.inr ⟨by rfl, rfl⟩) ?_
        simp only [Act.put, List.setIfInBounds_toArray, List.set_cons_zero, List.set_cons_succ]
        refine wpAny_take (i := 11) (oi := { dst := some 29, op := _, type := _, pos := _, after := _, guard := _ }) (v := undef) rfl (by kernel_rfl) (by kernel_rfl) (by kernel_rfl) (fun _ _ _ h => h) (Or.inr ⟨by rfl, rfl⟩) ?_
        simp only [Act.put, List.setIfInBounds_toArray, List.set_cons_zero, List.set_cons_succ]
        refine wpAny_take (i := 12) (oi := { dst := some 30, op := _, type := _, pos := _, after := _, guard := _ }) (v := undef) rfl (by kernel_rfl) (by kernel_rfl) (by kernel_rfl) (fun _ _ _ h => h) (Or.inr ⟨by rfl, rfl⟩) ?_
        simp only [Act.put, List.setIfInBounds_toArray, List.set_cons_zero, List.set_cons_succ]
        refine wpAny_take (i := 13) (oi := { dst := some 31, op := _, type := _, pos := _, after := _, guard := _ }) (v := undef) rfl (by kernel_rfl) (by kernel_rfl) (by kernel_rfl) (fun _ _ _ h => h) (Or.inr ⟨by rfl, rfl⟩) ?_
        simp only [Act.put, List.setIfInBounds_toArray, List.set_cons_zero, List.set_cons_succ]
        refine wpAny_take (i := 14) (oi := { dst := some 32, op := _, type := _, pos := _, after := _, guard := _ }) (v := undef) rfl (by kernel_rfl) (by kernel_rfl) (by kernel_rfl) (fun _ _ _ h => h) (Or.inr ⟨by rfl, rfl⟩) ?_
        simp only [Act.put, List.setIfInBounds_toArray, List.set_cons_zero, List.set_cons_succ]
        refine wpAny_take (i := 15) (oi := { dst := some 33, op := _, type := _, pos := _, after := _, guard := _ }) (v := undef) rfl (by kernel_rfl) (by kernel_rfl) (by kernel_rfl) (fun _ _ _ h => h) (Or.inr ⟨by rfl, rfl⟩) ?_
        simp only [Act.put, List.setIfInBounds_toArray, List.set_cons_zero, List.set_cons_succ]
        refine wpAny_take (i := 16) (oi := { dst := some 34, op := _, type := _, pos := _, after := _, guard := _ }) (v := undef) rfl (by kernel_rfl) (by kernel_rfl) (by kernel_rfl) (fun _ _ _ h => h) (Or.inr ⟨by rfl, rfl⟩) ?_
        simp only [Act.put, List.setIfInBounds_toArray, List.set_cons_zero, List.set_cons_succ]
        refine wpAny_take (i := 17) (oi := { dst := some 35, op := _, type := _, pos := _, after := _, guard := _ }) (v := undef) rfl (by kernel_rfl) (by kernel_rfl) (by kernel_rfl) (fun _ _ _ h => h) (Or.inr ⟨by rfl, rfl⟩) ?_
        simp only [Act.put, List.setIfInBounds_toArray, List.set_cons_zero, List.set_cons_succ]
        refine wpAny_take (i := 18) (oi := { dst := some 36, op := _, type := _, pos := _, after := _, guard := _ }) (v := undef) rfl (by kernel_rfl) (by kernel_rfl) (by kernel_rfl) (fun _ _ _ h => h) (Or.inr ⟨by rfl, rfl⟩) ?_
        simp only [Act.put, List.setIfInBounds_toArray, List.set_cons_zero, List.set_cons_succ]
        refine wpAny_take (i := 19) (oi := { dst := some 37, op := _, type := _, pos := _, after := _, guard := _ }) (v := undef) rfl (by kernel_rfl) (by kernel_rfl) (by kernel_rfl) (fun _ _ _ h => h) (Or.inr ⟨by rfl, rfl⟩) ?_
        simp only [Act.put, List.setIfInBounds_toArray, List.set_cons_zero, List.set_cons_succ]
        refine wpAny_take (i := 20) (oi := { dst := some 38, op := _, type := _, pos := _, after := _, guard := _ }) (v := undef) rfl (by kernel_rfl) (by kernel_rfl) (by kernel_rfl) (fun _ _ _ h => h) (Or.inr ⟨by rfl, rfl⟩) ?_
        simp only [Act.put, List.setIfInBounds_toArray, List.set_cons_zero, List.set_cons_succ]
        refine wpAny_take (i := 21) (oi := { dst := some 39, op := _, type := _, pos := _, after := _, guard := _ }) (v := undef) rfl (by kernel_rfl) (by kernel_rfl) (by kernel_rfl) (fun _ _ _ h => h) (Or.inr ⟨by rfl, rfl⟩) ?_
        simp only [Act.put, List.setIfInBounds_toArray, List.set_cons_zero, List.set_cons_succ]
        refine wpAny_take (i := 22) (oi := { dst := some 40, op := _, type := _, pos := _, after := _, guard := _ }) (v := undef) rfl (by kernel_rfl) (by kernel_rfl) (by kernel_rfl) (fun _ _ _ h => h) (Or.inr ⟨by rfl, rfl⟩) ?_
        simp only [Act.put, List.setIfInBounds_toArray, List.set_cons_zero, List.set_cons_succ]
        refine wpAny_take (i := 23) (oi := { dst := some 41, op := _, type := _, pos := _, after := _, guard := _ }) (v := undef) rfl (by kernel_rfl) (by kernel_rfl) (by kernel_rfl) (fun _ _ _ h => h) (Or.inr ⟨by rfl, rfl⟩) ?_
        simp only [Act.put, List.setIfInBounds_toArray, List.set_cons_zero, List.set_cons_succ]
        refine wpAny_take (i := 24) (oi := { dst := some 42, op := _, type := _, pos := _, after := _, guard := _ }) (v := undef) rfl (by kernel_rfl) (by kernel_rfl) (by kernel_rfl) (fun _ _ _ h => h) (Or.inr ⟨by rfl, rfl⟩) ?_
        simp only [Act.put, List.setIfInBounds_toArray, List.set_cons_zero, List.set_cons_succ]
        refine wpAny_take (i := 25) (oi := { dst := some 43, op := _, type := _, pos := _, after := _, guard := _ }) (v := undef) rfl (by kernel_rfl) (by kernel_rfl) (by kernel_rfl) (fun _ _ _ h => h) (Or.inr ⟨by rfl, rfl⟩) ?_
        simp only [Act.put, List.setIfInBounds_toArray, List.set_cons_zero, List.set_cons_succ]
        refine wpAny_take (i := 26) (oi := { dst := some 44, op := _, type := _, pos := _, after := _, guard := _ }) (v := undef) rfl (by kernel_rfl) (by kernel_rfl) (by kernel_rfl) (fun _ _ _ h => h) (Or.inr ⟨by rfl, rfl⟩) ?_
        simp only [Act.put, List.setIfInBounds_toArray, List.set_cons_zero, List.set_cons_succ]
        refine wpAny_take (i := 27) (oi := { dst := some 45, op := _, type := _, pos := _, after := _, guard := _ }) (v := undef) rfl (by kernel_rfl) (by kernel_rfl) (by kernel_rfl) (fun _ _ _ h => h) (Or.inr ⟨by rfl, rfl⟩) ?_
        simp only [Act.put, List.setIfInBounds_toArray, List.set_cons_zero, List.set_cons_succ]
        refine wpAny_take (i := 28) (oi := { dst := some 46, op := _, type := _, pos := _, after := _, guard := _ }) (v := undef) rfl (by kernel_rfl) (by kernel_rfl) (by kernel_rfl) (fun _ _ _ h => h) (Or.inr ⟨by rfl, rfl⟩) ?_
        simp only [Act.put, List.setIfInBounds_toArray, List.set_cons_zero, List.set_cons_succ]
        refine wpAny_take (i := 29) (oi := { dst := some 47, op := _, type := _, pos := _, after := _, guard := _ }) (v := undef) rfl (by kernel_rfl) (by kernel_rfl) (by kernel_rfl) (fun _ _ _ h => h) (Or.inr ⟨by rfl, rfl⟩) ?_
        simp only [Act.put, List.setIfInBounds_toArray, List.set_cons_zero, List.set_cons_succ]
        refine wpAny_take (i := 30) (oi := { dst := some 48, op := _, type := _, pos := _, after := _, guard := _ }) (v := .bool false) rfl (by kernel_rfl) (by kernel_rfl) (by kernel_rfl) (fun _ _ _ h => h) (Or.inl ⟨by rfl, fun w => by go_simp⟩) ?_
        simp only [Act.put, List.setIfInBounds_toArray, List.set_cons_zero, List.set_cons_succ]
        refine wpAny_done (by kernel_rfl) ?_ _
        go_wp2_with fail
        go_roundg (l.length - (k + 1))
        case measure => omega
        case rel => exact ⟨k + 1, by omega, rfl, by go_num, HX'.out, B3⟩
      | true =>
        go_wp2_with fail
        go_region_held3 (fun wk => wk.cell? (ad.add (k * 4)) = some (.int .i64 r.listen) ∧ wk.cell? ⟨(ad.add (k * 4)).block, (ad.add (k * 4)).off + 1, none⟩ = some (.string r.host) ∧ wk.cell? ⟨(ad.add (k * 4)).block, (ad.add (k * 4)).off + 2, none⟩ = some (.string r.path) ∧ wk.cell? ⟨(ad.add (k * 4)).block, (ad.add (k * 4)).off + 3, none⟩ = some (.int .i64 r.cluster)
            ∧ wk.cell? ⟨(ad.add (i * 4)).block, (ad.add (i * 4)).off + 1, none⟩ = some (.string ri.host) ∧ wk.cell? ⟨(ad.add (i * 4)).block, (ad.add (i * 4)).off + 2, none⟩ = some (.string ri.path)) (first | exact c0 | exact c3 | exact c4)
          (first
            | (go_at_call 13; ((with_reducible refine (hf _).mono ?_); rintro e w3 ⟨rfl, kk⟩; have B3 := below_next BH.out ((below_drew (Below.refl _ _)).trans kk); obtain ⟨⟨x0, x1, x2, x3⟩, y0, y1, y2, y3⟩ := RST.out _ B3; have c3 := And.intro x0 (And.intro x1 (And.intro x2 (And.intro x3 (And.intro y1 y2)))); clear x0 x1 x2 x3 y0 y1 y2 y3))
            | (go_at_call 26; ((with_reducible refine (hb _).mono ?_); rintro e w4 ⟨rfl, kk2⟩; have B4 := below_next B3 kk2; obtain ⟨⟨x0, x1, x2, x3⟩, y0, y1, y2, y3⟩ := RST.out _ B4; have c4 := And.intro x0 (And.intro x1 (And.intro x2 (And.intro x3 (And.intro y1 y2)))); clear x0 x1 x2 x3 y0 y1 y2 y3)))
        cases d with
        | false =>
          go_wp2_with fail
          go_roundg (l.length - (k + 1))
          case measure => omega
          case rel => exact ⟨k + 1, by omega, rfl, by go_num, HX'.out, B4⟩
        | true =>
          go_wp2_with fail
          go_ret
          rw [HY'.out (by trivial) (by trivial)]
          exact ⟨rfl, B4⟩
    · have HL : Hid (beatB l (fitsB li h p) ri = false) := Lib.hid (any_end hlt HN.out)
      go_wp2_with fail
      go_ret
      rw [HL.out]
      exact ⟨rfl, B⟩
end Go.Proofs.Ytnjacobimndnbaa
