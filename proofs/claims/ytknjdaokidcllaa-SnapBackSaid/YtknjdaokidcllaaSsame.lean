/- The document's comparisons: of texts, clusters, configurations and snapshots. -/
import Derived.Test.YtknjdaokidcllaaSpure
import Derived.Test.YtknjdaokidcllaaM1
import Derived.RegionTactic
import Derived.BigQuiet
import Derived.Deep.QuietTactic
import Derived.Deep.LoopGhost
namespace Go.Proofs.Ytknjdaokidcllaa
open Go.RowKit
set_option linter.unusedVariables false
set_option linter.unusedSimpArgs false
set_option maxRecDepth 100000

set_option maxHeartbeats 1000000 in
theorem sameTexts_is (A A' : Option Addr) (c c' B B' : Nat) (xs ys : List ByteArray) (w : World) (hl : xs.length ≤ maxLen) (hl' : ys.length ≤ maxLen)
    (hx : Reads w B A (xs.map Value.string)) (hy : Reads w B' A' (ys.map Value.string)) :
    Calls Try.prog 26 #[.slice A xs.length c, .slice A' ys.length c'] w (Says w (sameL eqB xs ys)) := by
  unfold maxLen at hl hl'
  obtain ⟨b, hb⟩ : ∃ b, (xs.length == ys.length) = b := ⟨_, rfl⟩
  cases b with
  | false =>
    have e : sameL eqB xs ys = false := sameL_len (by simpa using hb)
    rw [e]
    clear e
    go_enter Try.func26, Try.ntmps26
    go_wp2_with fail
    go_ret
    exact ⟨rfl, Below.refl _ _⟩
  | true =>
    have hxy : xs.length = ys.length := by simpa using hb
    have HXY := Lib.hid hxy
    have HX := Lib.hid hx
    have HY := Lib.hid hy
    clear hxy hx hy
    go_enter Try.func26, Try.ntmps26
    go_wp2_with fail
    clear hb
    go_loopw [5] (fun i wr => ∃ k : Nat, k ≤ xs.length ∧ i = .int .i64 k ∧ (∀ j (h : j < xs.length) (h' : j < ys.length), j < k → eqB xs[j] ys[j] = true) ∧ ∃ n, wr = w.drewN n) (fun i _ => xs.length - (intOf i).toNat)
    case atStart => exact ⟨0, by omega, rfl, fun j _ _ h0 => by omega, 0, rfl⟩
    case round =>
      obtain ⟨k, hk, rfl, hno, n, rfl⟩ := hrel
      have HN := Lib.hid hno
      clear hno
      by_cases hlt : k < xs.length
      · have hlt' : k < ys.length := by rw [← HXY.out]; exact hlt
        obtain ⟨ad, rfl, _, hc⟩ := HX.out.str hlt
        obtain ⟨ad', rfl, _, hc'⟩ := HY.out.str hlt'
        obtain ⟨b, hb⟩ : ∃ b, (xs[k].toList == ys[k].toList) = b := ⟨_, rfl⟩
        have HB := Lib.hid (show eqB xs[k] ys[k] = b from hb)
        generalize xs[k] = x at hc hb
        generalize ys[k] = y at hc' hb
        cases b with
        | true =>
          go_wp2_with fail
          go_quiet (fail)
          go_wp2_with fail
          go_roundw
          case rel => exact ⟨k + 1, by omega, by go_num, fun j h h' hj => by
            rcases Nat.lt_or_ge j k with e | e
            · exact HN.out j h h' e
            · obtain rfl : j = k := by omega
              exact HB.out, _, rfl⟩
          case measure => simp [intOf]; omega
        | false =>
          have HE := Lib.hid (sameL_at hlt hlt' HB.out)
          go_wp2_with fail
          go_quiet (fail)
          go_wp2_with fail
          go_ret
          rw [HE.out]
          exact ⟨rfl, below_drewN (below_drewN (Below.refl _ _) _) _⟩
      · have HE := Lib.hid (sameL_all (p := eqB) HXY.out fun i h h' => HN.out i h h' (by omega))
        go_wp2_with fail
        go_ret
        rw [HE.out]
        exact ⟨rfl, below_drewN (Below.refl _ _) _⟩

/-- Clusters, with what their Health lists hold. -/
structure HealthIn (w : World) (B : Nat) (cs : List Cl) (hs : List (List Bool)) : Prop where
  len : hs.length = cs.length
  at_ : ∀ i (h : i < cs.length) (h' : i < hs.length), hs[i].length = cs[i].hn ∧ Reads w B cs[i].ha (hs[i].map Value.bool)
def chs (cs : List Cl) (hs : List (List Bool)) : List Ch := List.zipWith (fun c h => ⟨c.name, c.policy, c.slots, h⟩) cs hs
section
variable {w w' : World} {B B' : Nat} {cs : List Cl} {hs : List (List Bool)}
theorem HealthIn.keep (h : HealthIn w B cs hs) (hk : ∀ p : Addr, p.block < B → w'.cell? p = w.cell? p) : HealthIn w' B cs hs := ⟨h.len, fun i h1 h2 => ⟨(h.at_ i h1 h2).1, (h.at_ i h1 h2).2.keep hk⟩⟩
theorem HealthIn.more (h : HealthIn w B cs hs) (hB : B ≤ B') : HealthIn w B' cs hs := ⟨h.len, fun i h1 h2 => ⟨(h.at_ i h1 h2).1, (h.at_ i h1 h2).2.more hB⟩⟩
theorem HealthIn.below (h : HealthIn w B cs hs) (hb : Below B w w') : HealthIn w' B cs hs := h.keep fun _ hp => hb.cell hp
theorem chs_len (h : hs.length = cs.length) : (chs cs hs).length = cs.length := by simp [chs, h]
theorem chs_at {k : Nat} (h : k < cs.length) (h' : k < hs.length) (h2 : k < (chs cs hs).length) : (chs cs hs)[k] = ⟨cs[k].name, cs[k].policy, cs[k].slots, hs[k]⟩ := by simp [chs]
end
theorem row4_at {w W : World} {B k : Nat} {ad : Addr} {cs : List Cl} (h : Rows4 w B (some ad) (cs.map Cl.cells)) (hk : k < cs.length) (hb : ∀ p : Addr, p.block < B → W.cell? p = w.cell? p) :
    Four W (ad.add (k * 4)) (.string cs[k].name) (.int .i64 cs[k].policy) (.int .i64 cs[k].slots) (.slice cs[k].ha cs[k].hn cs[k].hc) := by
  obtain ⟨ad', e, _, hc⟩ := (h.keep hb) (by rw [List.length_map]; omega)
  cases e
  exact four_of (hc k cs[k].cells (by rw [List.getElem?_map, List.getElem?_eq_getElem hk]; rfl)) rfl

theorem four_bools {b1 b2 b3 b4 : Bool} (h : ¬ (b1 = true ∧ b2 = true ∧ b3 = true ∧ b4 = true)) : b1 = false ∨ (b1 = true ∧ b2 = false) ∨ (b1 = true ∧ b2 = true ∧ b3 = false) ∨ (b1 = true ∧ b2 = true ∧ b3 = true ∧ b4 = false) := by
  cases b1 <;> cases b2 <;> cases b3 <;> cases b4 <;> simp_all
set_option maxHeartbeats 4000000 in
theorem sameClusters_is (A A' : Option Addr) (c c' B B' : Nat) (cs ds : List Cl) (hs gs : List (List Bool)) (w : World) (hl : cs.length ≤ maxLen) (hl' : ds.length ≤ maxLen) (hw : ∀ x ∈ cs, x.hn ≤ maxLen)
    (hx : Rows4 w B A (cs.map Cl.cells)) (hy : Rows4 w B' A' (ds.map Cl.cells)) (hhx : HealthIn w B cs hs) (hhy : HealthIn w B' ds gs) :
    Calls Try.prog 27 #[.slice A cs.length c, .slice A' ds.length c'] w (Says w (sameL sameCh (chs cs hs) (chs ds gs))) := by
  unfold maxLen at hl hl' hw
  have HCL := Lib.hid (chs_len hhx.len)
  have HDL := Lib.hid (chs_len hhy.len)
  obtain ⟨b, hb⟩ : ∃ b, (cs.length == ds.length) = b := ⟨_, rfl⟩
  cases b with
  | false =>
    have e : sameL sameCh (chs cs hs) (chs ds gs) = false := sameL_len (by rw [HCL.out, HDL.out]; simpa using hb)
    rw [e]
    clear e hw
    go_enter Try.func27, Try.ntmps27
    go_wp2_with fail
    go_ret
    exact ⟨rfl, Below.refl _ _⟩
  | true =>
    have hxy : cs.length = ds.length := by simpa using hb
    have HXY := Lib.hid hxy
    have HX := Lib.hid hx
    have HY := Lib.hid hy
    have HHX := Lib.hid hhx
    have HHY := Lib.hid hhy
    have HW := Lib.hid hw
    clear hxy hx hy hhx hhy hw
    go_enter Try.func27, Try.ntmps27
    go_wp2_with fail
    clear hb
    go_loopg [5] cs.length (fun g i wr => ∃ k : Nat, k ≤ cs.length ∧ g = cs.length - k ∧ i = .int .i64 k ∧ (∀ j (h : j < (chs cs hs).length) (h' : j < (chs ds gs).length), j < k → sameCh (chs cs hs)[j] (chs ds gs)[j] = true) ∧ ∃ n, wr = w.drewN n)
    case atStart => exact ⟨0, by omega, rfl, rfl, fun j _ _ h0 => by omega, 0, rfl⟩
    case round =>
      obtain ⟨k, hk, rfl, rfl, hno, n, rfl⟩ := hrel
      have HN := Lib.hid hno
      clear hno
      by_cases hlt : k < cs.length
      · have hlt' : k < ds.length := by rw [← HXY.out]; exact hlt
        obtain ⟨ad, e, _⟩ := HX.out (by rw [List.length_map]; omega)
        subst e
        obtain ⟨ad', e, _⟩ := HY.out (by rw [List.length_map]; omega)
        subst e
        obtain ⟨f0, f1, f2, f3⟩ := row4_at (W := w) HX.out hlt (fun _ _ => rfl)
        obtain ⟨g0, g1, g2, g3⟩ := row4_at (W := w) HY.out hlt' (fun _ _ => rfl)
        have hhl : k < hs.length := by rw [HHX.out.len]; exact hlt
        have hgl : k < gs.length := by rw [HHY.out.len]; exact hlt'
        have HA := Lib.hid (HHX.out.at_ k hlt hhl)
        have HD := Lib.hid (HHY.out.at_ k hlt' hgl)
        have hx1 : k < (chs cs hs).length := by rw [HCL.out]; exact hlt
        have hx2 : k < (chs ds gs).length := by rw [HDL.out]; exact hlt'
        have hn1 := HW.out _ (List.getElem_mem hlt)
        obtain ⟨b1, hb1⟩ : ∃ b, (cs[k].name.toList == ds[k].name.toList) = b := ⟨_, rfl⟩
        obtain ⟨b2, hb2⟩ : ∃ b, (cs[k].policy == ds[k].policy) = b := ⟨_, rfl⟩
        obtain ⟨b3, hb3⟩ : ∃ b, (cs[k].slots == ds[k].slots) = b := ⟨_, rfl⟩
        obtain ⟨b4, hb4⟩ : ∃ b, (cs[k].hn == ds[k].hn) = b := ⟨_, rfl⟩
        have HB1 := Lib.hid (show eqB cs[k].name ds[k].name = b1 from hb1)
        have HB2 := Lib.hid hb2
        have HB3 := Lib.hid hb3
        have HB4 := Lib.hid hb4
        have HE : ∀ z, (hs[k] == gs[k]) = z → sameCh (chs cs hs)[k] (chs ds gs)[k] = (b1 && b2 && b3 && z) := fun z hz => by
          rw [chs_at hlt hhl, chs_at hlt' hgl]
          show (eqB cs[k].name ds[k].name && (cs[k].policy == ds[k].policy) && (cs[k].slots == ds[k].slots) && (hs[k] == gs[k])) = _
          rw [HB1.out, HB2.out, HB3.out, hz]
        have HEE := Lib.hid HE
        clear HE
        generalize cs[k].name = x1 at f0 hb1
        generalize ds[k].name = y1 at g0 hb1
        generalize cs[k].policy = x2 at f1 hb2
        generalize ds[k].policy = y2 at g1 hb2
        generalize cs[k].slots = x3 at f2 hb3
        generalize ds[k].slots = y3 at g2 hb3
        generalize hx4 : cs[k].hn = x4 at f3 hb4 HA hn1 HB4
        generalize hy4 : ds[k].hn = y4 at g3 hb4 HD HB4
        generalize cs[k].ha = x5 at f3 HA
        generalize ds[k].ha = y5 at g3 HD
        generalize cs[k].hc = x6 at f3
        generalize ds[k].hc = y6 at g3
        have hc2 : (x2 != y2) = !b2 := by rw [bne, hb2]
        have hc3 : (x3 != y3) = !b3 := by rw [bne, hb3]
        have hc4 : ((x4 : Int) != (y4 : Int)) = !b4 := by
          rw [← hb4, bne]
          congr 1
          rw [Bool.eq_iff_iff, beq_iff_eq, beq_iff_eq]
          omega
        clear hx4 hy4 HB1 HB2 HB3
        by_cases hall : b1 = true ∧ b2 = true ∧ b3 = true ∧ b4 = true
        · obtain ⟨rfl, rfl, rfl, rfl⟩ := hall
          simp only [Bool.not_true] at hc2 hc3 hc4
          go_wp2_with fail
          go_quiet (fail)
          go_wp2_with fail
          clear hb1 hb2 hb3 hb4 hc2 hc3 hc4
          have e4 : x4 = y4 := by simpa using HB4.out
          have E4 := Lib.hid e4
          clear e4
          clear f0 f1 f2 g0 g1 g2
          go_loopg [6] x4 (fun g i wr => ∃ j : Nat, j ≤ x4 ∧ g = x4 - j ∧ i = .int .i64 j ∧ (∀ m (h : m < hs[k].length) (h' : m < gs[k].length), m < j → hs[k][m] = gs[k][m]) ∧ ∃ n, wr = w.drewN n)
          case atStart => exact ⟨0, by omega, rfl, rfl, fun m _ _ h0 => by omega, n + nq, World.drewN_drewN _ _ _⟩
          case round =>
            obtain ⟨j, hj, rfl, rfl, hms, n2, rfl⟩ := hrel
            have HM := Lib.hid hms
            clear hms
            by_cases hj4 : j < x4
            · have hj5 : j < y4 := by rw [← E4.out]; exact hj4
              have l1 : j < hs[k].length := by rw [HA.out.1]; exact hj4
              have l2 : j < gs[k].length := by rw [HD.out.1]; exact hj5
              obtain ⟨a5, e5, _, c5⟩ := HA.out.2.at_ (k := j) (by simpa using l1)
              obtain ⟨a6, e6, _, c6⟩ := HD.out.2.at_ (k := j) (by simpa using l2)
              rw [List.getElem_map] at c5 c6
              obtain ⟨u, hu⟩ : ∃ u, hs[k][j] = u := ⟨_, rfl⟩
              obtain ⟨v, hv⟩ : ∃ v, gs[k][j] = v := ⟨_, rfl⟩
              rw [hu] at c5
              rw [hv] at c6
              have HU := Lib.hid hu
              have HV := Lib.hid hv
              clear hu hv
              subst e5
              subst e6
              by_cases huv : u = v
              · subst huv
                cases u
                all_goals
                  go_wp2_with fail
                  go_quiet (fail)
                  go_wp2_with fail
                  go_roundg (x4 - (j + 1))
                  case measure => omega
                  case rel => exact ⟨j + 1, by omega, rfl, by go_num, fun m h h' hm => by
                    rcases Nat.lt_or_ge m j with e | e
                    · exact HM.out m h h' e
                    · obtain rfl : m = j := by omega
                      rw [HU.out, HV.out], _, rfl⟩
              · have HF : Hid (sameL sameCh (chs cs hs) (chs ds gs) = false) := by
                  refine Lib.hid (sameL_at hx1 hx2 ?_)
                  have hz : (hs[k] == gs[k]) = false := by
                    rw [beq_eq_false_iff_ne]
                    intro e
                    apply huv
                    rw [← HU.out, ← HV.out]
                    simp [e]
                  rw [HEE.out _ hz]
                  rfl
                cases u <;> cases v
                case false.false => exact absurd rfl huv
                case true.true => exact absurd rfl huv
                all_goals
                  clear huv
                  go_wp2_with fail
                  go_quiet (fail)
                  go_wp2_with fail
                  go_ret
                  rw [HF.out]
                  exact ⟨rfl, below_drewN (below_drewN (Below.refl _ _) _) _⟩
            · have hjx : j = x4 := by omega
              have hz : (hs[k] == gs[k]) = true := by
                rw [beq_iff_eq]
                refine List.ext_getElem (by rw [HA.out.1, HD.out.1, E4.out]) fun m h1 h2 => HM.out m h1 h2 ?_
                rw [HA.out.1] at h1
                omega
              have HK := Lib.hid (HEE.out _ hz)
              clear hz
              go_wp2_with fail
              go_roundg (cs.length - (k + 1))
              case measure => omega
              case rel => exact ⟨k + 1, by omega, rfl, by go_num, fun m h h' hm => by
                rcases Nat.lt_or_ge m k with e | e
                · exact HN.out m h h' e
                · obtain rfl : m = k := by omega
                  rw [HK.out]; rfl, _, rfl⟩
        · have four := four_bools hall
          have HF : Hid (sameL sameCh (chs cs hs) (chs ds gs) = false) := by
            refine Lib.hid (sameL_at hx1 hx2 ?_)
            rcases hz : (hs[k] == gs[k]) with _ | _
            · rw [HEE.out _ hz]; simp
            · rw [HEE.out _ hz]
              rcases four with rfl | ⟨rfl, rfl⟩ | ⟨rfl, rfl, rfl⟩ | ⟨rfl, rfl, rfl, rfl⟩
              · rfl
              · rfl
              · rfl
              · exfalso
                have h1 := HA.out.1
                have h2 := HD.out.1
                rw [beq_iff_eq] at hz
                rw [hz] at h1
                have := HB4.out
                rw [beq_eq_false_iff_ne] at this
                omega
          rcases four with rfl | ⟨rfl, rfl⟩ | ⟨rfl, rfl, rfl⟩ | ⟨rfl, rfl, rfl, rfl⟩
          all_goals
            clear HA HD HEE HB4 hall
            try simp only [Bool.not_true, Bool.not_false] at hc2
            try simp only [Bool.not_true, Bool.not_false] at hc3
            try simp only [Bool.not_true, Bool.not_false] at hc4
            go_wp2_with fail
            go_quiet (fail)
            go_wp2_with fail
            go_ret
            rw [HF.out]
            exact ⟨rfl, below_drewN (below_drewN (Below.refl _ _) _) _⟩
      · have HE := Lib.hid (sameL_all (p := sameCh) (l := chs cs hs) (m := chs ds gs) (by rw [HCL.out, HDL.out, HXY.out]) fun i h h' => HN.out i h h' (by rw [HCL.out] at h; omega))
        go_wp2_with fail
        go_ret
        rw [HE.out]
        exact ⟨rfl, below_drewN (Below.refl _ _) _⟩
end Go.Proofs.Ytknjdaokidcllaa
