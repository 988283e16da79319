/- The document's first error of a listener. -/
import Derived.Test.YtmjdamcbdclgpaaM2
import Derived.Test.YtmjdamcbdclgpaaCfirst
namespace Go.Proofs.Ytmjdamcbdclgpaa
open Go.RowKit
set_option linter.unusedVariables false
set_option linter.unusedSimpArgs false
set_option maxRecDepth 100000

section
variable {w W : World} {B k : Nat} {c : Cfg} {ad : Addr}
theorem CfgIn.lad (h : CfgIn w B c) (hk : k < c.ls.length) : ∃ ad, c.la = some ad := by obtain ⟨ad, e, _⟩ := h.listen hk; exact ⟨ad, e⟩
theorem CfgIn.cad (h : CfgIn w B c) (hk : k < c.cs.length) : ∃ ad, c.ca = some ad := by obtain ⟨ad, e, _⟩ := h.cluster hk; exact ⟨ad, e⟩
theorem CfgIn.rad (h : CfgIn w B c) (hk : k < c.rs.length) : ∃ ad, c.ra = some ad := by obtain ⟨ad, e, _⟩ := h.route hk; exact ⟨ad, e⟩
theorem CfgIn.lcell (h : CfgIn w B c) (e : c.la = some ad) (hk : k < c.ls.length) (hb : Below B w W) : W.cell? (ad.add k) = some (.string (lAt c.ls k)) := by
  obtain ⟨ad', e', hc⟩ := h.listenAt hk hb
  rw [e] at e'
  cases e'
  exact hc
theorem CfgIn.ccell (h : CfgIn w B c) (e : c.ca = some ad) (hk : k < c.cs.length) (hb : Below B w W) :
    Four W (ad.add (k * 4)) (.string (cAt c.cs k).name) (.int .i64 (cAt c.cs k).policy) (.int .i64 (cAt c.cs k).slots) (.slice (cAt c.cs k).ha (cAt c.cs k).hn (cAt c.cs k).hc) := by
  obtain ⟨ad', e', hc⟩ := h.clusterAt hk hb
  rw [e] at e'
  cases e'
  exact hc
theorem CfgIn.rcell (h : CfgIn w B c) (e : c.ra = some ad) (hk : k < c.rs.length) (hb : Below B w W) :
    Four W (ad.add (k * 4)) (.string (rAt c.rs k).listen) (.string (rAt c.rs k).host) (.string (rAt c.rs k).path) (.string (rAt c.rs k).cluster) := by
  obtain ⟨ad', e', hc⟩ := h.routeAt hk hb
  rw [e] at e'
  cases e'
  exact hc
end

theorem errL_name {ls : List ByteArray} {k : Nat} (h : nameB (lAt ls k) = false) : errI (asksL ls) k = 3 := by simp [errI, asksL, pickI, lName, unlessI, h]
theorem errL_twice {ls : List ByteArray} {k : Nat} (h : nameB (lAt ls k) = true) (h2 : hasL (ls.take k) (lAt ls k) = true) : errI (asksL ls) k = 4 := by simp [errI, asksL, pickI, lName, lOnce, unlessI, h, h2]
theorem errL_ok {ls : List ByteArray} {k : Nat} (h : nameB (lAt ls k) = true) (h2 : hasL (ls.take k) (lAt ls k) = false) : errI (asksL ls) k = 0 := by simp [errI, asksL, pickI, lName, lOnce, unlessI, h, h2]
theorem kind_at {asks : List (Nat → Int)} {n q : Nat} {e : Int} (hq : q < n) (h : ∀ j, j < q → errI asks j = 0) (hE : errI asks q = e) (h0 : e ≠ 0) : kindI3 asks n = (e, (q : Int)) := by
  rw [kind_hit hq h (by rw [hE]; exact h0), hE]

set_option maxHeartbeats 1000000 in
theorem rlistens_is (c : Cfg) (w : World) (h : CfgIn w w.heap.size c) : Calls Try.prog 37 #[c.val] w (Tells2 w (kindI3 (asksL c.ls) c.ls.length)) := by
  have hm : c.ls.length ≤ 2 ^ 63 - 1 := Nat.le_trans h.ll h.lm
  have HIN := Lib.hid h
  clear h
  have B := boxed w (.cells #[.slice c.la c.ls.length c.lc, .slice c.ra c.rs.length c.rc, .slice c.ca c.cs.length c.cc] 26)
  have g0 := World.cell?_alloc_new w #[.slice c.la c.ls.length c.lc, .slice c.ra c.rs.length c.rc, .slice c.ca c.cs.length c.cc] 26 0
  have HSZ := Lib.hid (World.size_alloc w (.cells #[.slice c.la c.ls.length c.lc, .slice c.ra c.rs.length c.rc, .slice c.ca c.cs.length c.cc] 26))
  unfold Cfg.val
  go_enter Try.func37, Try.ntmps37
  go_wp2
  generalize w.alloc (.cells #[.slice c.la c.ls.length c.lc, .slice c.ra c.rs.length c.rc, .slice c.ca c.cs.length c.cc] 26) = W at *
  simp only [List.getElem?_toArray, List.getElem?_cons_succ, List.getElem?_cons_zero] at g0
  have G0 := Lib.hid g0
  have BB := Lib.hid B
  clear B g0
  go_loopg [4] c.ls.length (fun g i wr => ∃ k : Nat, k ≤ c.ls.length ∧ g = c.ls.length - k ∧ i = .int .i64 k ∧ (∀ j, j < k → errI (asksL c.ls) j = 0) ∧ Below W.heap.size W wr)
  case atStart => exact ⟨0, Nat.zero_le _, rfl, rfl, fun j hj => by omega, Below.refl _ _⟩
  case round =>
    obtain ⟨k, hk, rfl, rfl, hno, B⟩ := hrel
    have HN := Lib.hid hno
    clear hno
    have g0 := (B.cell (p := ⟨w.heap.size, 0, none⟩) (by rw [HSZ.out]; simp)).trans G0.out
    by_cases hlt : k < c.ls.length
    · obtain ⟨ad, e⟩ := HIN.out.lad hlt
      have E := Lib.hid e
      have f0 := HIN.out.lcell e hlt (BB.out.trans (B.mono BB.out.size))
      rw [e] at g0
      clear e
      have hn := rname_is (lAt c.ls k)
      have HS : ∃ s, lAt c.ls k = s := ⟨_, rfl⟩
      obtain ⟨s, hs⟩ := HS
      rw [hs] at f0 hn
      have HS := Lib.hid hs
      clear hs
      obtain ⟨b, hb⟩ : ∃ b, nameB s = b := ⟨_, rfl⟩
      rw [hb] at hn
      have HNm := Lib.hid hb
      clear hb
      cases b with
      | false =>
        have HX : Hid (kindI3 (asksL c.ls) c.ls.length = (3, (k : Int))) := Lib.hid (kind_at hlt HN.out (errL_name (by rw [HS.out]; exact HNm.out)) (by decide))
        go_wp2_with (go_at_call 55; ((with_reducible refine (hn _).mono ?_); rintro e wx ⟨rfl, rfl⟩))
        go_ret2
        rw [HX.out]
        exact ⟨rfl, BB.out.trans (B.mono BB.out.size)⟩
      | true =>
        go_wp2_with (go_at_call 55; ((with_reducible refine (hn _).mono ?_); rintro e wx ⟨rfl, rfl⟩))
        clear f0 g0 hn
        go_loopg [5] k (fun g i wi => ∃ u : Nat, u ≤ k ∧ g = k - u ∧ i = .int .i64 u ∧ ((c.ls.take u).any fun x => eqB x s) = false ∧ Below W.heap.size W wi)
        case atStart => exact ⟨0, Nat.zero_le _, rfl, rfl, rfl, B⟩
        case round =>
          clear B
          obtain ⟨u, hu, rfl, rfl, hz, B⟩ := hrel
          have HZ := Lib.hid hz
          clear hz
          have g0 := (B.cell (p := ⟨w.heap.size, 0, none⟩) (by rw [HSZ.out]; simp)).trans G0.out
          rw [E.out] at g0
          have BT := Lib.hid (BB.out.trans (B.mono BB.out.size))
          by_cases huk : u < k
          · have f0 := HIN.out.lcell E.out hlt BT.out
            rw [HS.out] at f0
            have hul : u < c.ls.length := by omega
            have f1 := HIN.out.lcell E.out hul BT.out
            rw [lAt_get hul] at f1
            obtain ⟨b, hb⟩ : ∃ b, (c.ls[u].toList == s.toList) = b := ⟨_, rfl⟩
            have HB := Lib.hid hb
            generalize c.ls[u] = x at f1 hb
            cases b with
            | true =>
              have HX : Hid (kindI3 (asksL c.ls) c.ls.length = (4, (k : Int))) := Lib.hid (kind_at hlt HN.out (errL_twice (by rw [HS.out]; exact HNm.out) (by
                rw [HS.out, ← hasL_comm]
                exact any_hit (k := u) (by rw [List.length_take]; omega) (by rw [List.getElem_take]; exact HB.out))) (by decide))
              go_wp2_with fail
              go_quiet (fail)
              go_wp2_with fail
              go_ret2
              rw [HX.out]
              exact ⟨rfl, below_drewN BT.out _⟩
            | false =>
              go_wp2_with fail
              go_quiet (fail)
              go_wp2_with fail
              go_roundg (k - (u + 1))
              case measure => omega
              case rel => exact ⟨u + 1, by omega, rfl, by go_num, by rw [any_next hul, HZ.out, Bool.false_or]; exact HB.out, below_drewN B _⟩
          · obtain rfl : u = k := by omega
            have HX : Hid (errI (asksL c.ls) u = 0) := Lib.hid (errL_ok (by rw [HS.out]; exact HNm.out) (by rw [HS.out, ← hasL_comm]; exact HZ.out))
            go_wp2_with fail
            go_roundg (c.ls.length - (u + 1))
            case measure => omega
            case rel => exact ⟨u + 1, by omega, rfl, by go_num, fun j hj => by
              by_cases e : j = u
              · subst e; exact HX.out
              · exact HN.out j (by omega), B⟩
    · have HX : Hid (kindI3 (asksL c.ls) c.ls.length = (0, 0)) := Lib.hid (kind_none fun j hj => HN.out j (by omega))
      go_wp2_with fail
      go_ret2
      rw [HX.out]
      exact ⟨rfl, BB.out.trans (B.mono BB.out.size)⟩
end Go.Proofs.Ytmjdamcbdclgpaa
