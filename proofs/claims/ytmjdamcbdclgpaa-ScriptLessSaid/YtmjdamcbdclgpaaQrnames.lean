/- The document's Names of a script. -/
import Derived.Test.YtmjdamcbdclgpaaQradd
namespace Go.Proofs.Ytmjdamcbdclgpaa
open Go.RowKit
set_option linter.unusedVariables false
set_option linter.unusedSimpArgs false
set_option maxRecDepth 100000

/-- The call answers a list of just these texts; nothing that was there has turned. -/
def Lists8 (w : World) (xs : List ByteArray) (e : Ending) (w' : World) : Prop :=
  ∃ A c, e = .returned (.slice A xs.length c) ∧ Reads w' w'.heap.size A (xs.map Value.string) ∧ xs.length ≤ c ∧ c ≤ maxLen ∧ Below w.heap.size w w'

set_option maxHeartbeats 8000000 in
theorem rnames_is (s : Scr) (w : World) (h : ScrIn w w.heap.size s) (few : FewQ s) : Calls Try.prog 14 #[s.val] w (Lists8 w (scrNames s)) := by
  obtain ⟨w0, hw0⟩ : ∃ w0, w.alloc (.cells #[.slice s.first.la s.first.ls.length s.first.lc, .slice s.first.ra s.first.rs.length s.first.rc, .slice s.first.ca s.first.cs.length s.first.cc, .slice s.ta s.ts.length s.tc, .slice s.pa s.ps.length s.pc] 30) = w0 := ⟨_, rfl⟩
  have B0 : Below w.heap.size w w0 := by rw [← hw0]; exact boxed _ _
  have hbx := scr_box w (.slice s.first.la s.first.ls.length s.first.lc) (.slice s.first.ra s.first.rs.length s.first.rc) (.slice s.first.ca s.first.cs.length s.first.cc) (.slice s.ta s.ts.length s.tc) (.slice s.pa s.ps.length s.pc) 30
  rw [hw0] at hbx
  have kE : Below w0.heap.size w0 (w0.alloc (.cells #[] 9)) := boxed _ _
  have hk := radd_is w0.heap.size (.slice (some ⟨w0.heap.size, 0, none⟩) 0 0) [] s.first.la s.first.lc s.first.ls (w0.alloc (.cells #[] 9)) (Own.empty (Nat.le_refl _)) kE.size ((h.next B0).fi.pl.below kE) (by have := (big_lists few.f).1; simp; omega)
  obtain ⟨f0, f1, f2, f3, f4⟩ := hbx _ kE
  obtain ⟨g0, g1, g2, g3, g4⟩ := hbx w0 (Below.refl _ _)
  have HI := Lib.hid (h.next B0)
  have HBX := Lib.hid hbx
  have BB := Lib.hid B0
  have KE := Lib.hid kE
  have FEW := Lib.hid few
  have ht1 := Nat.le_trans h.tl h.tm
  unfold maxLen at ht1
  clear h B0 hbx kE few
  unfold Scr.val
  go_enter Try.func14, Try.ntmps14
  go_wp2_with fail
  refine hk.mono ?_
  rintro e W ⟨v1, rfl, o1, k1⟩
  clear f0 f1 f2 f3 f4 g0 g1 g2 g3 g4 hk hw0
  have K1 := Lib.hid (KE.out.trans k1)
  have O1 := Lib.hid o1
  clear k1 o1
  go_wp2_with fail
  go_loopg [3, 4] s.ts.length (fun g out i wr => ∃ k : Nat, k ≤ s.ts.length ∧ g = s.ts.length - k ∧ i = .int .i64 k ∧ Own 9 w0.heap.size wr out (((s.ts.take k).foldl thrNames (addL [] s.first.ls)).map Value.string) ∧ Below w0.heap.size w0 wr)
  case atStart => exact ⟨0, Nat.zero_le _, rfl, rfl, O1.out, K1.out⟩
  case round =>
    obtain ⟨k, hk, rfl, rfl, ho, BR⟩ := hrel
    have hbd := scrNames_len (ts := s.ts.take k) (out := addL [] s.first.ls) fun t ht => FEW.out.o t (List.mem_of_mem_take ht)
    have hb0 := addL_len [] s.first.ls
    have hb1 := (big_lists FEW.out.f).1
    have hb2 := FEW.out.t
    rw [List.length_take] at hbd
    have HLEN : Hid (((s.ts.take k).foldl thrNames (addL [] s.first.ls)).length ≤ 50 + 2000 * 20) := Lib.hid (by simp at hb0; omega)
    have HO := Lib.hid ho
    have HBR := Lib.hid BR
    clear hbd hb0 hb1 hb2 ho
    obtain ⟨f0, f1, f2, f3, f4⟩ := HBX.out _ BR
    clear f0 f1 f2 f4 BR
    by_cases hlt : k < s.ts.length
    · obtain ⟨ad, e, hadb, _⟩ := HI.out.thread hlt
      obtain ⟨ad2, e2, _, g0⟩ := (HI.out.below HBR.out).thread hlt
      rw [e] at e2
      cases e2
      have hti := HI.out.ti _ (List.getElem_mem hlt)
      have hfo := FEW.out.o _ (List.getElem_mem hlt)
      have hyes := foldl_take thrNames (addL [] s.first.ls) hlt
      obtain ⟨t, ht⟩ : ∃ t, s.ts[k] = t := ⟨_, rfl⟩
      rw [ht] at g0 hti hyes hfo
      have HTT := Lib.hid ht
      have HT := Lib.hid hti
      have HY := Lib.hid hyes
      have HFO := Lib.hid hfo
      have hol := Nat.le_trans hti.ol hti.om
      unfold maxLen at hol
      rw [e] at f3
      have HE := Lib.hid e
      clear ht hti hyes hfo e
      obtain ⟨N0, hN0⟩ : ∃ N0, (s.ts.take k).foldl thrNames (addL [] s.first.ls) = N0 := ⟨_, rfl⟩
      rw [hN0] at HO HLEN HY
      clear hN0
      go_wp2_with fail
      clear g0 f3
      go_loopg [3, 5] t.os.length (fun g out i wi => ∃ q : Nat, q ≤ t.os.length ∧ g = t.os.length - q ∧ i = .int .i64 q ∧ Own 9 w0.heap.size wi out (((t.os.take q).foldl opNames N0).map Value.string) ∧ Below w0.heap.size w0 wi)
      case atStart => exact ⟨0, Nat.zero_le _, rfl, rfl, HO.out, HBR.out⟩
      case round =>
        obtain ⟨q, hq, rfl, rfl, ho, BI⟩ := hrel
        have hbd := thrNames_len (os := t.os.take q) (out := N0) fun o ho => HFO.out.2 o (List.mem_of_mem_take ho)
        rw [List.length_take] at hbd
        have HLN : Hid (((t.os.take q).foldl opNames N0).length ≤ 50 + 2000 * 20 + 50 * 40) := Lib.hid (by have := HLEN.out; have := HFO.out.1; omega)
        have HOI := Lib.hid ho
        obtain ⟨f0, f1, f2, f3, f4⟩ := HBX.out _ BI
        obtain ⟨ad2, e2, _, g0⟩ := (HI.out.below BI).thread hlt
        rw [HE.out] at e2 f3
        cases e2
        rw [HTT.out] at g0
        clear ho hbd f0 f1 f2 f4
        have HBI := Lib.hid BI
        by_cases hql : q < t.os.length
        · obtain ⟨ad', e', hb', hten0⟩ := HT.out.op hql
          have hten := hten0.below (by rw [block_of_add]; exact hb') BI
          have hyo := foldl_take opNames N0 hql
          have hbo := HFO.out.2 _ (List.getElem_mem hql)
          have hcf := HT.out.oi _ (List.getElem_mem hql)
          obtain ⟨o, ho⟩ : ∃ o, t.os[q] = o := ⟨_, rfl⟩
          rw [ho] at hten hyo hcf hbo
          obtain ⟨x0, x1, x2, x3, x4, x5, x6, x7, x8, x9⟩ := hten
          have HYO := Lib.hid hyo
          rw [e'] at g0
          clear e'
          have hbig : bigB o.cfg.ls o.cfg.rs o.cfg.cs = false := by
            unfold bigO at hbo
            simp only [Bool.or_eq_false_iff] at hbo
            exact hbo.1.1
          obtain ⟨w4, hw4⟩ : ∃ w4, wr.alloc (.cells #[.int .i64 o.kind, .string o.listen, .string o.host, .string o.path, .int .i64 o.d0, .int .i64 o.d1, .int .i64 o.n, .slice o.cfg.la o.cfg.ls.length o.cfg.lc, .slice o.cfg.ra o.cfg.rs.length o.cfg.rc, .slice o.cfg.ca o.cfg.cs.length o.cfg.cc] 49) = w4 := ⟨_, rfl⟩
          have hbox : Ten w4 ⟨wr.heap.size, 0, none⟩ o := by rw [← hw4]; exact ten_box wr o
          have B4 : Below w0.heap.size w0 w4 := by rw [← hw4]; exact below_next BI (boxed wr _)
          have O4 : Own 9 w0.heap.size w4 u3 (((t.os.take q).foldl opNames N0).map Value.string) := by rw [← hw4]; exact HOI.out.alloc _
          have hlt4 : wr.heap.size < w4.heap.size := by rw [← hw4]; simp
          have hcall := rcheck_is o.cfg w4 ((hcf.below B4).more B4.size) (big_lists hbig).2.2.2.1
          have HCF := Lib.hid hcf
          have HLL := Lib.hid (big_lists hbig).1
          obtain ⟨y0, y1, y2, y3, y4, y5, y6, y7, y8, y9⟩ := hbox
          have HY0 := Lib.hid y0
          have HY7 := Lib.hid y7
          obtain ⟨p, hp⟩ : ∃ p, checkI o.cfg.ls o.cfg.rs o.cfg.cs = p := ⟨_, rfl⟩
          rw [hp] at hcall
          have HP := Lib.hid hp
          unfold Cfg.val at hcall
          have HO4 := Lib.hid O4
          clear hten0 hyo hcf hbo hbig ho BI hp y0 y1 y2 y3 y4 y5 y6 O4
          go_wp2_with fail
          refine hcall.mono ?_
          rintro e5 W5 ⟨rfl, kk⟩
          have B5 := Lib.hid (below_next B4 kk)
          have z0 := (kk.cell (p := ⟨wr.heap.size, 0, none⟩) hlt4).trans HY0.out
          have z7 := (kk.cell (p := ⟨wr.heap.size, 7, none⟩) hlt4).trans HY7.out
          have HO5 := Lib.hid (HO4.out.kept0 (grownBy_below kk))
          clear x0 x1 x2 x3 x4 x5 x6 x7 x8 x9 y7 y8 y9 hcall kk B4 hw4 hlt4 f3 g0
          by_cases hk3 : o.kind = 3
          · have t3 : (o.kind == 3) = true := by rw [hk3]; rfl
            by_cases hp0 : p.1 = 0
            · have t4 : (p.1 == 0) = true := by rw [hp0]; rfl
              have HF : Hid (opNames ((t.os.take q).foldl opNames N0) o = addL ((t.os.take q).foldl opNames N0) o.cfg.ls) := Lib.hid (by rw [opNames, HP.out, t3, t4]; rfl)
              have hq3 := radd_is w0.heap.size u3 ((t.os.take q).foldl opNames N0) o.cfg.la o.cfg.lc o.cfg.ls W5 HO5.out B5.out.size (HCF.out.pl.below B5.out) (by have := HLN.out; have := HLL.out; omega)
              clear hk3 hp0
              go_wp2_with fail
              refine hq3.mono ?_
              rintro e6 W6 ⟨v6, rfl, o6, k6⟩
              have HO6 : Hid (Own 9 w0.heap.size W6 v6 (((t.os.take (q + 1)).foldl opNames N0).map Value.string)) := Lib.hid (by rw [HYO.out, HF.out]; exact o6)
              have B6 := Lib.hid (B5.out.trans k6)
              clear o6 k6 hq3 z0 z7
              go_wp2_with fail
              go_roundg (t.os.length - (q + 1))
              case measure => omega
              case rel => exact ⟨q + 1, by omega, rfl, by go_num, HO6.out, B6.out⟩
            · have t4 : (p.1 == 0) = false := by simpa using hp0
              have HO6 : Hid (Own 9 w0.heap.size W5 u3 (((t.os.take (q + 1)).foldl opNames N0).map Value.string)) := Lib.hid (by
                rw [HYO.out, opNames, HP.out, t3, t4]
                exact HO5.out)
              clear hk3 hp0
              go_wp2_with fail
              go_roundg (t.os.length - (q + 1))
              case measure => omega
              case rel => exact ⟨q + 1, by omega, rfl, by go_num, HO6.out, B5.out⟩
          · have t3 : (o.kind == 3) = false := by simpa using hk3
            have HO6 : Hid (Own 9 w0.heap.size W5 u3 (((t.os.take (q + 1)).foldl opNames N0).map Value.string)) := Lib.hid (by
              rw [HYO.out, opNames, t3, Bool.false_and]
              exact HO5.out)
            clear hk3
            go_wp2_with fail
            go_roundg (t.os.length - (q + 1))
            case measure => omega
            case rel => exact ⟨q + 1, by omega, rfl, by go_num, HO6.out, B5.out⟩
        · obtain rfl : q = t.os.length := by omega
          have HO6 : Hid (Own 9 w0.heap.size wr u3 (((s.ts.take (k + 1)).foldl thrNames (addL [] s.first.ls)).map Value.string)) := Lib.hid (by
            have := HOI.out
            rw [List.take_length] at this
            rw [HY.out]
            exact this)
          go_wp2_with fail
          go_roundg (s.ts.length - (k + 1))
          case measure => omega
          case rel => exact ⟨k + 1, by omega, rfl, by go_num, HO6.out, HBI.out⟩
    · obtain rfl : k = s.ts.length := by omega
      have ho := HO.out
      rw [List.take_length] at ho
      go_wp2_with fail
      go_ret
      obtain ⟨A, c, hv⟩ := Own.slice ho
      have hv' := hv
      rw [List.length_map] at hv'
      subst hv
      have hle := own_le ho
      rw [List.length_map] at hle
      exact ⟨A, c, by rw [List.length_map]; rfl, Own.reads ho, hle.1, hle.2, below_next BB.out HBR.out⟩
end Go.Proofs.Ytmjdamcbdclgpaa
