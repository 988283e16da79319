/- The walk of SnapUnlike, over what the program's four calls say. -/
import Derived.Test.YtknjdaokidcllaaSlaw2
import Derived.Test.YtknjdaokidcllaaM1
import Derived.LoopTactic
import Derived.Test.YtknjdaokidcllaaSbuilt
import Derived.Test.YtknjdaokidcllaaCbig
namespace Go.Proofs.Ytknjdaokidcllaa
open Go.RowKit
set_option linter.unusedVariables false
set_option linter.unusedSimpArgs false
set_option maxRecDepth 100000

/-! Of two configurations that pass, what is built is the same just if they are. -/
theorem chs_names {cs cs' : List Cl} {hs hs' : List (List Bool)} (h : hs.length = cs.length) (h' : hs'.length = cs'.length) (e : chs cs hs = chs cs' hs') : cs.map Cl.name = cs'.map Cl.name := by
  have one : ∀ (cs : List Cl) (hs : List (List Bool)), hs.length = cs.length → (chs cs hs).map Ch.name = cs.map Cl.name := by
    intro cs
    induction cs with
    | nil => intro hs _; rfl
    | cons c cs ih =>
      intro hs hl
      cases hs with
      | nil => simp at hl
      | cons a hs =>
        show c.name :: (chs cs hs).map Ch.name = c.name :: cs.map Cl.name
        rw [ih hs (by simpa using hl)]
  rw [← one cs hs h, e, one cs' hs' h']
theorem rules_same {ls : List ByteArray} {rs rs' : List Rt} {cs cs' : List Cl} (g : Good ls rs cs) (g' : Good ls rs' cs') (e : cs.map Cl.name = cs'.map Cl.name) : rulesI ls rs cs = rulesI ls rs' cs' ↔ rs = rs' := by
  have e2 : ∀ r, ruleI ls cs r = ruleI ls cs' r := fun r => by unfold ruleI; rw [numC_names, numC_names, e]
  have back : ∀ (l : List Rt), (∀ r ∈ l, hasL ls r.listen = true ∧ hasC cs r.cluster = true) → routesI ls (rulesI ls l cs) cs = l := fun l hl => by
    unfold routesI rulesI
    rw [List.map_map]
    conv => rhs; rw [← List.map_id l]
    refine List.map_congr_left fun r hr => ?_
    show (⟨nameL ls (numL ls r.listen), r.host, r.path, nameC cs (numC cs r.cluster)⟩ : Rt) = r
    rw [nameL_num (hl r hr).1, nameC_num (hl r hr).2]
  have e3 : rulesI ls rs' cs' = rulesI ls rs' cs := by
    unfold rulesI
    exact List.map_congr_left fun r _ => (e2 r).symm
  rw [e3]
  constructor
  · intro h
    rw [← back rs fun r hr => ⟨(goodR_iff (g.r r hr)).1, (goodR_iff (g.r r hr)).2.2.2⟩, h, back rs' fun r hr => ⟨(goodR_iff (g'.r r hr)).1, by rw [hasC_names, e, ← hasC_names]; exact (goodR_iff (g'.r r hr)).2.2.2⟩]
  · rintro rfl
    rfl
theorem unlike_same {c d : Cfg} {s t : Sn} {hs gs : List (List Bool)} (g : Good c.ls c.rs c.cs) (g' : Good d.ls d.rs d.cs) (l1 : hs.length = c.cs.length) (l2 : gs.length = d.cs.length)
    (e1 : s.ls = c.ls) (e2 : Alike s.cs c.cs) (e3 : s.rs = rulesI c.ls c.rs c.cs) (f1 : t.ls = d.ls) (f2 : Alike t.cs d.cs) (f3 : t.rs = rulesI d.ls d.rs d.cs) : sameSn s hs t gs = sameCfg c hs d gs := by
  unfold sameSn sameCfg
  rw [e1, e2.chs, e3, f1, f2.chs, f3]
  by_cases hl : c.ls = d.ls
  · by_cases hc : chs c.cs hs = chs d.cs gs
    · have key : sameL sameRl (rulesI c.ls c.rs c.cs) (rulesI d.ls d.rs d.cs) = sameL sameRt c.rs d.rs := by
        rw [Bool.eq_iff_iff, sameL_eq sameRl_iff, sameL_eq sameRt_iff]
        rw [← hl] at g' ⊢
        exact rules_same g g' (chs_names l1 l2 hc)
      rw [key]
    · have : sameL sameCh (chs c.cs hs) (chs d.cs gs) = false := by rw [Bool.eq_false_iff]; exact fun h => hc ((sameL_eq sameCh_iff).1 h)
      rw [this]
      simp
  · have : sameL eqB c.ls d.ls = false := by rw [Bool.eq_false_iff]; exact fun h => hl ((sameL_eq (fun a b => eqB_iff)).1 h)
    rw [this]
    rfl

/-- What Build answers, whether the configuration passes or not. -/
theorem Built.one {c : Cfg} {hs : List (List Bool)} {w w' : World} {e : Ending} (h : Built c hs w e w') : ∃ (s : Sn) (n i : Int), e = .returned (.tuple #[s.val, .int .i64 n, .int .i64 i]) ∧ SnIn w' w'.heap.size s ∧ (∃ ks, HealthIn w' w'.heap.size s.cs ks ∧ ((n != 0) = false → ks = hs)) ∧ Below w.heap.size w w' ∧
    ((n != 0) = true ∨ ((n != 0) = false ∧ Good c.ls c.rs c.cs ∧ s.ls = c.ls ∧ Alike s.cs c.cs ∧ s.rs = rulesI c.ls c.rs c.cs)) := by
  rcases h with ⟨h0, s, he, hN, e1, e2, e3, hb⟩ | ⟨h0, he, hb⟩
  · exact ⟨s, 0, 0, he, hN.i, ⟨hs, hN.h, fun _ => rfl⟩, hb, .inr ⟨rfl, good_iff.1 h0, e1, e2, e3⟩⟩
  · exact ⟨Sn.nil, _, _, he, nil_in, ⟨[], ⟨rfl, fun i hi _ => absurd hi (by simp [Sn.nil])⟩, fun h => absurd h (by simpa using h0)⟩, hb, .inl (by simpa using h0)⟩

set_option maxHeartbeats 8000000 in
theorem snapUnlike_walk (K : Words) (c : Cfg) (hs : List (List Bool)) (d : Cfg) (gs : List (List Bool)) (w : World) (h : CfgIn w w.heap.size c) (hh : HealthIn w w.heap.size c.cs hs) (h' : CfgIn w w.heap.size d) (hg : HealthIn w w.heap.size d.cs gs) :
    Calls Try.prog 6 #[c.val, d.val] w fun e w' => e = .returned (.bool true) ∧ Below w.heap.size w w' := by
  have HK := Lib.hid K
  clear K
  have TB := Lib.hid (two_boxes w (.slice c.la c.ls.length c.lc) (.slice c.ra c.rs.length c.rc) (.slice c.ca c.cs.length c.cc) (.slice d.la d.ls.length d.lc) (.slice d.ra d.rs.length d.rc) (.slice d.ca d.cs.length d.cc) 26)
  obtain ⟨W0, hW0⟩ : ∃ W0, (w.alloc (.cells #[.slice c.la c.ls.length c.lc, .slice c.ra c.rs.length c.rc, .slice c.ca c.cs.length c.cc] 26)).alloc (.cells #[.slice d.la d.ls.length d.lc, .slice d.ra d.rs.length d.rc, .slice d.ca d.cs.length d.cc] 26) = W0 := ⟨_, rfl⟩
  have B0 : Below w.heap.size w W0 := by rw [← hW0]; exact below_alloc (boxed w _) (Nat.le_refl _)
  rw [hW0] at TB
  have HI := Lib.hid ((h.below B0).more B0.size)
  have HI' := Lib.hid ((h'.below B0).more B0.size)
  have HH := Lib.hid ((hh.below B0).more B0.size)
  have HG := Lib.hid ((hg.below B0).more B0.size)
  have BB := Lib.hid B0
  have hb := big_is c W0 HI.out
  obtain ⟨b, hbb⟩ : ∃ b, bigB c.ls c.rs c.cs = b := ⟨_, rfl⟩
  obtain ⟨b', hbb'⟩ : ∃ b, bigB d.ls d.rs d.cs = b := ⟨_, rfl⟩
  rw [hbb] at hb
  obtain ⟨⟨f0, f1, f2⟩, g0, g1, g2⟩ := TB.out W0 (Below.refl _ _)
  clear hbb h h' hh hg B0
  unfold Cfg.val at *
  go_enter Try.func6, Try.ntmps6
  go_wp2_with fail
  refine hb.mono ?_
  rintro e W1 ⟨rfl, k1⟩
  clear f0 f1 f2 g0 g1 g2 hb hW0
  cases b with
  | true =>
    go_wp2_with fail
    go_ret
    exact ⟨rfl, below_next BB.out k1⟩
  | false =>
  have hb := big_is d W1 ((HI'.out.below k1).more k1.size)
  rw [hbb'] at hb
  obtain ⟨⟨f0, f1, f2⟩, g0, g1, g2⟩ := TB.out W1 k1
  unfold Cfg.val at hb
  clear hbb'
  go_wp2_with fail
  refine hb.mono ?_
  rintro e W2 ⟨rfl, kk⟩
  have k2 := k1.trans (kk.mono k1.size)
  clear f0 f1 f2 g0 g1 g2 hb kk k1
  cases b' with
  | true =>
    go_wp2_with fail
    go_ret
    exact ⟨rfl, below_next BB.out k2⟩
  | false =>
  have hq := HK.out.build c hs W2 ((HI.out.below k2).more k2.size) ((HH.out.below k2).more k2.size)
  obtain ⟨⟨f0, f1, f2⟩, g0, g1, g2⟩ := TB.out W2 k2
  unfold Cfg.val at hq
  go_wp2_with fail
  refine hq.mono ?_
  intro e W3 hq3
  obtain ⟨s, n, i, rfl, hs3, ⟨ks, hks, hkn⟩, k3, hn⟩ := hq3.one
  clear f0 f1 f2 g0 g1 g2 hq hq3
  unfold Sn.val
  have kX : Below W0.heap.size W0 (W3.alloc (.cells #[.slice s.la s.ls.length s.lc, .slice s.ra s.rs.length s.rc, .slice s.ca s.cs.length s.cc] 30)) := below_alloc (k2.trans (k3.mono k2.size)) (Nat.le_refl _)
  have BS := fun W' => agg_three (W := W3) (W' := W') (x := .slice s.la s.ls.length s.lc) (y := .slice s.ra s.rs.length s.rc) (z := .slice s.ca s.cs.length s.cc) (t := 30)
  have SX := hs3.next (boxed W3 (.cells #[.slice s.la s.ls.length s.lc, .slice s.ra s.rs.length s.rc, .slice s.ca s.cs.length s.cc] 30))
  have hq := HK.out.build d gs _ ((HI'.out.below kX).more kX.size) ((HG.out.below kX).more kX.size)
  obtain ⟨⟨f0, f1, f2⟩, g0, g1, g2⟩ := TB.out _ kX
  have kS := boxed W3 (.cells #[.slice s.la s.ls.length s.lc, .slice s.ra s.rs.length s.rc, .slice s.ca s.cs.length s.cc] 30)
  have HSH := Lib.hid ((hks.below kS).more kS.size)
  have HKN := Lib.hid hkn
  have HSX := Lib.hid SX
  have HBS := Lib.hid BS
  have HKX := Lib.hid kX
  have HN := Lib.hid hn
  clear SX BS kX kS hks hkn hs3 hn k2 k3
  unfold Cfg.val at hq
  go_wp2_with fail
  generalize W3.alloc (.cells #[.slice s.la s.ls.length s.lc, .slice s.ra s.rs.length s.rc, .slice s.ca s.cs.length s.cc] 30) = X1 at *
  refine hq.mono ?_
  intro e W4 hq4
  obtain ⟨t, n', i', rfl, hs4, ⟨js, hjs, hjn⟩, k4, hn'⟩ := hq4.one
  clear f0 f1 f2 g0 g1 g2 hq hq4
  unfold Sn.val
  have kY : Below X1.heap.size X1 (W4.alloc (.cells #[.slice t.la t.ls.length t.lc, .slice t.ra t.rs.length t.rc, .slice t.ca t.cs.length t.cc] 30)) := below_alloc k4 (Nat.le_refl _)
  have BT2 := fun W' => agg_three (W := W4) (W' := W') (x := .slice t.la t.ls.length t.lc) (y := .slice t.ra t.rs.length t.rc) (z := .slice t.ca t.cs.length t.cc) (t := 30)
  have SY := hs4.next (boxed W4 (.cells #[.slice t.la t.ls.length t.lc, .slice t.ra t.rs.length t.rc, .slice t.ca t.cs.length t.cc] 30))
  have kT := boxed W4 (.cells #[.slice t.la t.ls.length t.lc, .slice t.ra t.rs.length t.rc, .slice t.ca t.cs.length t.cc] 30)
  have HJH := Lib.hid ((hjs.below kT).more kT.size)
  have HJN := Lib.hid hjn
  have HSY := Lib.hid SY
  have HBT := Lib.hid BT2
  have HKY := Lib.hid kY
  have HN' := Lib.hid hn'
  clear SY BT2 kY kT hjs hjn hs4 hn' k4
  have three : (n != 0) = true ∨ ((n != 0) = false ∧ (n' != 0) = true) ∨ ((n != 0) = false ∧ (n' != 0) = false) := by
    cases (n != 0) <;> cases (n' != 0) <;> simp
  rcases three with q1 | ⟨q1, q2⟩ | ⟨q1, q2⟩
  · go_wp2_with fail
    generalize W4.alloc (.cells #[.slice t.la t.ls.length t.lc, .slice t.ra t.rs.length t.rc, .slice t.ca t.cs.length t.cc] 30) = Y1 at *
    refine (built_is HK.out Y1).mono ?_
    rintro e W5 ⟨rfl, k5⟩
    have B9 := below_next BB.out (HKX.out.trans ((HKY.out.trans (k5.mono HKY.out.size)).mono HKX.out.size))
    clear k5
    go_wp2_with fail
    go_ret
    exact ⟨rfl, B9⟩
  · go_wp2_with fail
    generalize W4.alloc (.cells #[.slice t.la t.ls.length t.lc, .slice t.ra t.rs.length t.rc, .slice t.ca t.cs.length t.cc] 30) = Y1 at *
    refine (built_is HK.out Y1).mono ?_
    rintro e W5 ⟨rfl, k5⟩
    have B9 := below_next BB.out (HKX.out.trans ((HKY.out.trans (k5.mono HKY.out.size)).mono HKX.out.size))
    clear k5
    go_wp2_with fail
    go_ret
    exact ⟨rfl, B9⟩
  · rcases HN.out with hx | ⟨_, G, e1, e2, e3⟩
    · rw [q1] at hx; cases hx
    rcases HN'.out with hx | ⟨_, G', e1', e2', e3'⟩
    · rw [q2] at hx; cases hx
    have US := unlike_same G G' HH.out.len HG.out.len e1 e2 e3 e1' e2' e3'
    obtain rfl := (HKN.out q1).symm
    obtain rfl := (HJN.out q2).symm
    clear e1 e2 e3 e1' e2' e3' G G' HN HN'
    go_wp2_with fail
    generalize W4.alloc (.cells #[.slice t.la t.ls.length t.lc, .slice t.ra t.rs.length t.rc, .slice t.ca t.cs.length t.cc] 30) = Y1 at *
    have B0 := Lib.hid fun W' (hW : Below Y1.heap.size Y1 W') => (HKX.out.trans ((HKY.out.trans (hW.mono HKY.out.size)).mono HKX.out.size) : Below W0.heap.size W0 W')
    have six := Lib.hid fun wk (hW : Below Y1.heap.size Y1 wk) => (⟨HBS.out wk (HKY.out.trans (hW.mono HKY.out.size)), HBT.out wk hW, TB.out wk (B0.out wk hW)⟩ : (wk.cell? ⟨W3.heap.size, 0, none⟩ = some (.slice s.la s.ls.length s.lc) ∧ wk.cell? ⟨W3.heap.size, 1, none⟩ = some (.slice s.ra s.rs.length s.rc) ∧ wk.cell? ⟨W3.heap.size, 2, none⟩ = some (.slice s.ca s.cs.length s.cc)) ∧
        (wk.cell? ⟨W4.heap.size, 0, none⟩ = some (.slice t.la t.ls.length t.lc) ∧ wk.cell? ⟨W4.heap.size, 1, none⟩ = some (.slice t.ra t.rs.length t.rc) ∧ wk.cell? ⟨W4.heap.size, 2, none⟩ = some (.slice t.ca t.cs.length t.cc)) ∧
        (wk.cell? ⟨w.heap.size, 0, none⟩ = some (.slice c.la c.ls.length c.lc) ∧ wk.cell? ⟨w.heap.size, 1, none⟩ = some (.slice c.ra c.rs.length c.rc) ∧ wk.cell? ⟨w.heap.size, 2, none⟩ = some (.slice c.ca c.cs.length c.cc)) ∧
        (wk.cell? ⟨w.heap.size + 1, 0, none⟩ = some (.slice d.la d.ls.length d.lc) ∧ wk.cell? ⟨w.heap.size + 1, 1, none⟩ = some (.slice d.ra d.rs.length d.rc) ∧ wk.cell? ⟨w.heap.size + 1, 2, none⟩ = some (.slice d.ca d.cs.length d.cc)))
    have hSame := Lib.hid fun W' (hW : Below Y1.heap.size Y1 W') => same_is s t hs gs W' (HSX.out.next (HKY.out.trans (hW.mono HKY.out.size))) (HSY.out.next hW) ((HSH.out.below (HKY.out.trans (hW.mono HKY.out.size))).more (HKY.out.trans (hW.mono HKY.out.size)).size) ((HJH.out.below hW).more hW.size)
    have hConf := Lib.hid fun W' (hW : Below Y1.heap.size Y1 W') => sameConfigs_is c d hs gs W' ((HI.out.below (B0.out W' hW)).more (B0.out W' hW).size) ((HI'.out.below (B0.out W' hW)).more (B0.out W' hW).size) ((HH.out.below (B0.out W' hW)).more (B0.out W' hW).size) ((HG.out.below (B0.out W' hW)).more (B0.out W' hW).size)
    unfold Cfg.val at hConf
    unfold Sn.val at hSame
    rw [US] at hSame
    obtain ⟨r, hr⟩ : ∃ r, sameCfg c hs d gs = r := ⟨_, rfl⟩
    rw [hr] at hSame hConf
    clear US hr
    have kB := below_drew (Below.refl Y1.heap.size Y1)
    have cK := six.out _ kB
    have rr : (r == r) = true := by cases r <;> rfl
    clear HBS HBT TB HKX HKY HSX HSY
    go_region_held3 (fun wk => (wk.cell? ⟨W3.heap.size, 0, none⟩ = some (.slice s.la s.ls.length s.lc) ∧ wk.cell? ⟨W3.heap.size, 1, none⟩ = some (.slice s.ra s.rs.length s.rc) ∧ wk.cell? ⟨W3.heap.size, 2, none⟩ = some (.slice s.ca s.cs.length s.cc)) ∧
        (wk.cell? ⟨W4.heap.size, 0, none⟩ = some (.slice t.la t.ls.length t.lc) ∧ wk.cell? ⟨W4.heap.size, 1, none⟩ = some (.slice t.ra t.rs.length t.rc) ∧ wk.cell? ⟨W4.heap.size, 2, none⟩ = some (.slice t.ca t.cs.length t.cc)) ∧
        (wk.cell? ⟨w.heap.size, 0, none⟩ = some (.slice c.la c.ls.length c.lc) ∧ wk.cell? ⟨w.heap.size, 1, none⟩ = some (.slice c.ra c.rs.length c.rc) ∧ wk.cell? ⟨w.heap.size, 2, none⟩ = some (.slice c.ca c.cs.length c.cc)) ∧
        (wk.cell? ⟨w.heap.size + 1, 0, none⟩ = some (.slice d.la d.ls.length d.lc) ∧ wk.cell? ⟨w.heap.size + 1, 1, none⟩ = some (.slice d.ra d.rs.length d.rc) ∧ wk.cell? ⟨w.heap.size + 1, 2, none⟩ = some (.slice d.ca d.cs.length d.cc))) (exact cK)
      (first
        | (go_at_call 10; ((with_reducible refine (built_is HK.out _).mono ?_); rintro e wx ⟨rfl, kk⟩; replace kB := kB.trans (kk.mono kB.size); clear kk; replace cK := six.out _ kB))
        | (go_at_call 11; ((with_reducible refine (hSame.out _ kB).mono ?_); rintro e wx ⟨rfl, kk⟩; replace kB := kB.trans (kk.mono kB.size); clear kk; replace cK := six.out _ kB))
        | (go_at_call 14; ((with_reducible refine (hConf.out _ kB).mono ?_); rintro e wx ⟨rfl, kk⟩; replace kB := kB.trans (kk.mono kB.size); clear kk; replace cK := six.out _ kB)))
    clear cK
    have B9 := below_next BB.out (B0.out _ kB)
    go_wp2_with fail
    go_ret
    exact ⟨rfl, B9⟩
end Go.Proofs.Ytknjdaokidcllaa

/- Too much to be looked at: the document's Big. -/
namespace Go.Proofs.Ytknjdaokidcllaa
open Go.RowKit
set_option linter.unusedVariables false
set_option linter.unusedSimpArgs false
set_option maxRecDepth 100000

def wideB (r : Rl) : Bool := decide (100 < (r.host.size : Int)) || decide (100 < (r.path.size : Int))
def bigRl (l : List Rl) : Bool := decide (50 < (l.length : Int)) || l.any wideB
def longB (l : List Rl) (h p : ByteArray) : Bool := bigRl l || decide (100 < (h.size : Int)) || decide (100 < (p.size : Int))
theorem wide_no {r : Rl} (h : wideB r = false) : r.host.size ≤ 100 ∧ r.path.size ≤ 100 := by
  unfold wideB at h
  simp only [Bool.or_eq_false_iff, decide_eq_false_iff_not] at h
  omega
theorem long_no {l : List Rl} {h p : ByteArray} (hl : longB l h p = false) : l.length ≤ 50 ∧ h.size ≤ 100 ∧ p.size ≤ 100 ∧ ∀ r ∈ l, r.host.size ≤ 100 ∧ r.path.size ≤ 100 := by
  unfold longB bigRl at hl
  simp only [Bool.or_eq_false_iff, decide_eq_false_iff_not] at hl
  obtain ⟨⟨⟨h1, h2⟩, h3⟩, h4⟩ := hl
  refine ⟨by omega, by omega, by omega, fun r hr => wide_no ?_⟩
  rw [List.any_eq_false] at h2
  simpa using h2 r hr

set_option maxHeartbeats 1000000 in
theorem rbig_is (A : Option Addr) (c : Nat) (l : List Rl) (w : World) (hin : RulesIn w w.heap.size A c l) : Calls Try.prog 33 #[.slice A l.length c] w fun e w' => e = .returned (.bool (bigRl l)) ∧ w = w' := by
  have hm : l.length ≤ 9223372036854775807 := hin.len
  have HIN := Lib.hid hin
  clear hin
  by_cases h50 : 50 < l.length
  · have e : bigRl l = true := by rw [bigRl, decide_eq_true (by omega)]; rfl
    have g1 : decide (50 < (l.length : Int)) = true := decide_eq_true (by omega)
    have g2 : decide ((l.length : Int) ≤ 50) = false := decide_eq_false (by omega)
    have g3 : decide (0 < l.length) = true := decide_eq_true (by omega)
    rw [e]
    have H50 := Lib.hid h50
    clear e h50
    go_enter Try.func33, Try.ntmps33
    go_wp2
    go_loop [3] (fun i => i = .int .i64 0) (fun i => 0)
    case atStart => rfl
    case round =>
      subst hrel
      go_wp2
      go_ret
      exact ⟨rfl, rfl⟩
  · have g2 : decide ((l.length : Int) ≤ 50) = true := decide_eq_true (by omega)
    have g1 : decide (50 < (l.length : Int)) = false := decide_eq_false (by omega)
    have e : bigRl l = l.any wideB := by rw [bigRl, g1]; rfl
    rw [e]
    have H50 := Lib.hid h50
    clear e h50
    go_enter Try.func33, Try.ntmps33
    go_wp2
    go_loop [3] (fun i => ∃ k : Nat, k ≤ l.length ∧ i = .int .i64 k ∧ (l.take k).any wideB = false) (fun i => l.length - (intOf i).toNat)
    case atStart => exact ⟨0, Nat.zero_le _, rfl, rfl⟩
    case round =>
      obtain ⟨k, hk, rfl, hno⟩ := hrel
      have HN := Lib.hid hno
      clear hno
      by_cases hlt : k < l.length
      · obtain ⟨ad, e, _⟩ := HIN.out.ad hlt
        subst e
        obtain ⟨f0, f1, f2, f3⟩ := HIN.out.at_ (W := w) hlt (fun _ _ => rfl)
        clear f0 f3
        obtain ⟨b1, hb1⟩ : ∃ b, decide (100 < (l[k].host.size : Int)) = b := ⟨_, rfl⟩
        obtain ⟨b2, hb2⟩ : ∃ b, decide (100 < (l[k].path.size : Int)) = b := ⟨_, rfl⟩
        have HX : Hid (wideB l[k] = (b1 || b2)) := Lib.hid (by rw [wideB, hb1, hb2])
        generalize l[k].host = ho at f1 hb1
        generalize l[k].path = pa at f2 hb2
        cases b1 <;> cases b2
        case false.false =>
          go_wp2
          go_round
          case rel => exact ⟨k + 1, by omega, by go_num, by rw [any_next hlt, HN.out, Bool.false_or]; exact HX.out⟩
          case measure => simp [intOf]; omega
        all_goals
          go_wp2
          go_ret
          rw [any_hit hlt HX.out]
          exact ⟨rfl, rfl⟩
      · have HL := Lib.hid (any_end hlt HN.out)
        go_wp2
        go_ret
        rw [HL.out]
        exact ⟨rfl, rfl⟩
end Go.Proofs.Ytknjdaokidcllaa

/- The law's big of layer 7. -/
namespace Go.Proofs.Ytknjdaokidcllaa
open Go.RowKit
set_option linter.unusedVariables false
set_option linter.unusedSimpArgs false
set_option maxRecDepth 100000

def Sn.cfg (s : Sn) : Cfg := ⟨s.la, s.lc, s.ls, none, 0, [], s.ca, s.cc, s.cs⟩
theorem SnIn.cfg {w : World} {B : Nat} {s : Sn} (h : SnIn w B s) : CfgIn w B s.cfg :=
  ⟨h.pl, fun hh => absurd hh (by simp [Sn.cfg]), h.pc, h.ll, Nat.le_refl 0, h.cl, h.lm, Nat.zero_le _, h.cm, h.wf⟩
def bigS (s : Sn) : Bool := bigRl s.rs || bigB s.ls [] s.cs
set_option maxHeartbeats 2000000 in
theorem big7_is (s : Sn) (w : World) (h : SnIn w w.heap.size s) : Calls Try.prog 16 #[s.val] w (Says w (bigS s)) := by
  obtain ⟨W0, hW0⟩ : ∃ W0, w.alloc (.cells #[.slice s.la s.ls.length s.lc, .slice s.ra s.rs.length s.rc, .slice s.ca s.cs.length s.cc] 30) = W0 := ⟨_, rfl⟩
  have B0 : Below w.heap.size w W0 := by rw [← hW0]; exact boxed _ _
  have hbx : W0.heap[w.heap.size]? = some (.cells #[.slice s.la s.ls.length s.lc, .slice s.ra s.rs.length s.rc, .slice s.ca s.cs.length s.cc] 30 (0, 0)) := by rw [← hW0]; exact one_alloc _ _
  have h0 := h.next B0
  have hr := rbig_is s.ra s.rc s.rs W0 h0.rules
  have F := Lib.hid (fun W' (hW : Below W0.heap.size W0 W') => box_three hbx hW)
  obtain ⟨f0, f1, f2⟩ := box_three hbx (Below.refl _ _)
  have H0 := Lib.hid h0
  have BB := Lib.hid B0
  obtain ⟨b, hb⟩ : ∃ b, bigRl s.rs = b := ⟨_, rfl⟩
  unfold bigS
  rw [hb] at hr ⊢
  clear h h0 hbx B0 hb
  unfold Sn.val
  go_enter Try.func16, Try.ntmps16
  go_wp2_with fail
  refine hr.mono ?_
  rintro e W1 ⟨rfl, rfl⟩
  cases b with
  | true =>
    go_wp2_with fail
    go_ret
    exact ⟨rfl, BB.out⟩
  | false =>
    have hc := big_is s.cfg W0 H0.out.cfg
    change Calls _ _ #[.agg #[.slice s.la s.ls.length s.lc, .slice none 0 0, .slice s.ca s.cs.length s.cc]] W0 (Says W0 (bigB s.ls [] s.cs)) at hc
    obtain ⟨b2, hb2⟩ : ∃ b2, bigB s.ls [] s.cs = b2 := ⟨_, rfl⟩
    rw [hb2] at hc
    have E2 := Lib.hid hb2
    clear hb2 hr
    go_wp2_with fail
    refine hc.mono ?_
    rintro e W2 ⟨rfl, k2⟩
    have B9 := below_next BB.out k2
    clear k2
    go_wp2_with fail
    go_ret
    exact ⟨by rw [Bool.false_or, E2.out]; rfl, B9⟩
end Go.Proofs.Ytknjdaokidcllaa
