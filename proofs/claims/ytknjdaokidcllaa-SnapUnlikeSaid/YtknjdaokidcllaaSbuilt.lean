/- The law's own answers of layer 7: the walk of built, over what the program's four calls say. -/
import Derived.Test.YtknjdaokidcllaaSplain
namespace Go.Proofs.Ytknjdaokidcllaa
open Go.RowKit
set_option linter.unusedVariables false
set_option linter.unusedSimpArgs false
set_option maxRecDepth 100000

section
variable {w : World} {B : Nat}
theorem nil_in : SnIn w B Sn.nil := ⟨fun h => absurd h (by simp [Sn.nil]), fun h => absurd h (by simp [Sn.nil]), fun h => absurd h (by simp [Sn.nil]), Nat.le_refl _, Nat.le_refl _, Nat.le_refl _, by show 0 ≤ maxLen; simp [maxLen], by show 0 ≤ maxLen; simp [maxLen], by show 0 ≤ maxLen; simp [maxLen], fun x hx => by cases hx⟩
end

def pOut : ByteArray := ⟨#[111, 117, 116]⟩
def pSlQ : ByteArray := ⟨#[47, 113]⟩
def pQ : ByteArray := ⟨#[113]⟩
def pRules : List Rl := [⟨0, pStar, pSl, 0⟩, ⟨0, pX, pSl, 1⟩]
theorem p_ok (h1 h2 : Addr) : checkI [pIn] [pR1, pR2 pB] [pCl1 h1, pCl2 h2] = (0, 0) := by kernel_rfl
theorem p_bad (h1 h2 : Addr) : checkI [pIn] [pR1, pR2 pC] [pCl1 h1, pCl2 h2] = (5, 1) := by kernel_rfl
theorem p_rules (h1 h2 : Addr) : rulesI [pIn] [pR1, pR2 pB] [pCl1 h1, pCl2 h2] = pRules := by kernel_rfl
theorem p_routes (h1 h2 : Addr) : routesI [pIn] pRules [pCl1 h1, pCl2 h2] = [pR1, pR2 pB] := by kernel_rfl
theorem p_same (h1 h2 h3 h4 : Addr) : sameL sameCh (chs [pCl1 h1, pCl2 h2] [[true], [false, true]]) (chs [pCl1 h3, pCl2 h4] [[true], [false, true]]) = true := by kernel_rfl
theorem p_same1 : sameL eqB [pIn] [pIn] = true := by kernel_rfl
theorem p_same2 : sameL sameRt [pR1, pR2 pB] [pR1, pR2 pB] = true := by kernel_rfl
theorem p_nil : isI Sn.nil = false := by kernel_rfl
theorem p_f1 : (bif decide (numL [pIn] pIn < 0) then (0, 3) else foundI pRules (fitB (numL [pIn] pIn) pX pSlQ)) = ((1, 0) : Int × Int) := by kernel_rfl
theorem p_f2 : (bif decide (numL [pIn] pOut < 0) then (0, 3) else foundI pRules (fitB (numL [pIn] pOut) pX pSlQ)) = ((0, 3) : Int × Int) := by kernel_rfl
theorem p_f3 : (bif decide (numL [pIn] pIn < 0) then (0, 3) else foundI pRules (fitB (numL [pIn] pIn) pX pQ)) = ((0, 5) : Int × Int) := by kernel_rfl
theorem p_short : ∀ r ∈ pRules, r.path.size ≤ 2000 := fun r hr => by
  simp only [pRules, List.mem_cons, List.not_mem_nil, or_false] at hr
  rcases hr with rfl | rfl <;> exact Nat.le_of_ble_eq_true rfl

/-- What was built of the plain configuration. -/
structure PS (W : World) (s : Sn) (n1 n2 : Nat) : Prop where
  i : SnIn W W.heap.size s
  l : s.ls = [pIn]
  c : Alike s.cs [pCl1 ⟨n1, 0, none⟩, pCl2 ⟨n2, 0, none⟩]
  r : s.rs = pRules
  h : HealthIn W W.heap.size s.cs [[true], [false, true]]
theorem PS.below {W W' : World} {s : Sn} {n1 n2 : Nat} (h : PS W s n1 n2) (hb : Below W.heap.size W W') : PS W' s n1 n2 := ⟨h.i.next hb, h.l, h.c, h.r, (h.h.below hb).more hb.size⟩
theorem PS.few {W : World} {s : Sn} {n1 n2 : Nat} (h : PS W s n1 n2) : Few s :=
  ⟨by rw [h.l]; decide, by rw [h.r]; decide, by rw [h.c.len]; simp, h.c.all (p := fun x => x.hn ≤ 50) (fun x => Iff.rfl) (fun x hx => by simp at hx; rcases hx with rfl | rfl <;> simp [pCl1, pCl2])⟩
theorem PS.find {W : World} {s : Sn} {n1 n2 : Nat} (K : Words) (h : PS W s n1 n2) (li ho pa : ByteArray) (hh : ho.size ≤ 2000) (r : Int × Int) (hr : (bif decide (numL [pIn] li < 0) then (0, 3) else foundI pRules (fitB (numL [pIn] li) ho pa)) = r) :
    Calls Try.prog 17 #[s.val, .string li, .string ho, .string pa] W (Tells2 W r) :=
  (K.find s W li ho pa h.i hh (by rw [h.r]; exact p_short)).mono fun _ _ t => t.of (by rw [findS, h.l, h.r]; exact hr)
theorem PS.is {W : World} {s : Sn} {n1 n2 : Nat} (K : Words) (h : PS W s n1 n2) : Calls Try.prog 13 #[s.val] W (Says W true) :=
  (K.is s _ W h.i h.h h.few).mono fun _ _ t => t.of (by rw [isI, h.l, h.r, h.c.ok, h.c.routes, p_routes, p_ok]; rfl)

/-- A box of three cells, in a later world. -/
theorem box_three {W W' : World} {b t : Nat} {x y z : Value} (h : W.heap[b]? = some (.cells #[x, y, z] t (0, 0))) (hb : Below W.heap.size W W') :
    W'.cell? ⟨b, 0, none⟩ = some x ∧ W'.cell? ⟨b, 1, none⟩ = some y ∧ W'.cell? ⟨b, 2, none⟩ = some z := by
  have h' := (hb.block b (block_lt h)).trans h
  exact ⟨by rw [block_cell h']; rfl, by rw [block_cell h']; rfl, by rw [block_cell h']; rfl⟩

/-- Where all lies: the two boxes, the configuration, the snapshot. -/
structure BT (w W : World) (b1 b2 nl nc nr n1 n2 : Nat) (cl : ByteArray) (s : Sn) : Prop where
  B : Below w.heap.size w W
  bc : W.heap[b1]? = some (.cells #[.slice (some ⟨nl, 0, none⟩) 1 1, .slice (some ⟨nr, 0, none⟩) 2 2, .slice (some ⟨nc, 0, none⟩) 2 2] 26 (0, 0))
  bs : W.heap[b2]? = some (.cells #[.slice s.la 1 s.lc, .slice s.ra 2 s.rc, .slice s.ca 2 s.cc] 30 (0, 0))
  P : PlainLies W nl nc nr n1 n2 cl
  S : PS W s n1 n2
section
variable {w W W' : World} {b1 b2 nl nc nr n1 n2 : Nat} {cl : ByteArray} {s : Sn}
theorem BT.below (h : BT w W b1 b2 nl nc nr n1 n2 cl s) (hb : Below W.heap.size W W') : BT w W' b1 b2 nl nc nr n1 n2 cl s :=
  ⟨below_next h.B hb, (hb.block _ (block_lt h.bc)).trans h.bc, (hb.block _ (block_lt h.bs)).trans h.bs, h.P.below hb, h.S.below hb⟩
theorem BT.cbox (h : BT w W b1 b2 nl nc nr n1 n2 cl s) : W.cell? ⟨b1, 0, none⟩ = some (.slice (some ⟨nl, 0, none⟩) 1 1) ∧ W.cell? ⟨b1, 1, none⟩ = some (.slice (some ⟨nr, 0, none⟩) 2 2) ∧ W.cell? ⟨b1, 2, none⟩ = some (.slice (some ⟨nc, 0, none⟩) 2 2) := box_three h.bc (Below.refl _ _)
theorem BT.sbox (h : BT w W b1 b2 nl nc nr n1 n2 cl s) : W.cell? ⟨b2, 0, none⟩ = some (.slice s.la 1 s.lc) ∧ W.cell? ⟨b2, 1, none⟩ = some (.slice s.ra 2 s.rc) ∧ W.cell? ⟨b2, 2, none⟩ = some (.slice s.ca 2 s.cc) := box_three h.bs (Below.refl _ _)
theorem BT.set (h : BT w W b1 b2 nl nc nr n1 n2 cl s) (u : ByteArray) (hw : w.heap.size ≤ nr) (h1 : ∀ ad, s.la = some ad → ad.block ≠ nr) (h2 : ∀ ad, s.ra = some ad → ad.block ≠ nr) (h3 : ∀ ad, s.ca = some ad → ad.block ≠ nr) (h4 : ∀ x ∈ s.cs, ∀ ad, x.ha = some ad → ad.block ≠ nr) :
    BT w (W.setCell ⟨nr, 7, none⟩ (.string u)) b1 b2 nl nc nr n1 n2 u s :=
  ⟨h.B.setCell (p := ⟨nr, 7, none⟩) hw _, (Below.heap_setCell _ _ _ _ (by rintro rfl; have := h.P.r.symm.trans h.bc; simp at this)).trans h.bc, (Below.heap_setCell _ _ _ _ (by rintro rfl; have := h.P.r.symm.trans h.bs; simp at this)).trans h.bs,
   h.P.set u, ⟨by rw [show (W.setCell ⟨nr, 7, none⟩ (.string u)).heap.size = W.heap.size from by simp [World.setCell]]; exact h.S.i.apart h1 h2 h3, h.S.l, h.S.c, h.S.r, by rw [show (W.setCell ⟨nr, 7, none⟩ (.string u)).heap.size = W.heap.size from by simp [World.setCell]]; exact h.S.h.apart h4⟩⟩
end
theorem ps_val {W : World} {s : Sn} {n1 n2 : Nat} (h : PS W s n1 n2) : s.val = .agg #[.slice s.la 1 s.lc, .slice s.ra 2 s.rc, .slice s.ca 2 s.cc] := by
  unfold Sn.val
  rw [h.l, h.r, h.c.len]
  rfl

theorem PS.second {W : World} {s : Sn} {n1 n2 : Nat} (h : PS W s n1 n2) : ∃ ad, s.ra = some ad ∧ W.cell? ⟨ad.block, ad.off + 4, none⟩ = some (.int .i64 0) ∧ W.cell? ⟨ad.block, ad.off + 4 + 1, none⟩ = some (.string pX) ∧ W.cell? ⟨ad.block, ad.off + 4 + 2, none⟩ = some (.string pSl) ∧ W.cell? ⟨ad.block, ad.off + 4 + 3, none⟩ = some (.int .i64 1) := by
  have hp := h.i.pr
  rw [h.r] at hp
  obtain ⟨ad, e, _⟩ := hp (by decide)
  rw [e] at hp
  have h4 : Four W (ad.add (3 + 1)) (.int .i64 0) (.string pX) (.string pSl) (.int .i64 1) := row4_rl (k := 1) (W := W) hp (by decide) (fun _ _ => rfl)
  rw [Addr.add_succ'] at h4
  exact ⟨ad, e, h4⟩

theorem bad_build (K : Words) {W : World} {nl nc nr n1 n2 : Nat} (P : PlainLies W nl nc nr n1 n2 pC) :
    Calls Try.prog 8 #[(pCfg nl nc nr n1 n2 pC).val] W fun e w' => e = .returned (.tuple #[.agg #[.slice none 0 0, .slice none 0 0, .slice none 0 0], .int .i64 5, .int .i64 1]) ∧ Below W.heap.size W w' := by
  have hp : checkI (pCfg nl nc nr n1 n2 pC).ls (pCfg nl nc nr n1 n2 pC).rs (pCfg nl nc nr n1 n2 pC).cs = (5, 1) := p_bad _ _
  refine (K.build _ _ W P.cfg P.health).mono fun e w' h => ?_
  unfold Built at h
  rw [hp] at h
  rcases h with ⟨h, _⟩ | ⟨_, he, kk⟩
  · exact absurd h (by decide)
  · exact ⟨he, kk⟩

set_option maxHeartbeats 8000000 in
theorem built_is (K : Words) (w : World) : Calls Try.prog 10 #[] w (Says w true) := by
  have HK := Lib.hid K
  clear K
  go_enter Try.func10, Try.ntmps10
  go_wp2_with fail
  refine (plain7_is w).mono ?_
  rintro e W1 ⟨nl, nc, nr, n1, n2, rfl, hp, hnr, hlr, hcr, B1⟩
  -- the configuration's box
  obtain ⟨W2, hW2⟩ : ∃ W2, W1.alloc (.cells #[.slice (some ⟨nl, 0, none⟩) 1 1, .slice (some ⟨nr, 0, none⟩) 2 2, .slice (some ⟨nc, 0, none⟩) 2 2] 26) = W2 := ⟨_, rfl⟩
  have hb2 : W2.heap[W1.heap.size]? = some (.cells #[.slice (some ⟨nl, 0, none⟩) 1 1, .slice (some ⟨nr, 0, none⟩) 2 2, .slice (some ⟨nc, 0, none⟩) 2 2] 26 (0, 0)) := by rw [← hW2]; exact one_alloc _ _
  have k2 : Below W1.heap.size W1 W2 := by rw [← hW2]; exact boxed _ _
  have P2 := hp.below k2
  have B2 := below_next B1 k2
  have hnrW : nr < W1.heap.size := block_lt hp.r
  have hq := HK.out.build _ _ W2 P2.cfg P2.health
  have ⟨f0, f1, f2⟩ := box_three hb2 (Below.refl _ _)
  have HP := Lib.hid P2
  have HB := Lib.hid hb2
  clear hp k2 B1 P2 hb2
  unfold Cfg.val pCfg
  go_wp2_with fail
  refine hq.mono ?_
  rintro e W3 (⟨_, s, rfl, hs, hsl, hsc, hsr, kk⟩ | ⟨hbad, _⟩)
  case inr => exact absurd (congrArg Prod.fst (p_ok ⟨n1, 0, none⟩ ⟨n2, 0, none⟩)) hbad
  have hS : PS W3 s n1 n2 := ⟨hs.i, hsl, hsc, hsr.trans (p_rules _ _), hs.h⟩
  obtain ⟨W4, hW4⟩ : ∃ W4, W3.alloc (.cells #[.slice s.la 1 s.lc, .slice s.ra 2 s.rc, .slice s.ca 2 s.cc] 30) = W4 := ⟨_, rfl⟩
  have k4 : Below W3.heap.size W3 W4 := by rw [← hW4]; exact boxed _ _
  have T4 : BT w W4 W1.heap.size W3.heap.size nl nc nr n1 n2 pB s :=
    ⟨below_next (below_next B2 kk) k4, (k4.block _ (by have := block_lt HB.out; have := kk.size; omega)).trans ((kk.block _ (block_lt HB.out)).trans HB.out), by rw [← hW4]; exact one_alloc _ _, (HP.out.below kk).below k4, hS.below k4⟩
  have hnrW2 : nr < W2.heap.size := block_lt HP.out.r
  have a1 : ∀ ad, s.la = some ad → ad.block ≠ nr := fun ad e => by have := hs.la ad e; omega
  have a2 : ∀ ad, s.ra = some ad → ad.block ≠ nr := fun ad e => by have := hs.ra ad e; omega
  have a3 : ∀ ad, s.ca = some ad → ad.block ≠ nr := fun ad e => by have := hs.ca ad e; omega
  have a4 : ∀ x ∈ s.cs, ∀ ad, x.ha = some ad → ad.block ≠ nr := fun x hx ad e => by have := hs.ha x hx ad e; omega
  have A := Lib.hid (And.intro a1 (And.intro a2 (And.intro a3 a4)))
  rw [ps_val hS]
  have hz4 : W4.heap.size = W3.heap.size + 1 := by rw [← hW4]; simp
  have hq := PS.find HK.out T4.S pIn pX pSlQ (by decide) (1, 0) p_f1
  rw [ps_val T4.S] at hq
  obtain ⟨f0', f1', f2'⟩ := T4.sbox
  have T := Lib.hid T4
  clear T4 hS hs hsl hsc hsr kk k4 a1 a2 a3 a4 f0 f1 f2 HP HB B2 hlr hcr hnrW hnrW2 hW2 hz4
  unfold pIn pX pSlQ at hq
  go_wp2_with fail
  refine hq.mono ?_
  rintro e W5 ⟨rfl, kk⟩
  replace T := Lib.hid (T.out.below kk)
  clear hq kk f0' f1' f2'
  have hq := PS.find HK.out T.out.S pOut pX pSlQ (by decide) (0, 3) p_f2
  rw [ps_val T.out.S] at hq
  obtain ⟨f0', f1', f2'⟩ := T.out.sbox
  unfold pOut pX pSlQ at hq
  go_wp2_with fail
  refine hq.mono ?_
  rintro e W6 ⟨rfl, kk⟩
  replace T := Lib.hid (T.out.below kk)
  clear hq kk f0' f1' f2'
  have hq := PS.find HK.out T.out.S pIn pX pQ (by decide) (0, 5) p_f3
  rw [ps_val T.out.S] at hq
  obtain ⟨f0', f1', f2'⟩ := T.out.sbox
  unfold pIn pX pQ at hq
  go_wp2_with fail
  refine hq.mono ?_
  rintro e W7 ⟨rfl, kk⟩
  replace T := Lib.hid (T.out.below kk)
  clear hq kk f0' f1' f2'
  -- the second route's cluster is written
  obtain ⟨f0, f1, f2⟩ := T.out.cbox
  have s1 : W7.cell? ⟨nr, 7, none⟩ = some (.string pB) := by rw [block_cell T.out.P.r]; rfl
  have z1 := block_free T.out.P.r 7
  replace T := Lib.hid (T.out.set pC hnr A.out.1 A.out.2.1 A.out.2.2.1 A.out.2.2.2)
  have hq := bad_build HK.out T.out.P
  obtain ⟨g0, g1, g2⟩ := T.out.cbox
  unfold Cfg.val pCfg at hq
  unfold pC at g0 g1 g2 hq
  go_wp2_with fail
  refine hq.mono ?_
  rintro e W8 ⟨rfl, kk⟩
  have T8 := T.out.below kk
  clear hq kk f0 f1 f2 g0 g1 g2 s1 z1
  have T9 := T8.below (boxed W8 (.cells #[.slice none 0 0, .slice none 0 0, .slice none 0 0] 30))
  clear T8 T
  obtain ⟨f0', f1', f2'⟩ := T9.sbox
  obtain ⟨ad, ea, x0, x1, x2, x3⟩ := T9.S.second
  unfold pX at x1
  unfold pSl at x2
  have hq := PS.is HK.out T9.S
  rw [ps_val T9.S] at hq
  rw [ea] at f1' hq
  have T := Lib.hid T9
  clear T9
  go_wp2_with fail
  refine hq.mono ?_
  rintro e W10 ⟨rfl, kk⟩
  replace T := Lib.hid (T.out.below kk)
  clear hq kk f0' f1' f2' x0 x1 x2 x3
  have hq : Calls Try.prog 13 #[.agg #[.slice none 0 0, .slice none 0 0, .slice none 0 0]] W10 (Says W10 false) := (HK.out.is Sn.nil [] W10 nil_in ⟨rfl, fun i hi _ => absurd hi (by simp [Sn.nil])⟩ ⟨by simp [Sn.nil], by simp [Sn.nil], by simp [Sn.nil], fun x hx => by cases hx⟩).mono fun _ _ t => t.of p_nil
  go_wp2_with fail
  refine hq.mono ?_
  rintro e W11 ⟨rfl, kk⟩
  replace T := Lib.hid (T.out.below kk)
  clear hq kk
  have hq := HK.out.conf s _ W11 T.out.S.i T.out.S.h T.out.S.few
  rw [ps_val T.out.S] at hq
  obtain ⟨f0', f1', f2'⟩ := T.out.sbox
  rw [ea] at f1' hq
  go_wp2_with fail
  refine hq.mono ?_
  rintro e W12 ⟨c', rfl, hc, hch, e1, e2, e3, kk⟩
  replace T := Lib.hid (T.out.below kk)
  clear hq kk f0' f1' f2'
  rw [T.out.S.l] at e1
  replace e2 := e2.trans T.out.S.c
  rw [T.out.S.l, T.out.S.r, T.out.S.c.routes, p_routes] at e3
  have E := Lib.hid (And.intro e1 (And.intro e2 e3))
  have HC := Lib.hid hc
  have HCH := Lib.hid hch
  clear e1 e2 e3 hc hch
  go_wp2_with fail
  refine (plain7_is W12).mono ?_
  rintro e W13 ⟨ml, mc, mr, m1, m2, rfl, hp', _, _, _, kk⟩
  have hh : HealthIn W13 W13.heap.size c'.cs [[true], [false, true]] := (HCH.out.below kk).more kk.size
  have hq := sameConfigs_is c' (pCfg ml mc mr m1 m2 pB) [[true], [false, true]] [[true], [false, true]] W13 ((HC.out.below kk).more kk.size) hp'.cfg hh hp'.health
  have hv : sameCfg c' [[true], [false, true]] (pCfg ml mc mr m1 m2 pB) [[true], [false, true]] = true := by
    unfold sameCfg
    rw [E.out.1, E.out.2.1.chs, E.out.2.2]
    show (sameL eqB [pIn] [pIn] && sameL sameCh (chs [pCl1 ⟨n1, 0, none⟩, pCl2 ⟨n2, 0, none⟩] [[true], [false, true]]) (chs [pCl1 ⟨m1, 0, none⟩, pCl2 ⟨m2, 0, none⟩] [[true], [false, true]]) && sameL sameRt [pR1, pR2 pB] [pR1, pR2 pB]) = true
    rw [p_same1, p_same, p_same2]
    rfl
  rw [hv] at hq
  have B13 := below_next T.out.B kk
  clear hv hh hp' kk
  go_wp2_with fail
  refine hq.mono ?_
  rintro e W14 ⟨rfl, kk⟩
  have B14 := below_next B13 kk
  clear hq kk
  go_wp2_with fail
  go_ret
  exact ⟨rfl, B14⟩
end Go.Proofs.Ytknjdaokidcllaa
