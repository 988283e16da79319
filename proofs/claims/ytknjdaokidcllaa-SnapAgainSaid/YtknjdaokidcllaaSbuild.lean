/- The document's Build: a snapshot of a configuration that passes. -/
import Derived.Test.YtknjdaokidcllaaSfind
import Derived.Test.YtknjdaokidcllaaCref
import Derived.Test.YtknjdaokidcllaaM1
import Derived.Test.YtknjdaokidcllaaStep
import Derived.Deep.RegionHeld3
import Derived.Deep.LoopGhost
namespace Go.Proofs.Ytknjdaokidcllaa
open Go.RowKit
set_option linter.unusedVariables false
set_option linter.unusedSimpArgs false
set_option maxRecDepth 100000

/-- A snapshot's box, whose rules are being put in a row. -/
structure Grow (wb wr : World) (XB : Nat) (L C v : Value) (l : List Rl) : Prop where
  B : Below wb.heap.size wb wr
  hb : wb.heap.size ≤ XB
  box : wr.heap[XB]? = some (.cells #[L, v, C] 30 (0, 0))
  own : Own4 54 wb.heap.size wr v (l.map Rl.cells)
section
variable {wb wr w' : World} {XB : Nat} {L C v v' : Value} {l l' : List Rl}
theorem Grow.below (h : Grow wb wr XB L C v l) (k : Below wr.heap.size wr w') : Grow wb w' XB L C v l := ⟨below_next h.B k, h.hb, (k.block XB (block_lt h.box)).trans h.box, h.own.kept0 (grownBy_below k)⟩
theorem Grow.boxed (h : Grow wb wr XB L C v l) (g : wr.grownBy w' v.ownBlock) : w'.heap[XB]? = some (.cells #[L, v, C] 30 (0, 0)) :=
  (g.block XB (block_lt h.box) (fun e => h.own.apart h.box (by decide) e.symm)).trans h.box
theorem Grow.put (h : Grow wb wr XB L C v l) (g : wr.grownBy w' v.ownBlock) (o : Own4 54 wb.heap.size w' v' (l'.map Rl.cells)) : Grow wb (w'.setCell ⟨XB, 1, none⟩ v') XB L C v' l' :=
  ⟨(h.B.trans (below_grownBy g h.B.size fun k hk => (h.own.lt k hk).1)).setCell (by exact h.hb) v', h.hb, block_setCell (h.boxed g) v', o.kept (grownBy_store _ _ _ _) (.inr (o.apart (h.boxed g) (by decide)))⟩
theorem Grow.cell (h : Grow wb wr XB L C v l) (i : Nat) : wr.cell? ⟨XB, i, none⟩ = #[L, v, C][i]? := block_cell h.box i
theorem Grow.rules (h : Grow wb wr XB L C v l) : ∃ A c, v = .slice A l.length c ∧ RulesIn wr wr.heap.size A c l := by
  obtain ⟨A, c, e, h1, h2⟩ := h.own.slice
  subst e
  rw [List.length_map] at h1
  exact ⟨A, c, by rw [List.length_map], h.own.rows, h1, h2⟩
/-- A box of another type, made since wb, is where it was behind an append. -/
theorem Grow.other {g T : Nat} {cs : Array Value} (h : Grow wb wr XB L C v l) (hg : wr.heap[g]? = some (.cells cs T (0, 0))) (hT : 54 ≠ T) (hx : g ≠ XB) (k : wr.grownBy w' v.ownBlock) (u : Value) : (w'.setCell ⟨XB, 1, none⟩ u).heap[g]? = some (.cells cs T (0, 0)) :=
  (Below.heap_setCell _ _ _ _ hx).trans ((k.block g (block_lt hg) (fun e => h.own.apart hg hT e.symm)).trans hg)
end

def BuildTell (c : Cfg) (w : World) (e : Ending) (w' : World) : Prop :=
  ((checkI c.ls c.rs c.cs).1 = 0 ∧ ∃ A k, e = .returned (.tuple #[.agg #[.slice c.la c.ls.length c.lc, .slice A (rulesI c.ls c.rs c.cs).length k, .slice c.ca c.cs.length c.cc], .int .i64 0, .int .i64 0]) ∧ RulesIn w' w'.heap.size A k (rulesI c.ls c.rs c.cs) ∧ Below w.heap.size w w') ∨
  ((checkI c.ls c.rs c.cs).1 ≠ 0 ∧ e = .returned (.tuple #[.agg #[.slice none 0 0, .slice none 0 0, .slice none 0 0], .int .i64 (checkI c.ls c.rs c.cs).1, .int .i64 (checkI c.ls c.rs c.cs).2]) ∧ Below w.heap.size w w')

theorem Own4.setLow {E base b i : Nat} {w : World} {v u : Value} {rs : List (List Value)} (h : Own4 E base w v rs) (hb : b < base) : Own4 E base (w.setCell ⟨b, i, none⟩ u) v rs :=
  h.kept (grownBy_store _ _ _ _) (.inr fun e => by have := (h.lt b e).1; omega)
theorem rules_own {base : Nat} {w : World} {A : Option Addr} {n c : Nat} {l : List Rl} (h : Own4 54 base w (.slice A n c) (l.map Rl.cells)) : RulesIn w w.heap.size A c l := by
  obtain ⟨A', c', e, h1, h2⟩ := h.slice
  cases e
  rw [List.length_map] at h1
  exact ⟨h.rows, h1, h2⟩
theorem three_set {W : World} {b t : Nat} {x y z : Value} (h : W.heap[b]? = some (.cells #[x, y, z] t (0, 0))) (a a' a'' : Value) :
    (((W.setCell ⟨b, 0, none⟩ a).setCell ⟨b, 1, none⟩ a').setCell ⟨b, 2, none⟩ a'').heap[b]? = some (.cells #[a, a', a''] t (0, 0)) := block_setCell (block_setCell (block_setCell h a) a') a''
/-- What the walk reads of a configuration's box and of a route's. -/
theorem six_cells {X : World} {b n t t' : Nat} {a1 a2 a3 x0 x1 x2 x3 : Value} (h : X.heap[b]? = some (.cells #[a1, a2, a3] t (0, 0))) (h' : X.heap[n]? = some (.cells #[x0, x1, x2, x3] t' (0, 0))) :
    X.cell? ⟨b, 0, none⟩ = some a1 ∧ X.cell? ⟨b, 2, none⟩ = some a3 ∧ X.cell? ⟨n, 0, none⟩ = some x0 ∧ X.cell? ⟨n, 1, none⟩ = some x1 ∧ X.cell? ⟨n, 2, none⟩ = some x2 ∧ X.cell? ⟨n, 3, none⟩ = some x3 :=
  ⟨by rw [block_cell h]; rfl, by rw [block_cell h]; rfl, by rw [block_cell h']; rfl, by rw [block_cell h']; rfl, by rw [block_cell h']; rfl, by rw [block_cell h']; rfl⟩
theorem rules_next (ls : List ByteArray) (rs : List Rt) (cs : List Cl) {k : Nat} (h : k < rs.length) : rulesI ls (rs.take (k + 1)) cs = rulesI ls (rs.take k) cs ++ [ruleI ls cs rs[k]] := by
  unfold rulesI
  rw [List.take_succ_eq_append_getElem h, List.map_append, List.map_singleton]

set_option maxHeartbeats 8000000 in
theorem rbuild_is (c : Cfg) (w : World) (h : CfgIn w w.heap.size c) (hbig : ∀ r ∈ c.rs, r.host.size ≤ 2000) (h50 : c.rs.length ≤ 50) : Calls Try.prog 9 #[c.val] w (BuildTell c w) := by
  obtain ⟨ir, hir, hr0, hr1, hr2⟩ := info_parts rule_info
  have IR := Lib.hid (⟨hir, hr0, hr1, hr2⟩ : _ ∧ _ ∧ _ ∧ _)
  clear hir hr0 hr1 hr2
  have hm : c.rs.length ≤ 9223372036854775807 := Nat.le_trans h.rl h.rm
  obtain ⟨w2, hw2⟩ : ∃ w2, (w.alloc (.cells #[.slice c.la c.ls.length c.lc, .slice c.ra c.rs.length c.rc, .slice c.ca c.cs.length c.cc] 26)).alloc (.cells #[.slice none 0 0, .slice none 0 0, .slice none 0 0] 30) = w2 := ⟨_, rfl⟩
  have B0 : Below w.heap.size w w2 := by rw [← hw2]; exact below_alloc (boxed w _) (Nat.le_refl _)
  have hz2 : w2.heap.size = w.heap.size + 2 := by rw [← hw2]; simp
  have hC : w2.heap[w.heap.size]? = some (.cells #[.slice c.la c.ls.length c.lc, .slice c.ra c.rs.length c.rc, .slice c.ca c.cs.length c.cc] 26 (0, 0)) := by rw [← hw2]; exact kept_alloc (one_alloc _ _)
  have hR : w2.heap[w.heap.size + 1]? = some (.cells #[.slice none 0 0, .slice none 0 0, .slice none 0 0] 30 (0, 0)) := by
    rw [← hw2]
    have := one_alloc (w.alloc (.cells #[.slice c.la c.ls.length c.lc, .slice c.ra c.rs.length c.rc, .slice c.ca c.cs.length c.cc] 26)) (.cells #[.slice none 0 0, .slice none 0 0, .slice none 0 0] 30)
    rwa [World.size_alloc] at this
  have hk := rcheck_is c w2 ((h.below B0).more B0.size) hbig
  have HIN := Lib.hid h
  have HC := Lib.hid hC
  have HR := Lib.hid hR
  have BB := Lib.hid B0
  have HZ := Lib.hid hz2
  clear h hbig hR hz2
  unfold BuildTell
  generalize checkI c.ls c.rs c.cs = p at hk ⊢
  have f0 : w2.cell? ⟨w.heap.size, 0, none⟩ = some (.slice c.la c.ls.length c.lc) := by rw [block_cell hC]; rfl
  have f1 : w2.cell? ⟨w.heap.size, 1, none⟩ = some (.slice c.ra c.rs.length c.rc) := by rw [block_cell hC]; rfl
  have f2 : w2.cell? ⟨w.heap.size, 2, none⟩ = some (.slice c.ca c.cs.length c.cc) := by rw [block_cell hC]; rfl
  clear hC
  unfold Cfg.val at hk ⊢
  go_enter Try.func9, Try.ntmps9
  go_wp2_with fail
  refine hk.mono ?_
  rintro e W ⟨rfl, kk⟩
  have BW := Lib.hid (below_next B0 kk)
  have WC : W.heap[w.heap.size]? = _ := (kk.block _ (by rw [HZ.out]; omega)).trans HC.out
  have WR : W.heap[w.heap.size + 1]? = _ := (kk.block _ (by rw [HZ.out]; omega)).trans HR.out
  have hWz : w.heap.size + 2 ≤ W.heap.size := by have := kk.size; rw [HZ.out] at this; exact this
  clear hk kk f0 f1 f2 hw2 B0 HC HR HZ BB
  by_cases hp : p.1 = 0
  case neg =>
    have hne : (p.1 != 0) = true := by simpa using hp
    have r0 := block_free WR 0
    have r1 := block_free WR 1
    have r2 := block_free WR 2
    have c0 : W.cell? ⟨w.heap.size + 1, 0, none⟩ = some (.slice none 0 0) := by rw [block_cell WR]; rfl
    have c1 : W.cell? ⟨w.heap.size + 1, 1, none⟩ = some (.slice none 0 0) := by rw [block_cell WR]; rfl
    have c2 : W.cell? ⟨w.heap.size + 1, 2, none⟩ = some (.slice none 0 0) := by rw [block_cell WR]; rfl
    have HP := Lib.hid hp
    clear hp
    go_wp2_with fail
    have hV := three_set WR (.slice none 0 0) (.slice none 0 0) (.slice none 0 0)
    have BV := (((BW.out.setCell (p := ⟨w.heap.size + 1, 0, none⟩) (by simp) (.slice none 0 0)).setCell (p := ⟨w.heap.size + 1, 1, none⟩) (by simp) (.slice none 0 0)).setCell (p := ⟨w.heap.size + 1, 2, none⟩) (by simp) (.slice none 0 0))
    generalize ((W.setCell ⟨w.heap.size + 1, 0, none⟩ (.slice none 0 0)).setCell ⟨w.heap.size + 1, 1, none⟩ (.slice none 0 0)).setCell ⟨w.heap.size + 1, 2, none⟩ (.slice none 0 0) = V at hV BV ⊢
    have v0 : V.cell? ⟨w.heap.size + 1, 0, none⟩ = some (.slice none 0 0) := by rw [block_cell hV]; rfl
    have v1 : V.cell? ⟨w.heap.size + 1, 1, none⟩ = some (.slice none 0 0) := by rw [block_cell hV]; rfl
    have v2 : V.cell? ⟨w.heap.size + 1, 2, none⟩ = some (.slice none 0 0) := by rw [block_cell hV]; rfl
    exact bodyPost_ret (v := .tuple #[.agg #[.slice none 0 0, .slice none 0 0, .slice none 0 0], .int .i64 p.1, .int .i64 p.2]) (by simp [results, Try.f9, go_sem, v0, v1, v2]) rfl (.inr ⟨HP.out, rfl, BV⟩)
  case pos =>
    have hne : (p.1 != 0) = false := by simpa using hp
    have f0 : W.cell? ⟨w.heap.size, 0, none⟩ = some (.slice c.la c.ls.length c.lc) := by rw [block_cell WC]; rfl
    have f1 : W.cell? ⟨w.heap.size, 1, none⟩ = some (.slice c.ra c.rs.length c.rc) := by rw [block_cell WC]; rfl
    have f2 : W.cell? ⟨w.heap.size, 2, none⟩ = some (.slice c.ca c.cs.length c.cc) := by rw [block_cell WC]; rfl
    have HP := Lib.hid hp
    clear hp
    go_wp2_with fail
    have G0 : Grow W (W.alloc (.cells #[.slice c.la c.ls.length c.lc, .slice none 0 0, .slice c.ca c.cs.length c.cc] 30)) W.heap.size (.slice c.la c.ls.length c.lc) (.slice c.ca c.cs.length c.cc) (.slice none 0 0) (rulesI c.ls (c.rs.take 0) c.cs) :=
      ⟨boxed W _, Nat.le_refl _, one_alloc _ _, Own4.nil⟩
    have HWC := Lib.hid WC
    have HWR := Lib.hid WR
    clear f0 f1 f2 WC WR
    generalize W.alloc (.cells #[.slice c.la c.ls.length c.lc, .slice none 0 0, .slice c.ca c.cs.length c.cc] 30) = w3 at G0 ⊢
    go_loopg [8] c.rs.length (fun g i wr => ∃ k : Nat, k ≤ c.rs.length ∧ g = c.rs.length - k ∧ i = .int .i64 k ∧ ∃ v, Grow W wr W.heap.size (.slice c.la c.ls.length c.lc) (.slice c.ca c.cs.length c.cc) v (rulesI c.ls (c.rs.take k) c.cs))
    case atStart => exact ⟨0, Nat.zero_le _, rfl, rfl, _, G0⟩
    case round =>
      clear G0
      obtain ⟨k, hk, rfl, rfl, v, G⟩ := hrel
      have GC : wr.heap[w.heap.size]? = _ := (G.B.block _ (by omega)).trans HWC.out
      have f0 : wr.cell? ⟨w.heap.size, 0, none⟩ = some (.slice c.la c.ls.length c.lc) := by rw [block_cell GC]; rfl
      have f1 : wr.cell? ⟨w.heap.size, 1, none⟩ = some (.slice c.ra c.rs.length c.rc) := by rw [block_cell GC]; rfl
      have f2 : wr.cell? ⟨w.heap.size, 2, none⟩ = some (.slice c.ca c.cs.length c.cc) := by rw [block_cell GC]; rfl
      by_cases hlt : k < c.rs.length
      · obtain ⟨ad, e⟩ := HIN.out.rad hlt
        have BT := BW.out.trans (G.B.mono BW.out.size)
        obtain ⟨x0, x1, x2, x3⟩ := HIN.out.rcell e hlt BT
        rw [e] at f1
        rw [rAt_get hlt] at x0 x1 x2 x3
        have hnx := rules_next c.ls c.rs c.cs hlt
        obtain ⟨r, hr⟩ : ∃ r, c.rs[k] = r := ⟨_, rfl⟩
        rw [hr] at x0 x1 x2 x3 hnx
        clear hr e
        obtain ⟨w4, hw4⟩ : ∃ w4, wr.alloc (.cells #[.string r.listen, .string r.host, .string r.path, .string r.cluster] 48) = w4 := ⟨_, rfl⟩
        have G4 : Grow W w4 W.heap.size (.slice c.la c.ls.length c.lc) (.slice c.ca c.cs.length c.cc) v (rulesI c.ls (c.rs.take k) c.cs) := by rw [← hw4]; exact G.below (boxed wr _)
        have hX : w4.heap[wr.heap.size]? = some (.cells #[.string r.listen, .string r.host, .string r.path, .string r.cluster] 48 (0, 0)) := by rw [← hw4]; exact one_alloc _ _
        have hXW : W.heap.size < wr.heap.size := by have := block_lt G.box; omega
        have hlen : (rulesI c.ls (c.rs.take k) c.cs).length = k := by simp [rulesI]; omega
        have HLEN := Lib.hid hlen
        have HNX := Lib.hid hnx
        clear hlen hnx
        obtain ⟨A4, n4, c4, hv⟩ := own_form G4.own.2
        subst hv
        have C4 : w4.heap[w.heap.size]? = some (.cells #[.slice c.la c.ls.length c.lc, .slice c.ra c.rs.length c.rc, .slice c.ca c.cs.length c.cc] 26 (0, 0)) := by rw [← hw4]; exact kept_alloc GC
        go_wp2_with fail
        clear x0 x1 x2 x3 f0 f1 f2 hw4
        have GD : Grow W w4.drew W.heap.size (.slice c.la c.ls.length c.lc) (.slice c.ca c.cs.length c.cc) (.slice A4 n4 c4) (rulesI c.ls (c.rs.take k) c.cs) := G4.below (below_drew (Below.refl _ _))
        have BD : Below w.heap.size w w4.drew := BW.out.trans (GD.B.mono BW.out.size)
        have CD : w4.drew.heap[w.heap.size]? = some (.cells #[.slice c.la c.ls.length c.lc, .slice c.ra c.rs.length c.rc, .slice c.ca c.cs.length c.cc] 26 (0, 0)) := C4
        have XD : w4.drew.heap[wr.heap.size]? = some (.cells #[.string r.listen, .string r.host, .string r.path, .string r.cluster] 48 (0, 0)) := hX
        have hL := rnumL_is c.la c.lc w.heap.size c.ls r.listen w4.drew (HIN.out.pl.below BD) HIN.out.ll HIN.out.lm
        have hCc := rnumC_is c.ca c.cc w.heap.size c.cs r.cluster w4.drew (HIN.out.pc.below BD) HIN.out.cl HIN.out.cm
        have cK := six_cells CD XD
        have cKal := fun o => six_cells (kept_alloc (o := o) CD) (kept_alloc (o := o) XD)
        have x1 : w4.cell? ⟨W.heap.size, 1, none⟩ = some (.slice A4 n4 c4) := G4.cell 1
        have x1a : ∀ o, (w4.alloc o).cell? ⟨W.heap.size, 1, none⟩ = some (.slice A4 n4 c4) := fun o => block_cell (kept_alloc (o := o) G4.box) 1
        have OW := Lib.hid GD.own
        have GG := Lib.hid GD
        have CDH := Lib.hid CD
        have XDH := Lib.hid XD
        have hWr := block_lt G.box
        clear GD BD CD XD G4 hX C4
        refine wp_region_held_drew (S := fun wk => wk.cell? ⟨w.heap.size, 0, none⟩ = some (.slice c.la c.ls.length c.lc) ∧ wk.cell? ⟨w.heap.size, 2, none⟩ = some (.slice c.ca c.cs.length c.cc) ∧ wk.cell? ⟨wr.heap.size, 0, none⟩ = some (.string r.listen) ∧ wk.cell? ⟨wr.heap.size, 1, none⟩ = some (.string r.host) ∧ wk.cell? ⟨wr.heap.size, 2, none⟩ = some (.string r.path) ∧ wk.cell? ⟨wr.heap.size, 3, none⟩ = some (.string r.cluster)) (by kernel_rfl) cK (fun _ => ?_)
        refine wpAnyH_take (i := 0) (oi := { dst := some 37, op := _, type := _, pos := _, after := _, guard := _ }) (v := .pointer (some ⟨W.heap.size, 1, none⟩)) rfl (by kernel_rfl) (by kernel_rfl) (by kernel_rfl) (fun _ _ _ h => h) (Or.inl ⟨by rfl, fun wk hk => by obtain ⟨q1, q2, q3, q4, q5, q6⟩ := hk; go_simp⟩) cK ?_
        simp only [Act.put, List.setIfInBounds_toArray, List.set_cons_zero, List.set_cons_succ]
        refine wpAnyH_take (i := 2) (oi := { dst := some 39, op := _, type := _, pos := _, after := _, guard := _ }) (v := .pointer (some ⟨w.heap.size, 0, none⟩)) rfl (by kernel_rfl) (by kernel_rfl) (by kernel_rfl) (fun _ _ _ h => h) (Or.inl ⟨by rfl, fun wk hk => by obtain ⟨q1, q2, q3, q4, q5, q6⟩ := hk; go_simp⟩) cK ?_
        simp only [Act.put, List.setIfInBounds_toArray, List.set_cons_zero, List.set_cons_succ]
        refine wpAnyH_take (i := 3) (oi := { dst := some 40, op := _, type := _, pos := _, after := _, guard := _ }) (v := .slice c.la c.ls.length c.lc) rfl (by kernel_rfl) (by kernel_rfl) (by kernel_rfl) (fun _ _ _ h => h) (Or.inl ⟨by rfl, fun wk hk => by obtain ⟨q1, q2, q3, q4, q5, q6⟩ := hk; go_simp⟩) cK ?_
        simp only [Act.put, List.setIfInBounds_toArray, List.set_cons_zero, List.set_cons_succ]
        refine wpAnyH_take (i := 4) (oi := { dst := some 41, op := _, type := _, pos := _, after := _, guard := _ }) (v := .pointer (some ⟨wr.heap.size, 0, none⟩)) rfl (by kernel_rfl) (by kernel_rfl) (by kernel_rfl) (fun _ _ _ h => h) (Or.inl ⟨by rfl, fun wk hk => by obtain ⟨q1, q2, q3, q4, q5, q6⟩ := hk; go_simp⟩) cK ?_
        simp only [Act.put, List.setIfInBounds_toArray, List.set_cons_zero, List.set_cons_succ]
        refine wpAnyH_take (i := 5) (oi := { dst := some 42, op := _, type := _, pos := _, after := _, guard := _ }) (v := .string r.listen) rfl (by kernel_rfl) (by kernel_rfl) (by kernel_rfl) (fun _ _ _ h => h) (Or.inl ⟨by rfl, fun wk hk => by obtain ⟨q1, q2, q3, q4, q5, q6⟩ := hk; go_simp⟩) cK ?_
        simp only [Act.put, List.setIfInBounds_toArray, List.set_cons_zero, List.set_cons_succ]
        refine wpAnyH_take (i := 7) (oi := { dst := some 44, op := _, type := _, pos := _, after := _, guard := _ }) (v := .pointer (some ⟨wr.heap.size, 1, none⟩)) rfl (by kernel_rfl) (by kernel_rfl) (by kernel_rfl) (fun _ _ _ h => h) (Or.inl ⟨by rfl, fun wk hk => by obtain ⟨q1, q2, q3, q4, q5, q6⟩ := hk; go_simp⟩) cK ?_
        simp only [Act.put, List.setIfInBounds_toArray, List.set_cons_zero, List.set_cons_succ]
        refine wpAnyH_take (i := 8) (oi := { dst := some 45, op := _, type := _, pos := _, after := _, guard := _ }) (v := .string r.host) rfl (by kernel_rfl) (by kernel_rfl) (by kernel_rfl) (fun _ _ _ h => h) (Or.inl ⟨by rfl, fun wk hk => by obtain ⟨q1, q2, q3, q4, q5, q6⟩ := hk; go_simp⟩) cK ?_
        simp only [Act.put, List.setIfInBounds_toArray, List.set_cons_zero, List.set_cons_succ]
        refine wpAnyH_take (i := 9) (oi := { dst := some 46, op := _, type := _, pos := _, after := _, guard := _ }) (v := .pointer (some ⟨wr.heap.size, 2, none⟩)) rfl (by kernel_rfl) (by kernel_rfl) (by kernel_rfl) (fun _ _ _ h => h) (Or.inl ⟨by rfl, fun wk hk => by obtain ⟨q1, q2, q3, q4, q5, q6⟩ := hk; go_simp⟩) cK ?_
        simp only [Act.put, List.setIfInBounds_toArray, List.set_cons_zero, List.set_cons_succ]
        refine wpAnyH_take (i := 10) (oi := { dst := some 47, op := _, type := _, pos := _, after := _, guard := _ }) (v := .string r.path) rfl (by kernel_rfl) (by kernel_rfl) (by kernel_rfl) (fun _ _ _ h => h) (Or.inl ⟨by rfl, fun wk hk => by obtain ⟨q1, q2, q3, q4, q5, q6⟩ := hk; go_simp⟩) cK ?_
        simp only [Act.put, List.setIfInBounds_toArray, List.set_cons_zero, List.set_cons_succ]
        refine wpAnyH_take (i := 11) (oi := { dst := some 48, op := _, type := _, pos := _, after := _, guard := _ }) (v := .pointer (some ⟨w.heap.size, 2, none⟩)) rfl (by kernel_rfl) (by kernel_rfl) (by kernel_rfl) (fun _ _ _ h => h) (Or.inl ⟨by rfl, fun wk hk => by obtain ⟨q1, q2, q3, q4, q5, q6⟩ := hk; go_simp⟩) cK ?_
        simp only [Act.put, List.setIfInBounds_toArray, List.set_cons_zero, List.set_cons_succ]
        refine wpAnyH_take (i := 12) (oi := { dst := some 49, op := _, type := _, pos := _, after := _, guard := _ }) (v := .slice c.ca c.cs.length c.cc) rfl (by kernel_rfl) (by kernel_rfl) (by kernel_rfl) (fun _ _ _ h => h) (Or.inl ⟨by rfl, fun wk hk => by obtain ⟨q1, q2, q3, q4, q5, q6⟩ := hk; go_simp⟩) cK ?_
        simp only [Act.put, List.setIfInBounds_toArray, List.set_cons_zero, List.set_cons_succ]
        refine wpAnyH_take (i := 13) (oi := { dst := some 50, op := _, type := _, pos := _, after := _, guard := _ }) (v := .pointer (some ⟨wr.heap.size, 3, none⟩)) rfl (by kernel_rfl) (by kernel_rfl) (by kernel_rfl) (fun _ _ _ h => h) (Or.inl ⟨by rfl, fun wk hk => by obtain ⟨q1, q2, q3, q4, q5, q6⟩ := hk; go_simp⟩) cK ?_
        simp only [Act.put, List.setIfInBounds_toArray, List.set_cons_zero, List.set_cons_succ]
        refine wpAnyH_take (i := 14) (oi := { dst := some 51, op := _, type := _, pos := _, after := _, guard := _ }) (v := .string r.cluster) rfl (by kernel_rfl) (by kernel_rfl) (by kernel_rfl) (fun _ _ _ h => h) (Or.inl ⟨by rfl, fun wk hk => by obtain ⟨q1, q2, q3, q4, q5, q6⟩ := hk; go_simp⟩) cK ?_
        simp only [Act.put, List.setIfInBounds_toArray, List.set_cons_zero, List.set_cons_succ]
        refine wpAnyH_ready (rs := [1, 6]) (by kernel_rfl) (by simp) ?_
        refine (AllReadyH.cons rfl (fun K hK => ?_) (AllReadyH.cons rfl (fun K hK => ?_) AllReadyH.nil))
        · go_simp
          refine hK.out _ _ cK (fun _ => ?_)
          clear hK K
          try simp only [Act.put, List.setIfInBounds_toArray, List.set_cons_zero, List.set_cons_succ]
          refine wpAnyH_ready (rs := [6]) (by kernel_rfl) (by simp) ?_
          refine (AllReadyH.cons rfl (fun K hK => ?_) AllReadyH.nil)
          go_simp
          refine hL.mono ?_
          rintro e wx ⟨rfl, rfl⟩
          refine hK.out _ _ cK (fun _ => ?_)
          clear hK K
          try simp only [Act.put, List.setIfInBounds_toArray, List.set_cons_zero, List.set_cons_succ]
          refine wpAnyH_ready (rs := [15]) (by kernel_rfl) (by simp) ?_
          refine (AllReadyH.cons rfl (fun K hK => ?_) AllReadyH.nil)
          go_simp
          refine hCc.mono ?_
          rintro e wx ⟨rfl, rfl⟩
          refine hK.out _ _ cK (fun _ => ?_)
          clear hK K
          try simp only [Act.put, List.setIfInBounds_toArray, List.set_cons_zero, List.set_cons_succ]
          refine wpAnyH_take (i := 16) (oi := { dst := some 53, op := _, type := _, pos := _, after := _, guard := _ }) (v := .agg #[.int .i64 (numL c.ls r.listen), .string r.host, .string r.path, .int .i64 (numC c.cs r.cluster)]) rfl (by kernel_rfl) (by kernel_rfl) (by kernel_rfl) (fun _ _ _ h => h) (Or.inl ⟨by rfl, fun wk hk => by obtain ⟨q1, q2, q3, q4, q5, q6⟩ := hk; go_simp⟩) cK ?_
          simp only [Act.put, List.setIfInBounds_toArray, List.set_cons_zero, List.set_cons_succ]
          refine wpAnyH_ready (rs := [17]) (by kernel_rfl) (by simp) ?_
          refine (AllReadyH.cons rfl (fun K hK => ?_) AllReadyH.nil)
          go_simp
          refine hK.out _ _ (cKal _) (fun _ => ?_)
          clear hK K
          try simp only [Act.put, List.setIfInBounds_toArray, List.set_cons_zero, List.set_cons_succ]
          refine wpAnyH_ready (rs := [18]) (by kernel_rfl) (by simp) ?_
          refine (AllReadyH.cons rfl (fun K hK => ?_) AllReadyH.nil)
          refine step_append_one4 rfl (.tmp 38) (.tmp 54) 28 rfl ir (.agg #[.int .i64 0, .string ⟨#[]⟩, .string ⟨#[]⟩, .int .i64 0]) 48 Try.underlying28 IR.out rfl (by simp [Act.eval, Act.put]) _ _ _ _ _ (by simp [Value.oneCell']) OW.out (by simp [Act.eval, Act.put]) (by rw [List.length_map, HLEN.out]; simp [maxLen]; omega) (by rw [List.length_map, HLEN.out]; omega) (by exact GG.out.B.size) ?_
          intro v' w6 ho hg
          obtain ⟨A5, n5, c5, rfl⟩ := own_form ho.2
          have c0 : w6.cell? ⟨W.heap.size, 1, none⟩ = some (.slice A4 n4 c4) := block_cell (GG.out.boxed hg) 1
          have z0 := block_free (GG.out.boxed hg) 1
          have k1 := (hg.block _ (block_lt CDH.out) (fun e => by have := (GG.out.own.lt _ e.symm).1; omega)).trans CDH.out
          have k2 := (hg.block _ (block_lt XDH.out) (fun e => GG.out.own.apart XDH.out (by decide) e.symm)).trans XDH.out
          have cK2 := six_cells k1 k2
          have cK3 := six_cells ((Below.heap_setCell w6 ⟨W.heap.size, 1, none⟩ (.slice A5 n5 c5) _ (by simp; omega)).trans k1) ((Below.heap_setCell w6 ⟨W.heap.size, 1, none⟩ (.slice A5 n5 c5) _ (by simp; omega)).trans k2)
          refine hK.out _ _ cK2 (fun _ => ?_)
          clear hK K
          try simp only [Act.put, List.setIfInBounds_toArray, List.set_cons_zero, List.set_cons_succ]
          refine wpAnyH_take (i := 19) (oi := { dst := some 56, op := _, type := _, pos := _, after := _, guard := _ }) (v := .pointer (some ⟨W.heap.size, 1, none⟩)) rfl (by kernel_rfl) (by kernel_rfl) (by kernel_rfl) (fun _ _ _ h => h) (Or.inl ⟨by rfl, fun wk hk => by obtain ⟨q1, q2, q3, q4, q5, q6⟩ := hk; go_simp⟩) cK2 ?_
          simp only [Act.put, List.setIfInBounds_toArray, List.set_cons_zero, List.set_cons_succ]
          refine wpAnyH_ready (rs := [20]) (by kernel_rfl) (by simp) ?_
          refine (AllReadyH.cons rfl (fun K hK => ?_) AllReadyH.nil)
          go_simp
          refine hK.out _ _ cK3 (fun _ => ?_)
          clear hK K
          try simp only [Act.put, List.setIfInBounds_toArray, List.set_cons_zero, List.set_cons_succ]
          refine wpAnyH_done (by kernel_rfl) ?_ _
          have GN := GG.out.put (l' := rulesI c.ls (c.rs.take (k + 1)) c.cs) hg (by rw [HNX.out, List.map_append]; exact ho)
          clear c0 z0 k1 k2 cK2 cK3 ho hg cK cKal x1 x1a hL hCc
          go_wp2_with fail
          go_roundg (c.rs.length - (k + 1))
          case measure => omega
          case rel => exact ⟨k + 1, by omega, rfl, by go_num, _, GN⟩
        · go_simp
          refine hL.mono ?_
          rintro e wx ⟨rfl, rfl⟩
          refine hK.out _ _ cK (fun _ => ?_)
          clear hK K
          try simp only [Act.put, List.setIfInBounds_toArray, List.set_cons_zero, List.set_cons_succ]
          refine wpAnyH_ready (rs := [1, 15]) (by kernel_rfl) (by simp) ?_
          refine (AllReadyH.cons rfl (fun K hK => ?_) (AllReadyH.cons rfl (fun K hK => ?_) AllReadyH.nil))
          · go_simp
            refine hK.out _ _ cK (fun _ => ?_)
            clear hK K
            try simp only [Act.put, List.setIfInBounds_toArray, List.set_cons_zero, List.set_cons_succ]
            refine wpAnyH_ready (rs := [15]) (by kernel_rfl) (by simp) ?_
            refine (AllReadyH.cons rfl (fun K hK => ?_) AllReadyH.nil)
            go_simp
            refine hCc.mono ?_
            rintro e wx ⟨rfl, rfl⟩
            refine hK.out _ _ cK (fun _ => ?_)
            clear hK K
            try simp only [Act.put, List.setIfInBounds_toArray, List.set_cons_zero, List.set_cons_succ]
            refine wpAnyH_take (i := 16) (oi := { dst := some 53, op := _, type := _, pos := _, after := _, guard := _ }) (v := .agg #[.int .i64 (numL c.ls r.listen), .string r.host, .string r.path, .int .i64 (numC c.cs r.cluster)]) rfl (by kernel_rfl) (by kernel_rfl) (by kernel_rfl) (fun _ _ _ h => h) (Or.inl ⟨by rfl, fun wk hk => by obtain ⟨q1, q2, q3, q4, q5, q6⟩ := hk; go_simp⟩) cK ?_
            simp only [Act.put, List.setIfInBounds_toArray, List.set_cons_zero, List.set_cons_succ]
            refine wpAnyH_ready (rs := [17]) (by kernel_rfl) (by simp) ?_
            refine (AllReadyH.cons rfl (fun K hK => ?_) AllReadyH.nil)
            go_simp
            refine hK.out _ _ (cKal _) (fun _ => ?_)
            clear hK K
            try simp only [Act.put, List.setIfInBounds_toArray, List.set_cons_zero, List.set_cons_succ]
            refine wpAnyH_ready (rs := [18]) (by kernel_rfl) (by simp) ?_
            refine (AllReadyH.cons rfl (fun K hK => ?_) AllReadyH.nil)
            refine step_append_one4 rfl (.tmp 38) (.tmp 54) 28 rfl ir (.agg #[.int .i64 0, .string ⟨#[]⟩, .string ⟨#[]⟩, .int .i64 0]) 48 Try.underlying28 IR.out rfl (by simp [Act.eval, Act.put]) _ _ _ _ _ (by simp [Value.oneCell']) OW.out (by simp [Act.eval, Act.put]) (by rw [List.length_map, HLEN.out]; simp [maxLen]; omega) (by rw [List.length_map, HLEN.out]; omega) (by exact GG.out.B.size) ?_
            intro v' w6 ho hg
            obtain ⟨A5, n5, c5, rfl⟩ := own_form ho.2
            have c0 : w6.cell? ⟨W.heap.size, 1, none⟩ = some (.slice A4 n4 c4) := block_cell (GG.out.boxed hg) 1
            have z0 := block_free (GG.out.boxed hg) 1
            have k1 := (hg.block _ (block_lt CDH.out) (fun e => by have := (GG.out.own.lt _ e.symm).1; omega)).trans CDH.out
            have k2 := (hg.block _ (block_lt XDH.out) (fun e => GG.out.own.apart XDH.out (by decide) e.symm)).trans XDH.out
            have cK2 := six_cells k1 k2
            have cK3 := six_cells ((Below.heap_setCell w6 ⟨W.heap.size, 1, none⟩ (.slice A5 n5 c5) _ (by simp; omega)).trans k1) ((Below.heap_setCell w6 ⟨W.heap.size, 1, none⟩ (.slice A5 n5 c5) _ (by simp; omega)).trans k2)
            refine hK.out _ _ cK2 (fun _ => ?_)
            clear hK K
            try simp only [Act.put, List.setIfInBounds_toArray, List.set_cons_zero, List.set_cons_succ]
            refine wpAnyH_take (i := 19) (oi := { dst := some 56, op := _, type := _, pos := _, after := _, guard := _ }) (v := .pointer (some ⟨W.heap.size, 1, none⟩)) rfl (by kernel_rfl) (by kernel_rfl) (by kernel_rfl) (fun _ _ _ h => h) (Or.inl ⟨by rfl, fun wk hk => by obtain ⟨q1, q2, q3, q4, q5, q6⟩ := hk; go_simp⟩) cK2 ?_
            simp only [Act.put, List.setIfInBounds_toArray, List.set_cons_zero, List.set_cons_succ]
            refine wpAnyH_ready (rs := [20]) (by kernel_rfl) (by simp) ?_
            refine (AllReadyH.cons rfl (fun K hK => ?_) AllReadyH.nil)
            go_simp
            refine hK.out _ _ cK3 (fun _ => ?_)
            clear hK K
            try simp only [Act.put, List.setIfInBounds_toArray, List.set_cons_zero, List.set_cons_succ]
            refine wpAnyH_done (by kernel_rfl) ?_ _
            have GN := GG.out.put (l' := rulesI c.ls (c.rs.take (k + 1)) c.cs) hg (by rw [HNX.out, List.map_append]; exact ho)
            clear c0 z0 k1 k2 cK2 cK3 ho hg cK cKal x1 x1a hL hCc
            go_wp2_with fail
            go_roundg (c.rs.length - (k + 1))
            case measure => omega
            case rel => exact ⟨k + 1, by omega, rfl, by go_num, _, GN⟩
          · go_simp
            refine hCc.mono ?_
            rintro e wx ⟨rfl, rfl⟩
            refine hK.out _ _ cK (fun _ => ?_)
            clear hK K
            try simp only [Act.put, List.setIfInBounds_toArray, List.set_cons_zero, List.set_cons_succ]
            refine wpAnyH_take (i := 16) (oi := { dst := some 53, op := _, type := _, pos := _, after := _, guard := _ }) (v := .agg #[.int .i64 (numL c.ls r.listen), .string r.host, .string r.path, .int .i64 (numC c.cs r.cluster)]) rfl (by kernel_rfl) (by kernel_rfl) (by kernel_rfl) (fun _ _ _ h => h) (Or.inl ⟨by rfl, fun wk hk => by obtain ⟨q1, q2, q3, q4, q5, q6⟩ := hk; go_simp⟩) cK ?_
            simp only [Act.put, List.setIfInBounds_toArray, List.set_cons_zero, List.set_cons_succ]
            refine wpAnyH_ready (rs := [1, 17]) (by kernel_rfl) (by simp) ?_
            refine (AllReadyH.cons rfl (fun K hK => ?_) (AllReadyH.cons rfl (fun K hK => ?_) AllReadyH.nil))
            · go_simp
              refine hK.out _ _ cK (fun _ => ?_)
              clear hK K
              try simp only [Act.put, List.setIfInBounds_toArray, List.set_cons_zero, List.set_cons_succ]
              refine wpAnyH_ready (rs := [17]) (by kernel_rfl) (by simp) ?_
              refine (AllReadyH.cons rfl (fun K hK => ?_) AllReadyH.nil)
              go_simp
              refine hK.out _ _ (cKal _) (fun _ => ?_)
              clear hK K
              try simp only [Act.put, List.setIfInBounds_toArray, List.set_cons_zero, List.set_cons_succ]
              refine wpAnyH_ready (rs := [18]) (by kernel_rfl) (by simp) ?_
              refine (AllReadyH.cons rfl (fun K hK => ?_) AllReadyH.nil)
              refine step_append_one4 rfl (.tmp 38) (.tmp 54) 28 rfl ir (.agg #[.int .i64 0, .string ⟨#[]⟩, .string ⟨#[]⟩, .int .i64 0]) 48 Try.underlying28 IR.out rfl (by simp [Act.eval, Act.put]) _ _ _ _ _ (by simp [Value.oneCell']) OW.out (by simp [Act.eval, Act.put]) (by rw [List.length_map, HLEN.out]; simp [maxLen]; omega) (by rw [List.length_map, HLEN.out]; omega) (by exact GG.out.B.size) ?_
              intro v' w6 ho hg
              obtain ⟨A5, n5, c5, rfl⟩ := own_form ho.2
              have c0 : w6.cell? ⟨W.heap.size, 1, none⟩ = some (.slice A4 n4 c4) := block_cell (GG.out.boxed hg) 1
              have z0 := block_free (GG.out.boxed hg) 1
              have k1 := (hg.block _ (block_lt CDH.out) (fun e => by have := (GG.out.own.lt _ e.symm).1; omega)).trans CDH.out
              have k2 := (hg.block _ (block_lt XDH.out) (fun e => GG.out.own.apart XDH.out (by decide) e.symm)).trans XDH.out
              have cK2 := six_cells k1 k2
              have cK3 := six_cells ((Below.heap_setCell w6 ⟨W.heap.size, 1, none⟩ (.slice A5 n5 c5) _ (by simp; omega)).trans k1) ((Below.heap_setCell w6 ⟨W.heap.size, 1, none⟩ (.slice A5 n5 c5) _ (by simp; omega)).trans k2)
              refine hK.out _ _ cK2 (fun _ => ?_)
              clear hK K
              try simp only [Act.put, List.setIfInBounds_toArray, List.set_cons_zero, List.set_cons_succ]
              refine wpAnyH_take (i := 19) (oi := { dst := some 56, op := _, type := _, pos := _, after := _, guard := _ }) (v := .pointer (some ⟨W.heap.size, 1, none⟩)) rfl (by kernel_rfl) (by kernel_rfl) (by kernel_rfl) (fun _ _ _ h => h) (Or.inl ⟨by rfl, fun wk hk => by obtain ⟨q1, q2, q3, q4, q5, q6⟩ := hk; go_simp⟩) cK2 ?_
              simp only [Act.put, List.setIfInBounds_toArray, List.set_cons_zero, List.set_cons_succ]
              refine wpAnyH_ready (rs := [20]) (by kernel_rfl) (by simp) ?_
              refine (AllReadyH.cons rfl (fun K hK => ?_) AllReadyH.nil)
              go_simp
              refine hK.out _ _ cK3 (fun _ => ?_)
              clear hK K
              try simp only [Act.put, List.setIfInBounds_toArray, List.set_cons_zero, List.set_cons_succ]
              refine wpAnyH_done (by kernel_rfl) ?_ _
              have GN := GG.out.put (l' := rulesI c.ls (c.rs.take (k + 1)) c.cs) hg (by rw [HNX.out, List.map_append]; exact ho)
              clear c0 z0 k1 k2 cK2 cK3 ho hg cK cKal x1 x1a hL hCc
              go_wp2_with fail
              go_roundg (c.rs.length - (k + 1))
              case measure => omega
              case rel => exact ⟨k + 1, by omega, rfl, by go_num, _, GN⟩
            · go_simp
              refine hK.out _ _ (cKal _) (fun _ => ?_)
              clear hK K
              try simp only [Act.put, List.setIfInBounds_toArray, List.set_cons_zero, List.set_cons_succ]
              refine wpAnyH_ready (rs := [1]) (by kernel_rfl) (by simp) ?_
              refine (AllReadyH.cons rfl (fun K hK => ?_) AllReadyH.nil)
              go_simp
              refine hK.out _ _ (cKal _) (fun _ => ?_)
              clear hK K
              try simp only [Act.put, List.setIfInBounds_toArray, List.set_cons_zero, List.set_cons_succ]
              refine wpAnyH_ready (rs := [18]) (by kernel_rfl) (by simp) ?_
              refine (AllReadyH.cons rfl (fun K hK => ?_) AllReadyH.nil)
              refine step_append_one4 rfl (.tmp 38) (.tmp 54) 28 rfl ir (.agg #[.int .i64 0, .string ⟨#[]⟩, .string ⟨#[]⟩, .int .i64 0]) 48 Try.underlying28 IR.out rfl (by simp [Act.eval, Act.put]) _ _ _ _ _ (by simp [Value.oneCell']) OW.out (by simp [Act.eval, Act.put]) (by rw [List.length_map, HLEN.out]; simp [maxLen]; omega) (by rw [List.length_map, HLEN.out]; omega) (by exact GG.out.B.size) ?_
              intro v' w6 ho hg
              obtain ⟨A5, n5, c5, rfl⟩ := own_form ho.2
              have c0 : w6.cell? ⟨W.heap.size, 1, none⟩ = some (.slice A4 n4 c4) := block_cell (GG.out.boxed hg) 1
              have z0 := block_free (GG.out.boxed hg) 1
              have k1 := (hg.block _ (block_lt CDH.out) (fun e => by have := (GG.out.own.lt _ e.symm).1; omega)).trans CDH.out
              have k2 := (hg.block _ (block_lt XDH.out) (fun e => GG.out.own.apart XDH.out (by decide) e.symm)).trans XDH.out
              have cK2 := six_cells k1 k2
              have cK3 := six_cells ((Below.heap_setCell w6 ⟨W.heap.size, 1, none⟩ (.slice A5 n5 c5) _ (by simp; omega)).trans k1) ((Below.heap_setCell w6 ⟨W.heap.size, 1, none⟩ (.slice A5 n5 c5) _ (by simp; omega)).trans k2)
              refine hK.out _ _ cK2 (fun _ => ?_)
              clear hK K
              try simp only [Act.put, List.setIfInBounds_toArray, List.set_cons_zero, List.set_cons_succ]
              refine wpAnyH_take (i := 19) (oi := { dst := some 56, op := _, type := _, pos := _, after := _, guard := _ }) (v := .pointer (some ⟨W.heap.size, 1, none⟩)) rfl (by kernel_rfl) (by kernel_rfl) (by kernel_rfl) (fun _ _ _ h => h) (Or.inl ⟨by rfl, fun wk hk => by obtain ⟨q1, q2, q3, q4, q5, q6⟩ := hk; go_simp⟩) cK2 ?_
              simp only [Act.put, List.setIfInBounds_toArray, List.set_cons_zero, List.set_cons_succ]
              refine wpAnyH_ready (rs := [20]) (by kernel_rfl) (by simp) ?_
              refine (AllReadyH.cons rfl (fun K hK => ?_) AllReadyH.nil)
              go_simp
              refine hK.out _ _ cK3 (fun _ => ?_)
              clear hK K
              try simp only [Act.put, List.setIfInBounds_toArray, List.set_cons_zero, List.set_cons_succ]
              refine wpAnyH_done (by kernel_rfl) ?_ _
              have GN := GG.out.put (l' := rulesI c.ls (c.rs.take (k + 1)) c.cs) hg (by rw [HNX.out, List.map_append]; exact ho)
              clear c0 z0 k1 k2 cK2 cK3 ho hg cK cKal x1 x1a hL hCc
              go_wp2_with fail
              go_roundg (c.rs.length - (k + 1))
              case measure => omega
              case rel => exact ⟨k + 1, by omega, rfl, by go_num, _, GN⟩
      · obtain rfl : k = c.rs.length := by omega
        have GR : wr.heap[w.heap.size + 1]? = _ := (G.B.block _ (by omega)).trans HWR.out
        have s0 : wr.cell? ⟨W.heap.size, 0, none⟩ = some (.slice c.la c.ls.length c.lc) := G.cell 0
        have s1 : wr.cell? ⟨W.heap.size, 1, none⟩ = some v := G.cell 1
        have s2 : wr.cell? ⟨W.heap.size, 2, none⟩ = some (.slice c.ca c.cs.length c.cc) := G.cell 2
        rw [List.take_length] at G
        obtain ⟨A, kc, hv, hI⟩ := G.rules
        subst hv
        have HI := Lib.hid hI
        have HGB := Lib.hid G.B
        have r0 := block_free GR 0
        have r1 := block_free GR 1
        have r2 := block_free GR 2
        have c0 : wr.cell? ⟨w.heap.size + 1, 0, none⟩ = some (.slice none 0 0) := by rw [block_cell GR]; rfl
        have c1 : wr.cell? ⟨w.heap.size + 1, 1, none⟩ = some (.slice none 0 0) := by rw [block_cell GR]; rfl
        have c2 : wr.cell? ⟨w.heap.size + 1, 2, none⟩ = some (.slice none 0 0) := by rw [block_cell GR]; rfl
        have HO := Lib.hid G.own
        clear hI G HI
        go_wp2_with fail
        have hV := three_set GR (.slice c.la c.ls.length c.lc) (.slice A (rulesI c.ls c.rs c.cs).length kc) (.slice c.ca c.cs.length c.cc)
        have B1 := BW.out.trans (HGB.out.mono BW.out.size)
        have BV := (((B1.setCell (p := ⟨w.heap.size + 1, 0, none⟩) (by simp) (.slice c.la c.ls.length c.lc)).setCell (p := ⟨w.heap.size + 1, 1, none⟩) (by simp) (.slice A (rulesI c.ls c.rs c.cs).length kc)).setCell (p := ⟨w.heap.size + 1, 2, none⟩) (by simp) (.slice c.ca c.cs.length c.cc))
        have RV := rules_own (((HO.out.setLow (i := 0) (u := .slice c.la c.ls.length c.lc) (b := w.heap.size + 1) (by omega)).setLow (i := 1) (u := .slice A (rulesI c.ls c.rs c.cs).length kc) (b := w.heap.size + 1) (by omega)).setLow (i := 2) (u := .slice c.ca c.cs.length c.cc) (b := w.heap.size + 1) (by omega))
        generalize ((wr.setCell ⟨w.heap.size + 1, 0, none⟩ (.slice c.la c.ls.length c.lc)).setCell ⟨w.heap.size + 1, 1, none⟩ (.slice A (rulesI c.ls c.rs c.cs).length kc)).setCell ⟨w.heap.size + 1, 2, none⟩ (.slice c.ca c.cs.length c.cc) = V at hV BV RV ⊢
        have v0 : V.cell? ⟨w.heap.size + 1, 0, none⟩ = some (.slice c.la c.ls.length c.lc) := by rw [block_cell hV]; rfl
        have v1 : V.cell? ⟨w.heap.size + 1, 1, none⟩ = some (.slice A (rulesI c.ls c.rs c.cs).length kc) := by rw [block_cell hV]; rfl
        have v2 : V.cell? ⟨w.heap.size + 1, 2, none⟩ = some (.slice c.ca c.cs.length c.cc) := by rw [block_cell hV]; rfl
        exact bodyPost_ret (v := .tuple #[.agg #[.slice c.la c.ls.length c.lc, .slice A (rulesI c.ls c.rs c.cs).length kc, .slice c.ca c.cs.length c.cc], .int .i64 0, .int .i64 0]) (by simp [results, Try.f9, go_sem, v0, v1, v2]) rfl (.inl ⟨HP.out, A, kc, rfl, RV, BV⟩)
end Go.Proofs.Ytknjdaokidcllaa
