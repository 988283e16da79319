/- The law's own configurations: the walk of checked. -/
import Derived.Test.YtlaibkinkopkiaaCchecked
import Derived.Test.YtlaibkinkopkiaaNrow
import Derived.OwnWalk
namespace Go.Proofs.Ytlaibkinkopkiaa
open Go.RowKit
set_option linter.unusedVariables false
set_option linter.unusedSimpArgs false
set_option maxRecDepth 100000

section
variable {w wr : World} {nb nl nc nr : Nat} {cs : List Cl} {rs : List Rt}
/-- What the walk reads of the box, in a world. -/
theorem Lay.box (h : Lay w wr nb nl nc nr (bxOf nl nc nr) cs rs) : wr.cell? ⟨nb, 0, none⟩ = some (.slice (some ⟨nl, 0, none⟩) 1 1) ∧ wr.cell? ⟨nb, 1, none⟩ = some (.slice (some ⟨nr, 0, none⟩) 2 2) ∧ wr.cell? ⟨nb, 2, none⟩ = some (.slice (some ⟨nc, 0, none⟩) 2 2) :=
  ⟨by rw [block_cell h.b]; rfl, by rw [block_cell h.b]; rfl, by rw [block_cell h.b]; rfl⟩
end

theorem own_apart {P : Program} {w : World} {E base g T : Nat} {v : Value} {xs : List Value} {cs : Array Value} (h : Own E base w v xs) (hg : w.heap[g]? = some (.cells cs T (0, 0))) (hT : E ≠ T) : v.ownBlock ≠ some g := by
  rcases h.2 with ⟨rfl, _⟩ | ⟨g', cap, cur, rfl, _, hh, _⟩
  · simp [Value.ownBlock]
  · intro he
    have e : g' = g := by simpa [Value.ownBlock] using he
    subst e
    have := hh.symm.trans hg
    simp at this
    exact hT this.2
theorem own_two {w : World} {E base : Nat} {v a b : Value} (h : Own E base w v ([a] ++ [b])) : ∃ A c, v = .slice A 2 c ∧ 2 ≤ c ∧ c ≤ maxLen := by
  rcases h.2 with ⟨rfl, hn⟩ | ⟨g, cap, cur, rfl, _, _, h1, h2, _⟩
  · simp at hn
  · exact ⟨_, _, rfl, h1, h2⟩

/-- The law's configuration with two listeners, that lie in a row of the call's own. -/
structure Lay5 (w wr : World) (nb nc nr : Nat) (A : Option Addr) (k : Nat) (bx : Array Value) (cs : List Cl) (rs : List Rt) : Prop where
  p : Parts w wr nc nr cs rs
  bb : w.heap.size ≤ nb
  b : wr.heap[nb]? = some (.cells bx 26 (0, 0))
  l : Own 9 w.heap.size wr (.slice A 2 k) [.string inS, .string inS]
  k2 : 2 ≤ k
  km : k ≤ maxLen

section
variable {w wr w' : World} {nb nl nc nr k : Nat} {A : Option Addr} {bx : Array Value} {cs : List Cl} {rs : List Rt}
theorem Lay.grown {out : Value} (h : Lay w wr nb nl nc nr bx cs rs) (ho : Own 9 w.heap.size w' out ([.string inS] ++ [.string inS])) (hg : wr.grownBy w' (Value.slice (some ⟨nl, 0, none⟩) 1 1).ownBlock) :
    ∃ A k, out = .slice A 2 k ∧ Lay5 w w' nb nc nr A k bx cs rs := by
  obtain ⟨A, k, rfl, h1, h2⟩ := own_two ho
  have hg' : wr.grownBy w' (some nl) := hg
  have ne : ∀ {g : Nat} {a : Array Value} {t : TypeId}, wr.heap[g]? = some (.cells a t (0, 0)) → 9 ≠ t → some g ≠ some nl := fun {g a t} hh ht e => by
    injection e with e
    subst e
    have := h.l.symm.trans hh
    simp at this
    exact ht this.2
  refine ⟨A, k, rfl, ⟨h.p.base.trans (below_grownBy hg' h.p.base.size fun k hk => by injection hk with hk; subst hk; exact h.bl), h.p.bc, h.p.br, ?_, ?_⟩, h.bb, ?_, ho, h1, h2⟩
  · exact (hg'.block nc (block_lt h.p.c) (ne h.p.c (by decide))).trans h.p.c
  · exact (hg'.block nr (block_lt h.p.r) (ne h.p.r (by decide))).trans h.p.r
  · exact (hg'.block nb (block_lt h.b) (ne h.b (by decide))).trans h.b
theorem Lay5.below (h : Lay5 w wr nb nc nr A k bx cs rs) (b : Below wr.heap.size wr w') : Lay5 w w' nb nc nr A k bx cs rs :=
  ⟨h.p.below b, h.bb, (b.block nb (block_lt h.b)).trans h.b, h.l.kept0 (grownBy_below b), h.k2, h.km⟩
theorem Lay5.setB (h : Lay5 w wr nb nc nr A k bx cs rs) (o : Nat) (v : Value) : Lay5 w (wr.setCell ⟨nb, o, none⟩ v) nb nc nr A k (bx.setIfInBounds o v) cs rs :=
  ⟨⟨h.p.base.setCell (by exact h.bb) v, h.p.bc, h.p.br, (Below.heap_setCell _ _ _ _ (by
    rintro rfl
    have := h.p.c.symm.trans h.b
    simp at this)).trans h.p.c, (Below.heap_setCell _ _ _ _ (by
    rintro rfl
    have := h.p.r.symm.trans h.b
    simp at this)).trans h.p.r⟩, h.bb, block_setCell h.b v, h.l.kept (grownBy_store _ _ _ _) (.inr (own_apart (P := Try.prog) h.l h.b (by decide))), h.k2, h.km⟩
theorem Lay5.cells (h : Lay5 w wr nb nc nr A k bx cs rs) (i : Nat) : wr.cell? ⟨nb, i, none⟩ = bx[i]? := block_cell h.b i
end
theorem lay5_in {w wr : World} {nb nc nr k : Nat} {A : Option Addr} {n : ByteArray} {h1 h2 : Addr} {r1 r2 : Rt} {bx : Array Value} (h : Lay5 w wr nb nc nr A k bx [clA h1, clB n h2] [r1, r2]) :
    CfgIn wr wr.heap.size ⟨A, k, [inS, inS], some ⟨nr, 0, none⟩, 2, [r1, r2], some ⟨nc, 0, none⟩, 2, [clA h1, clB n h2]⟩ :=
  ⟨h.l.reads, rows4_block (len4r _) h.p.r, rows4_block (len4c _) h.p.c, h.k2, by show 2 ≤ 2; omega, by show 2 ≤ 2; omega, h.km, by show 2 ≤ maxLen; simp [maxLen], by show 2 ≤ maxLen; simp [maxLen],
    fun x hx => by
      have hx' : x ∈ [clA h1, clB n h2] := hx
      simp at hx'
      rcases hx' with rfl | rfl
      · exact clA_wf _
      · exact clB_wf _ _⟩
theorem lay6_in {w wr : World} {nb nc nr k : Nat} {A : Option Addr} {n : ByteArray} {h1 h2 : Addr} {rs : List Rt} {bx : Array Value} (h : Lay5 w wr nb nc nr A k bx [clA h1, clB n h2] rs) :
    CfgIn wr wr.heap.size ⟨A, k, [inS, inS], none, 0, [], some ⟨nc, 0, none⟩, 2, [clA h1, clB n h2]⟩ :=
  ⟨h.l.reads, fun hn => by simp at hn, rows4_block (len4c _) h.p.c, h.k2, by show 0 ≤ 0; omega, by show 2 ≤ 2; omega, h.km, by show 0 ≤ maxLen; simp [maxLen], by show 2 ≤ maxLen; simp [maxLen],
    fun x hx => by
      have hx' : x ∈ [clA h1, clB n h2] := hx
      simp at hx'
      rcases hx' with rfl | rfl
      · exact clA_wf _
      · exact clB_wf _ _⟩
theorem lay5_check {w wr : World} {nb nc nr k : Nat} {A : Option Addr} {h1 h2 : Addr} {bx : Array Value} (h : Lay5 w wr nb nc nr A k bx [clA h1, clB aS h2] [rtA, rtB upS cS]) :
    Calls Try.prog 9 #[.agg #[.slice A 2 k, .slice (some ⟨nr, 0, none⟩) 2 2, .slice (some ⟨nc, 0, none⟩) 2 2]] wr (Tells2 wr (4, 1)) :=
  (check_is _ wr (lay5_in h)).mono fun _ _ t => t.of (is5 h1 h2)
theorem lay6_check {w wr : World} {nb nc nr k : Nat} {A : Option Addr} {h1 h2 : Addr} {bx : Array Value} {rs : List Rt} (h : Lay5 w wr nb nc nr A k bx [clA h1, clB aS h2] rs) :
    Calls Try.prog 9 #[.agg #[.slice A 2 k, .slice none 0 0, .slice (some ⟨nc, 0, none⟩) 2 2]] wr (Tells2 wr (6, 0)) :=
  (check_is _ wr (lay6_in h)).mono fun _ _ t => t.of (is6 h1 h2)

set_option maxHeartbeats 4000000 in
theorem checked_is (w : World) : Calls Try.prog 11 #[] w (Says w true) := by
  go_enter Try.func11, Try.ntmps11
  go_wp2_with fail
  refine (plain_is w).mono ?_
  rintro e W1 ⟨nl, nc, nr, h1, h2, rfl, hnl, hl, P⟩
  have hw1 := P.base.size
  have LY : Lay w (W1.alloc (.cells #[.slice (some ⟨nl, 0, none⟩) 1 1, .slice (some ⟨nr, 0, none⟩) 2 2, .slice (some ⟨nc, 0, none⟩) 2 2] 26)) W1.heap.size nl nc nr (bxOf nl nc nr) [clA h1, clB bS h2] [rtA, rtB xS bS] :=
    ⟨⟨P.base.alloc hw1 _, P.bc, P.br, kept_alloc P.c, kept_alloc P.r⟩, hw1, hnl, one_alloc _ _, kept_alloc hl⟩
  have hc := lay_check LY (is1 h1 h2)
  have HL := Lib.hid LY
  clear LY P hl
  go_wp2_with fail
  refine hc.mono ?_
  rintro e V1 ⟨rfl, kk⟩
  have LY := HL.out.below kk
  generalize W1.heap.size = nb at *
  clear HL hc kk hw1
  -- the second route's cluster
  have LS := LY.setR (o := 7) (v := .string cS) (rs' := [rtA, rtB xS cS]) rfl
  have hc := lay_check LS (is2 h1 h2)
  obtain ⟨b0, b1, b2⟩ := LY.box
  obtain ⟨d0, d1, d2⟩ := LS.box
  have s1 : V1.cell? ⟨nr, 7, none⟩ = some (.string bS) := block_cell LY.p.r 7
  have z1 := block_free LY.p.r 7
  have HL := Lib.hid LS
  clear LY LS
  unfold cS at d0 d1 d2 hc
  go_wp2_with fail
  refine hc.mono ?_
  rintro e V2 ⟨rfl, kk⟩
  have LY := HL.out.below kk
  clear HL hc kk b0 b1 b2 d0 d1 d2 s1 z1
  -- the second route's host
  have LS := LY.setR (o := 5) (v := .string upS) (rs' := [rtA, rtB upS cS]) rfl
  have hc := lay_check LS (is3 h1 h2)
  obtain ⟨b0, b1, b2⟩ := LY.box
  obtain ⟨d0, d1, d2⟩ := LS.box
  have s1 : V2.cell? ⟨nr, 5, none⟩ = some (.string xS) := block_cell LY.p.r 5
  have z1 := block_free LY.p.r 5
  have HL := Lib.hid LS
  clear LY LS
  unfold upS at d0 d1 d2 hc
  go_wp2_with fail
  refine hc.mono ?_
  rintro e V3 ⟨rfl, kk⟩
  have LY := HL.out.below kk
  clear HL hc kk b0 b1 b2 d0 d1 d2 s1 z1
  -- the second cluster's name
  have LS := LY.setC (o := 4) (v := .string aS) (cs' := [clA h1, clB aS h2]) rfl
  have hc := lay_check LS (is4 h1 h2)
  obtain ⟨b0, b1, b2⟩ := LY.box
  obtain ⟨d0, d1, d2⟩ := LS.box
  have s1 : V3.cell? ⟨nc, 4, none⟩ = some (.string bS) := block_cell LY.p.c 4
  have z1 := block_free LY.p.c 4
  have HL := Lib.hid LS
  clear LY LS
  unfold aS at d0 d1 d2 hc
  go_wp2_with fail
  refine hc.mono ?_
  rintro e V4 ⟨rfl, kk⟩
  have LY := HL.out.below kk
  clear HL hc kk b0 b1 b2 d0 d1 d2 s1 z1
  -- a listener more
  have own : Own 9 w.heap.size V4 (.slice (some ⟨nl, 0, none⟩) 1 1) [.string inS] := ⟨rfl, .inr ⟨nl, 1, #[.string inS], rfl, hnl, LY.l, by simp, by simp [maxLen], rfl, rfl⟩⟩
  obtain ⟨i0, hi0, hz0, hz1, hz2⟩ := info_parts str_info
  have HI := Lib.hid hi0
  have HZ0 := Lib.hid hz0
  have HZ1 := Lib.hid hz1
  have HZ2 := Lib.hid hz2
  clear hi0 hz0 hz1 hz2
  obtain ⟨b0, b1, b2⟩ := LY.box
  have HL := Lib.hid LY
  have hsz := LY.p.base.size
  clear LY
  go_wp2_with (at_builtin; refine wpList_append_one rfl (.tmp 48) (.tmp 49) 22 rfl i0 (.string ⟨#[]⟩) 16 Try.underlying22 HI.out HZ0.out HZ1.out HZ2.out rfl rfl _ (.string inS) rfl own rfl (by simp [maxLen]) (by simp) hsz ?_; intro out' w4 ho hg hb4; obtain ⟨A, k, rfl, L5⟩ := HL.out.grown ho hg; have c0 : w4.cell? ⟨nb, 0, none⟩ = some (.slice (some ⟨nl, 0, none⟩) 1 1) := L5.cells 0; have z0 := block_free L5.b 0; have L6 := L5.setB 0 (.slice A 2 k); have d0 : (w4.setCell ⟨nb, 0, none⟩ (.slice A 2 k)).cell? ⟨nb, 0, none⟩ = some (.slice A 2 k) := L6.cells 0; have d1 : (w4.setCell ⟨nb, 0, none⟩ (.slice A 2 k)).cell? ⟨nb, 1, none⟩ = some (.slice (some ⟨nr, 0, none⟩) 2 2) := L6.cells 1; have d2 : (w4.setCell ⟨nb, 0, none⟩ (.slice A 2 k)).cell? ⟨nb, 2, none⟩ = some (.slice (some ⟨nc, 0, none⟩) 2 2) := L6.cells 2; have hc := lay5_check L6; have HL6 := Lib.hid L6; clear ho hg hb4 L5 L6 HL own b0 b1 b2)
  refine hc.mono ?_
  rintro e V5 ⟨rfl, kk⟩
  have L7 := HL6.out.below kk
  clear HL6 hc kk c0 z0 d0 d1 d2 HI HZ0 HZ1 HZ2 hsz
  -- no routes
  have c1 : V5.cell? ⟨nb, 1, none⟩ = some (.slice (some ⟨nr, 0, none⟩) 2 2) := L7.cells 1
  have z1 := block_free L7.b 1
  have L8 := L7.setB 1 (.slice none 0 0)
  have d0 : (V5.setCell ⟨nb, 1, none⟩ (.slice none 0 0)).cell? ⟨nb, 0, none⟩ = some (.slice A 2 k) := L8.cells 0
  have d1 : (V5.setCell ⟨nb, 1, none⟩ (.slice none 0 0)).cell? ⟨nb, 1, none⟩ = some (.slice none 0 0) := L8.cells 1
  have d2 : (V5.setCell ⟨nb, 1, none⟩ (.slice none 0 0)).cell? ⟨nb, 2, none⟩ = some (.slice (some ⟨nc, 0, none⟩) 2 2) := L8.cells 2
  have hc := lay6_check L8
  have BL := Lib.hid L8.p.base
  clear L7 L8
  go_wp2_with fail
  refine hc.mono ?_
  rintro e V6 ⟨rfl, kk⟩
  have B := below_next BL.out kk
  clear BL hc kk c1 z1 d0 d1 d2
  go_wp2_with fail
  go_ret
  exact ⟨rfl, B⟩
end Go.Proofs.Ytlaibkinkopkiaa
