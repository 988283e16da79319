/- The law's own configurations: checked. -/
import Derived.Test.YtlaibkinkopkiaaCplain
import Derived.Test.YtlaibkinkopkiaaOwn
namespace Go.Proofs.Ytlaibkinkopkiaa
open Go.RowKit
set_option linter.unusedVariables false
set_option linter.unusedSimpArgs false
set_option maxRecDepth 100000

section
variable {w wr w' : World} {nb nc nr nl : Nat} {cs : List Cl} {rs : List Rt}
theorem Parts.below (h : Parts w wr nc nr cs rs) (k : Below wr.heap.size wr w') : Parts w w' nc nr cs rs :=
  ⟨below_next h.base k, h.bc, h.br, (k.block nc (block_lt h.c)).trans h.c, (k.block nr (block_lt h.r)).trans h.r⟩
theorem Parts.setR (h : Parts w wr nc nr cs rs) {o : Nat} {v : Value} {rs' : List Rt} (hr : (rArr rs).setIfInBounds o v = rArr rs') : Parts w (wr.setCell ⟨nr, o, none⟩ v) nc nr cs rs' :=
  ⟨h.base.setCell (by exact h.br) v, h.bc, h.br, (Below.heap_setCell _ _ _ _ (by
    rintro rfl
    have := h.c.symm.trans h.r
    simp at this)).trans h.c, by rw [block_setCell h.r, hr]⟩
theorem Parts.setC (h : Parts w wr nc nr cs rs) {o : Nat} {v : Value} {cs' : List Cl} (hc : (cArr cs).setIfInBounds o v = cArr cs') : Parts w (wr.setCell ⟨nc, o, none⟩ v) nc nr cs' rs :=
  ⟨h.base.setCell (by exact h.bc) v, h.bc, h.br, by rw [block_setCell h.c, hc], (Below.heap_setCell _ _ _ _ (by
    rintro rfl
    have := h.r.symm.trans h.c
    simp at this)).trans h.r⟩
end

/-- The law's configuration: its box, its listeners' row, its clusters' and its routes'. -/
structure Lay (w wr : World) (nb nl nc nr : Nat) (bx : Array Value) (cs : List Cl) (rs : List Rt) : Prop where
  p : Parts w wr nc nr cs rs
  bb : w.heap.size ≤ nb
  bl : w.heap.size ≤ nl
  b : wr.heap[nb]? = some (.cells bx 26 (0, 0))
  l : wr.heap[nl]? = some (.cells #[.string inS] 9 (0, 0))

section
variable {w wr w' : World} {nb nc nr nl : Nat} {cs : List Cl} {rs : List Rt} {bx : Array Value}
theorem Lay.below (h : Lay w wr nb nl nc nr bx cs rs) (k : Below wr.heap.size wr w') : Lay w w' nb nl nc nr bx cs rs :=
  ⟨h.p.below k, h.bb, h.bl, (k.block nb (block_lt h.b)).trans h.b, (k.block nl (block_lt h.l)).trans h.l⟩
theorem Lay.setR (h : Lay w wr nb nl nc nr bx cs rs) {o : Nat} {v : Value} {rs' : List Rt} (hr : (rArr rs).setIfInBounds o v = rArr rs') : Lay w (wr.setCell ⟨nr, o, none⟩ v) nb nl nc nr bx cs rs' :=
  ⟨h.p.setR hr, h.bb, h.bl, (Below.heap_setCell _ _ _ _ (by
    rintro rfl
    have := h.b.symm.trans h.p.r
    simp at this)).trans h.b, (Below.heap_setCell _ _ _ _ (by
    rintro rfl
    have := h.l.symm.trans h.p.r
    simp at this)).trans h.l⟩
theorem Lay.setC (h : Lay w wr nb nl nc nr bx cs rs) {o : Nat} {v : Value} {cs' : List Cl} (hr : (cArr cs).setIfInBounds o v = cArr cs') : Lay w (wr.setCell ⟨nc, o, none⟩ v) nb nl nc nr bx cs' rs :=
  ⟨h.p.setC hr, h.bb, h.bl, (Below.heap_setCell _ _ _ _ (by
    rintro rfl
    have := h.b.symm.trans h.p.c
    simp at this)).trans h.b, (Below.heap_setCell _ _ _ _ (by
    rintro rfl
    have := h.l.symm.trans h.p.c
    simp at this)).trans h.l⟩
end

theorem clA_wf (h : Addr) : (clA h).wf := ⟨by kernel_rfl, by kernel_rfl, by show 1 ≤ maxLen; simp [maxLen]⟩
theorem clB_wf (n : ByteArray) (h : Addr) : (clB n h).wf := ⟨by kernel_rfl, by kernel_rfl, by show 2 ≤ maxLen; simp [maxLen]⟩

/-- The law's configuration as the calls see it. -/
def cfgOf (nl nc nr : Nat) (cs : List Cl) (rs : List Rt) : Cfg := ⟨some ⟨nl, 0, none⟩, 1, [inS], some ⟨nr, 0, none⟩, 2, rs, some ⟨nc, 0, none⟩, 2, cs⟩
def bxOf (nl nc nr : Nat) : Array Value := #[.slice (some ⟨nl, 0, none⟩) 1 1, .slice (some ⟨nr, 0, none⟩) 2 2, .slice (some ⟨nc, 0, none⟩) 2 2]
theorem len4r (l : List Rt) : ∀ r ∈ l.map Rt.cells, r.length = 4 := fun r hr => by obtain ⟨x, _, rfl⟩ := List.mem_map.1 hr; rfl
theorem len4c (l : List Cl) : ∀ r ∈ l.map Cl.cells, r.length = 4 := fun r hr => by obtain ⟨x, _, rfl⟩ := List.mem_map.1 hr; rfl
theorem lay_in {w wr : World} {nb nl nc nr : Nat} {n : ByteArray} {h1 h2 : Addr} {r1 r2 : Rt} {bx : Array Value} (h : Lay w wr nb nl nc nr bx [clA h1, clB n h2] [r1, r2]) :
    CfgIn wr wr.heap.size (cfgOf nl nc nr [clA h1, clB n h2] [r1, r2]) :=
  ⟨reads_block h.l, rows4_block (len4r _) h.p.r, rows4_block (len4c _) h.p.c,
    by show 1 ≤ 1; omega, by show 2 ≤ 2; omega, by show 2 ≤ 2; omega, by show 1 ≤ maxLen; simp [maxLen], by show 2 ≤ maxLen; simp [maxLen], by show 2 ≤ maxLen; simp [maxLen],
    fun x hx => by
      have hx' : x ∈ [clA h1, clB n h2] := hx
      simp at hx'
      rcases hx' with rfl | rfl
      · exact clA_wf _
      · exact clB_wf _ _⟩
theorem lay_check {w wr : World} {nb nl nc nr : Nat} {n : ByteArray} {h1 h2 : Addr} {r1 r2 : Rt} {bx : Array Value} (h : Lay w wr nb nl nc nr bx [clA h1, clB n h2] [r1, r2]) {p : Int × Int} (hp : checkI [inS] [r1, r2] [clA h1, clB n h2] = p) :
    Calls Try.prog 9 #[.agg #[.slice (some ⟨nl, 0, none⟩) 1 1, .slice (some ⟨nr, 0, none⟩) 2 2, .slice (some ⟨nc, 0, none⟩) 2 2]] wr (Tells2 wr p) := by
  have := check_is _ wr (lay_in h)
  rw [show checkI (cfgOf nl nc nr [clA h1, clB n h2] [r1, r2]).ls (cfgOf nl nc nr [clA h1, clB n h2] [r1, r2]).rs (cfgOf nl nc nr [clA h1, clB n h2] [r1, r2]).cs = p from hp] at this
  exact this

def cS : ByteArray := ⟨#[99]⟩
def upS : ByteArray := ⟨#[88]⟩
theorem is1 (h1 h2 : Addr) : checkI [inS] [rtA, rtB xS bS] [clA h1, clB bS h2] = (0, 0) := by kernel_rfl
theorem is2 (h1 h2 : Addr) : checkI [inS] [rtA, rtB xS cS] [clA h1, clB bS h2] = (5, 1) := by kernel_rfl
theorem is3 (h1 h2 : Addr) : checkI [inS] [rtA, rtB upS cS] [clA h1, clB bS h2] = (7, 1) := by kernel_rfl
theorem is4 (h1 h2 : Addr) : checkI [inS] [rtA, rtB upS cS] [clA h1, clB aS h2] = (4, 1) := by kernel_rfl
theorem is5 (h1 h2 : Addr) : checkI [inS, inS] [rtA, rtB upS cS] [clA h1, clB aS h2] = (4, 1) := by kernel_rfl
theorem is6 (h1 h2 : Addr) : checkI [inS, inS] [] [clA h1, clB aS h2] = (6, 0) := by kernel_rfl
end Go.Proofs.Ytlaibkinkopkiaa
