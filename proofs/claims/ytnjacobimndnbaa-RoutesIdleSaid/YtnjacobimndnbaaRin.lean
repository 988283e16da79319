/- Rules in memory. -/
import Derived.Test.YtnjacobimndnbaaRpure
import Derived.Test.YtnjacobimndnbaaFlat
namespace Go.Proofs.Ytnjacobimndnbaa
open Go.RowKit Go.ChangeShapes Go.WideShapes
set_option linter.unusedVariables false
set_option linter.unusedSimpArgs false
set_option maxRecDepth 100000

/-- The slice value '.slice A n c' holds just these rules, and lies below block B. -/
structure RulesIn (w : World) (B : Nat) (A : Option Addr) (c : Nat) (l : List Rl) : Prop where
  rows : Rows4 w B A (l.map Rl.cells)
  le : l.length ≤ c
  lm : c ≤ maxLen

section
variable {w W w' : World} {B B' c k : Nat} {A : Option Addr} {l : List Rl}
theorem RulesIn.keep (h : RulesIn w B A c l) (hk : ∀ p : Addr, p.block < B → w'.cell? p = w.cell? p) : RulesIn w' B A c l := ⟨h.rows.keep hk, h.le, h.lm⟩
theorem RulesIn.more (h : RulesIn w B A c l) (hB : B ≤ B') : RulesIn w B' A c l := ⟨h.rows.more hB, h.le, h.lm⟩
theorem RulesIn.below (h : RulesIn w B A c l) (hb : Below B w w') : RulesIn w' B A c l := h.keep fun _ hp => hb.cell hp
theorem RulesIn.next (h : RulesIn w w.heap.size A c l) (hb : Below w.heap.size w W) : RulesIn W W.heap.size A c l := (h.below hb).more hb.size
theorem RulesIn.len (h : RulesIn w B A c l) : l.length ≤ maxLen := Nat.le_trans h.le h.lm
theorem RulesIn.ad (h : RulesIn w B A c l) (hk : k < l.length) : ∃ ad, A = some ad ∧ ad.block < B := by
  obtain ⟨ad, e, hb, _⟩ := h.rows (by rw [List.length_map]; omega)
  exact ⟨ad, e, hb⟩
/-- What a rule's cells hold, in any later world. -/
theorem RulesIn.at_ {ad : Addr} (h : RulesIn w B (some ad) c l) (hk : k < l.length) (hb : ∀ p : Addr, p.block < B → W.cell? p = w.cell? p) :
    Four W (ad.add (k * 4)) (.int .i64 l[k].listen) (.string l[k].host) (.string l[k].path) (.int .i64 l[k].cluster) := by
  obtain ⟨ad', e, _, hc⟩ := (h.keep hb).rows (by rw [List.length_map]; omega)
  cases e
  exact four_of (hc k l[k].cells (by rw [List.getElem?_map, List.getElem?_eq_getElem hk]; rfl)) rfl
end

/-- The rule lies in a block of its own. -/
def Box4 (W : World) (b : Nat) (r : Rl) : Prop := W.heap[b]? = some (.cells #[.int .i64 r.listen, .string r.host, .string r.path, .int .i64 r.cluster] 31 (0, 0))
theorem Box4.four {W : World} {b : Nat} {r : Rl} (h : Box4 W b r) : Four W ⟨b, 0, none⟩ (.int .i64 r.listen) (.string r.host) (.string r.path) (.int .i64 r.cluster) :=
  ⟨by rw [block_cell h]; rfl, by rw [block_cell h]; rfl, by rw [block_cell h]; rfl, by rw [block_cell h]; rfl⟩
theorem Box4.new (w : World) (r : Rl) : Box4 (w.alloc (.cells #[.int .i64 r.listen, .string r.host, .string r.path, .int .i64 r.cluster] 31)) w.heap.size r := one_alloc _ _
theorem Box4.lt {W : World} {b : Nat} {r : Rl} (h : Box4 W b r) : b < W.heap.size := block_lt h
theorem Box4.below {W W' : World} {b : Nat} {r : Rl} (h : Box4 W b r) (hb : Below W.heap.size W W') : Box4 W' b r := (hb.block b h.lt).trans h
end Go.Proofs.Ytnjacobimndnbaa
