/- Numbers of names, found by a generic function that is handed a closure. -/
import Derived.Test.YtknjdaokidcllaaSfind
import Derived.Test.YtknjdaokidcllaaCfunc
import Derived.Test.YtknjdaokidcllaaSbuild
import Derived.Test.YtknjdaokidcllaaM3
namespace Go.Proofs.Ytknjdaokidcllaa
open Go.RowKit
set_option linter.unusedVariables false
set_option linter.unusedSimpArgs false
set_option maxRecDepth 100000

theorem lis1_is (x s : ByteArray) (p : Nat) (w : World) (hc : w.cell? ⟨p, 0, none⟩ = some (.string s)) :
    Calls Try.prog 38 #[.string x, .pointer (some ⟨p, 0, none⟩)] w fun e w' => e = .returned (.bool (eqB x s)) ∧ w = w' := by
  unfold eqB
  obtain ⟨b, hb⟩ : ∃ b, (x.toList == s.toList) = b := ⟨_, rfl⟩
  rw [hb]
  go_enter Try.func38, Try.ntmps38
  go_wp2
  go_ret
  exact ⟨rfl, rfl⟩
theorem clu1_is (x : Cl) (s : ByteArray) (p : Nat) (w : World) (hp : p < w.heap.size) (hc : w.cell? ⟨p, 0, none⟩ = some (.string s)) :
    Calls Try.prog 40 #[.agg #[.string x.name, .int .i64 x.policy, .int .i64 x.slots, .slice x.ha x.hn x.hc], .pointer (some ⟨p, 0, none⟩)] w (Says w (eqB x.name s)) := by
  obtain ⟨nm, pol, sl, ha, hn, hcc⟩ := x
  have B := boxed w (.cells #[.string nm, .int .i64 pol, .int .i64 sl, .slice ha hn hcc] 46)
  have h1 := (B.cell (p := ⟨p, 0, none⟩) hp).trans hc
  unfold eqB
  obtain ⟨b, hb⟩ : ∃ b, (nm.toList == s.toList) = b := ⟨_, rfl⟩
  simp only at hb ⊢
  rw [hb]
  go_enter Try.func40, Try.ntmps40
  go_wp2
  go_ret
  exact ⟨rfl, B⟩

theorem numberS_is (A : Option Addr) (c : Nat) (xs : List ByteArray) (s : ByteArray) (p : Nat) (w : World) (hr : Reads w w.heap.size A (xs.map Value.string)) (hm : xs.length ≤ maxLen) (hc : w.cell? ⟨p, 0, none⟩ = some (.string s)) :
    Calls Try.prog 37 #[.slice A xs.length c, .func (.func 38) #[] #[.pointer (some ⟨p, 0, none⟩)]] w fun e w' => e = .returned (.int .i64 (numL xs s)) ∧ w = w' := by
  unfold maxLen at hm
  have HC := Lib.hid hc
  have HR := Lib.hid hr
  clear hc hr
  go_enter Try.func37, Try.ntmps37
  go_wp2
  go_loopw [9] (fun i wr => ∃ k : Nat, k ≤ xs.length ∧ i = .int .i64 k ∧ (xs.take k).any (fun x => eqB x s) = false ∧ w = wr) (fun i _ => xs.length - (intOf i).toNat)
  case atStart => exact ⟨0, Nat.zero_le _, rfl, rfl, rfl⟩
  case round =>
    obtain ⟨k, hk, rfl, hno, rfl⟩ := hrel
    have HN := Lib.hid hno
    clear hno
    by_cases hlt : k < xs.length
    · obtain ⟨ad, rfl, hb, f0⟩ := HR.out.str hlt
      have hcl := lis1_is xs[k] s p w HC.out
      obtain ⟨b, hb⟩ : ∃ b, eqB xs[k] s = b := ⟨_, rfl⟩
      rw [hb] at hcl
      have HB := Lib.hid hb
      clear hb
      generalize xs[k] = x at f0 hcl
      cases b with
      | true =>
        go_wp2_with (first | (go_at_call 38; ((with_reducible refine hcl.mono ?_); rintro e wx ⟨rfl, rfl⟩)))
        go_ret
        rw [numL, findI_hit (p := fun x => eqB x s) hlt HB.out HN.out]
        exact ⟨rfl, rfl⟩
      | false =>
        go_wp2_with (first | (go_at_call 38; ((with_reducible refine hcl.mono ?_); rintro e wx ⟨rfl, rfl⟩)))
        go_roundw
        case rel => exact ⟨k + 1, by omega, by go_num, by rw [any_next hlt, HN.out, Bool.false_or]; exact HB.out, trivial⟩
        case measure => simp [intOf]; omega
    · go_wp2
      go_ret
      rw [numL, findI_none (any_end hlt HN.out)]
      exact ⟨rfl, rfl⟩

theorem numberC_is (A : Option Addr) (c : Nat) (xs : List Cl) (s : ByteArray) (p : Nat) (w : World) (hr : Rows4 w w.heap.size A (xs.map Cl.cells)) (hm : xs.length ≤ maxLen) (hp : p < w.heap.size) (hc : w.cell? ⟨p, 0, none⟩ = some (.string s)) :
    Calls Try.prog 39 #[.slice A xs.length c, .func (.func 40) #[] #[.pointer (some ⟨p, 0, none⟩)]] w (TellsI w (numC xs s)) := by
  unfold maxLen at hm
  have HC := Lib.hid hc
  have HR := Lib.hid hr
  clear hc hr
  go_enter Try.func39, Try.ntmps39
  go_wp2
  go_loopw [9] (fun i wr => ∃ k : Nat, k ≤ xs.length ∧ i = .int .i64 k ∧ (xs.take k).any (fun x => eqB x.name s) = false ∧ Below w.heap.size w wr) (fun i _ => xs.length - (intOf i).toNat)
  case atStart => exact ⟨0, Nat.zero_le _, rfl, rfl, Below.refl _ _⟩
  case round =>
    obtain ⟨k, hk, rfl, hno, B⟩ := hrel
    have HN := Lib.hid hno
    clear hno
    by_cases hlt : k < xs.length
    · obtain ⟨ad, rfl, hb, hcell⟩ := (HR.out.below B) (by rw [List.length_map]; omega)
      obtain ⟨f0, f1, f2, f3⟩ := four_of (hcell k xs[k].cells (by rw [List.getElem?_map, List.getElem?_eq_getElem hlt]; rfl)) rfl
      clear hcell
      obtain ⟨w4, hw4⟩ : ∃ w4, wr.alloc (.cells #[.string xs[k].name, .int .i64 xs[k].policy, .int .i64 xs[k].slots, .slice xs[k].ha xs[k].hn xs[k].hc] 46) = w4 := ⟨_, rfl⟩
      have B4 : Below w.heap.size w w4 := by rw [← hw4]; exact B.alloc B.size _
      have hcl := clu1_is xs[k] s p w4 (by have := B4.size; omega) ((B4.cell (p := ⟨p, 0, none⟩) hp).trans HC.out)
      have ⟨g0, g1, g2, g3⟩ : Four w4 ⟨wr.heap.size, 0, none⟩ (.string xs[k].name) (.int .i64 xs[k].policy) (.int .i64 xs[k].slots) (.slice xs[k].ha xs[k].hn xs[k].hc) := by rw [← hw4]; exact four_in4' _ _ _ _ _ _
      obtain ⟨b, hb⟩ : ∃ b, eqB xs[k].name s = b := ⟨_, rfl⟩
      rw [hb] at hcl
      have HB := Lib.hid hb
      clear hb
      generalize xs[k] = x at f0 f1 f2 f3 hcl hw4 g0 g1 g2 g3
      cases b with
      | true =>
        go_wp2_with (first | (go_at_call 40; ((with_reducible refine hcl.mono ?_); rintro e wx ⟨rfl, kk⟩; replace B := below_next B4 kk; clear kk)))
        go_ret
        rw [numC, findI_hit (p := fun x : Cl => eqB x.name s) hlt HB.out HN.out]
        exact ⟨rfl, B⟩
      | false =>
        go_wp2_with (first | (go_at_call 40; ((with_reducible refine hcl.mono ?_); rintro e wx ⟨rfl, kk⟩; replace B := below_next B4 kk; clear kk)))
        go_roundw
        case rel => exact ⟨k + 1, by omega, by go_num, by rw [any_next hlt, HN.out, Bool.false_or]; exact HB.out, B⟩
        case measure => simp [intOf]; omega
    · go_wp2
      go_ret
      rw [numC, findI_none (any_end hlt HN.out)]
      exact ⟨rfl, B⟩

theorem listenNumber_is (A : Option Addr) (c : Nat) (xs : List ByteArray) (s : ByteArray) (w : World) (hr : Reads w w.heap.size A (xs.map Value.string)) (hm : xs.length ≤ maxLen) :
    Calls Try.prog 20 #[.slice A xs.length c, .string s] w (TellsI w (numL xs s)) := by
  have B := boxed w (.cells #[.string s] 9)
  have hi := numberS_is A c xs s w.heap.size (w.alloc (.cells #[.string s] 9)) ((hr.below B).more B.size) hm (World.cell?_alloc_new w #[.string s] 9 0)
  generalize numL xs s = b at hi ⊢
  clear hr
  have hmf : ∀ (fn : Fn) (first cap : Array Value) (w : World), (Instr.makeFunc fn first cap).run Try.prog w = .ok (.func fn first cap) w := fun _ _ _ _ => rfl
  go_enter Try.func20, Try.ntmps20
  go_wp2_with (first | (go_at_call 37; ((with_reducible refine hi.mono ?_); rintro e wx ⟨rfl, rfl⟩)))
  go_ret
  exact ⟨rfl, B⟩
theorem clusterNumber_is (A : Option Addr) (c : Nat) (xs : List Cl) (s : ByteArray) (w : World) (hr : Rows4 w w.heap.size A (xs.map Cl.cells)) (hm : xs.length ≤ maxLen) :
    Calls Try.prog 21 #[.slice A xs.length c, .string s] w (TellsI w (numC xs s)) := by
  have B := boxed w (.cells #[.string s] 9)
  have hi := numberC_is A c xs s w.heap.size (w.alloc (.cells #[.string s] 9)) ((hr.below B).more B.size) hm (by simp) (World.cell?_alloc_new w #[.string s] 9 0)
  generalize numC xs s = b at hi ⊢
  clear hr
  have hmf : ∀ (fn : Fn) (first cap : Array Value) (w : World), (Instr.makeFunc fn first cap).run Try.prog w = .ok (.func fn first cap) w := fun _ _ _ _ => rfl
  go_enter Try.func21, Try.ntmps21
  go_wp2_with (first | (go_at_call 39; ((with_reducible refine hi.mono ?_); rintro e wx ⟨rfl, kk⟩; replace B := below_next B kk; clear kk)))
  go_ret
  exact ⟨rfl, B⟩
end Go.Proofs.Ytknjdaokidcllaa

/- A box of three lists, the second of which is being put in a row of the call's own: between two rounds, and within one. -/
namespace Go.Proofs.Ytknjdaokidcllaa
open Go.RowKit
set_option linter.unusedVariables false
set_option linter.unusedSimpArgs false
set_option maxRecDepth 100000

/-- From wb on nothing that was there has turned; from wc on nothing but block XB, which was made between the two. -/
structure But (wb wc wk : World) (XB : Nat) : Prop where
  B : Below wb.heap.size wb wk
  K : ∀ b, b < wc.heap.size → b ≠ XB → wk.heap[b]? = wc.heap[b]?
  S : wc.heap.size ≤ wk.heap.size
  hb : wb.heap.size ≤ XB
section
variable {wb wc wk wx : World} {XB : Nat}
theorem But.below (h : But wb wc wk XB) (k : Below wk.heap.size wk wx) : But wb wc wx XB :=
  ⟨below_next h.B k, fun b hb hne => (k.block b (Nat.lt_of_lt_of_le hb h.S)).trans (h.K b hb hne), Nat.le_trans h.S k.size, h.hb⟩
theorem But.grown {row : Option Nat} (h : But wb wc wk XB) (g : wk.grownBy wx row) (hr : ∀ k, row = some k → wb.heap.size ≤ k ∧ wc.heap.size ≤ k) : But wb wc wx XB :=
  ⟨h.B.trans (below_grownBy g h.B.size fun k hk => (hr k hk).1), fun b hb hne => (g.block b (Nat.lt_of_lt_of_le hb h.S) (fun e => by have := (hr b e.symm).2; omega)).trans (h.K b hb hne), Nat.le_trans h.S g.size, h.hb⟩
theorem But.store (h : But wb wc wk XB) (i : Nat) (u : Value) : But wb wc (wk.setCell ⟨XB, i, none⟩ u) XB :=
  ⟨h.B.setCell (by exact h.hb) _, fun b hb hne => (Below.heap_setCell _ _ _ _ hne).trans (h.K b hb hne), by rw [show (wk.setCell ⟨XB, i, none⟩ u).heap.size = wk.heap.size from by simp [World.setCell]]; exact h.S, h.hb⟩
theorem But.cell (h : But wb wc wk XB) {p : Addr} (hp : p.block < wc.heap.size) (hne : p.block ≠ XB) : wk.cell? p = wc.cell? p := World.cell?_of_block (h.K _ hp hne)
theorem But.reads (h : But wb wc wk XB) {A : Option Addr} {xs : List Value} (hr : Reads wc wc.heap.size A xs) (hA : 0 < xs.length → ∀ ad, A = some ad → ad.block ≠ XB) : Reads wk wk.heap.size A xs := fun hn => by
  obtain ⟨ad, e, hb, hc⟩ := hr hn
  exact ⟨ad, e, Nat.lt_of_lt_of_le hb h.S, fun j v hv => (h.cell (by rw [block_of_add]; exact hb) (by rw [block_of_add]; exact hA hn ad e)).trans (hc j v hv)⟩
theorem But.rows4 (h : But wb wc wk XB) {A : Option Addr} {xs : List (List Value)} (hr : Rows4 wc wc.heap.size A xs) (hA : 0 < xs.length → ∀ ad, A = some ad → ad.block ≠ XB) : Rows4 wk wk.heap.size A xs := fun hn => by
  obtain ⟨ad, e, hb, hc⟩ := hr hn
  exact ⟨ad, e, Nat.lt_of_lt_of_le hb h.S, fun i r hr j v hv => (h.cell (by rw [block_of_add]; exact hb) (by rw [block_of_add]; exact hA hn ad e)).trans (hc i r hr j v hv)⟩
theorem But.health (h : But wb wc wk XB) {cs : List Cl} {hs : List (List Bool)} (hr : HealthIn wc wc.heap.size cs hs) (hA : ∀ x ∈ cs, 0 < x.hn → ∀ ad, x.ha = some ad → ad.block ≠ XB) : HealthIn wk wk.heap.size cs hs :=
  ⟨hr.len, fun i hi hi' => ⟨(hr.at_ i hi hi').1, h.reads (hr.at_ i hi hi').2 fun hn => hA _ (List.getElem_mem hi) (by rw [← (hr.at_ i hi hi').1]; simpa using hn)⟩⟩
end

/-- Within a round: the list in the middle of the box is a row of elements of type E, made since wc; the box cb was there, and the box xb has the element that goes in. -/
structure Mid (E TX TC TE : Nat) (wb wc wk : World) (XB cb xb : Nat) (L C v A1 A2 A3 x0 x1 x2 x3 : Value) (l : List (List Value)) : Prop where
  k : But wb wc wk XB
  box : wk.heap[XB]? = some (.cells #[L, v, C] TX (0, 0))
  own : Own4 E wc.heap.size wk v l
  hc : cb < wc.heap.size ∧ cb ≠ XB
  cfg : wk.heap[cb]? = some (.cells #[A1, A2, A3] TC (0, 0))
  hx : xb ≠ XB
  el : wk.heap[xb]? = some (.cells #[x0, x1, x2, x3] TE (0, 0))
def Six (cb xb : Nat) (A1 A3 x0 x1 x2 x3 : Value) (X : World) : Prop :=
  X.cell? ⟨cb, 0, none⟩ = some A1 ∧ X.cell? ⟨cb, 2, none⟩ = some A3 ∧ X.cell? ⟨xb, 0, none⟩ = some x0 ∧ X.cell? ⟨xb, 1, none⟩ = some x1 ∧ X.cell? ⟨xb, 2, none⟩ = some x2 ∧ X.cell? ⟨xb, 3, none⟩ = some x3
section
variable {E TX TC TE : Nat} {wb wc wk wx : World} {XB cb xb : Nat} {L C v A1 A2 A3 x0 x1 x2 x3 v' : Value} {l l' : List (List Value)}
theorem Mid.below (h : Mid E TX TC TE wb wc wk XB cb xb L C v A1 A2 A3 x0 x1 x2 x3 l) (k : Below wk.heap.size wk wx) : Mid E TX TC TE wb wc wx XB cb xb L C v A1 A2 A3 x0 x1 x2 x3 l :=
  ⟨h.k.below k, (k.block _ (block_lt h.box)).trans h.box, h.own.kept0 (grownBy_below k), h.hc, (k.block _ (block_lt h.cfg)).trans h.cfg, h.hx, (k.block _ (block_lt h.el)).trans h.el⟩
theorem Mid.alloc (h : Mid E TX TC TE wb wc wk XB cb xb L C v A1 A2 A3 x0 x1 x2 x3 l) (o : Obj) : Mid E TX TC TE wb wc (wk.alloc o) XB cb xb L C v A1 A2 A3 x0 x1 x2 x3 l := h.below (boxed wk o)
theorem Mid.six (h : Mid E TX TC TE wb wc wk XB cb xb L C v A1 A2 A3 x0 x1 x2 x3 l) : Six cb xb A1 A3 x0 x1 x2 x3 wk := six_cells h.cfg h.el
theorem Mid.row (h : Mid E TX TC TE wb wc wk XB cb xb L C v A1 A2 A3 x0 x1 x2 x3 l) : wk.cell? ⟨XB, 1, none⟩ = some v := block_cell h.box 1
/-- Behind the append, ahead of the store: the box still has the row as it was. -/
structure Late (E TX TC TE : Nat) (wb wc wk : World) (XB cb xb : Nat) (L C v v' A1 A2 A3 x0 x1 x2 x3 : Value) (l' : List (List Value)) : Prop where
  k : But wb wc wk XB
  box : wk.heap[XB]? = some (.cells #[L, v, C] TX (0, 0))
  own : Own4 E wc.heap.size wk v' l'
  hc : cb < wc.heap.size ∧ cb ≠ XB
  cfg : wk.heap[cb]? = some (.cells #[A1, A2, A3] TC (0, 0))
  hx : xb ≠ XB
  el : wk.heap[xb]? = some (.cells #[x0, x1, x2, x3] TE (0, 0))
theorem Mid.late (h : Mid E TX TC TE wb wc wk XB cb xb L C v A1 A2 A3 x0 x1 x2 x3 l) (hW : wb.heap.size ≤ wc.heap.size) (hE : E ≠ TX) (hE' : E ≠ TE) (g : wk.grownBy wx v.ownBlock) (o : Own4 E wc.heap.size wx v' l') : Late E TX TC TE wb wc wx XB cb xb L C v v' A1 A2 A3 x0 x1 x2 x3 l' :=
  ⟨h.k.grown g fun k hk => ⟨Nat.le_trans hW (h.own.lt k hk).1, (h.own.lt k hk).1⟩, (g.block XB (block_lt h.box) (fun e => h.own.apart h.box hE e.symm)).trans h.box, o, h.hc,
   (g.block _ (block_lt h.cfg) (fun e => by have := (h.own.lt _ e.symm).1; have := h.hc.1; omega)).trans h.cfg, h.hx, (g.block _ (block_lt h.el) (fun e => h.own.apart h.el hE' e.symm)).trans h.el⟩
theorem Late.six (h : Late E TX TC TE wb wc wk XB cb xb L C v v' A1 A2 A3 x0 x1 x2 x3 l') : Six cb xb A1 A3 x0 x1 x2 x3 wk := six_cells h.cfg h.el
theorem Late.row (h : Late E TX TC TE wb wc wk XB cb xb L C v v' A1 A2 A3 x0 x1 x2 x3 l') : wk.cell? ⟨XB, 1, none⟩ = some v := block_cell h.box 1
theorem Late.free (h : Late E TX TC TE wb wc wk XB cb xb L C v v' A1 A2 A3 x0 x1 x2 x3 l') : wk.frozen? ⟨XB, 1, none⟩ = false := block_free h.box 1
theorem Late.put (h : Late E TX TC TE wb wc wk XB cb xb L C v v' A1 A2 A3 x0 x1 x2 x3 l') (hE : E ≠ TX) : Mid E TX TC TE wb wc (wk.setCell ⟨XB, 1, none⟩ v') XB cb xb L C v' A1 A2 A3 x0 x1 x2 x3 l' :=
  ⟨h.k.store 1 v', block_setCell h.box v', h.own.kept (grownBy_store _ _ _ _) (.inr (h.own.apart h.box hE)), h.hc, (Below.heap_setCell _ _ _ _ h.hc.2).trans h.cfg, h.hx, (Below.heap_setCell _ _ _ _ (show xb ≠ XB from h.hx)).trans h.el⟩
end

/-- Between two rounds. -/
structure Turn (E TX : Nat) (wb wc wr : World) (XB : Nat) (L C v : Value) (l : List (List Value)) : Prop where
  k : But wb wc wr XB
  box : wr.heap[XB]? = some (.cells #[L, v, C] TX (0, 0))
  own : Own4 E wc.heap.size wr v l
theorem Mid.turn {E TX TC TE : Nat} {wb wc wk : World} {XB cb xb : Nat} {L C v A1 A2 A3 x0 x1 x2 x3 : Value} {l : List (List Value)} (h : Mid E TX TC TE wb wc wk XB cb xb L C v A1 A2 A3 x0 x1 x2 x3 l) : Turn E TX wb wc wk XB L C v l := ⟨h.k, h.box, h.own⟩
/-- A round begins: the element is boxed. -/
theorem Turn.mid {E TX TC TE : Nat} {wb wc wr : World} {XB cb : Nat} {L C v A1 A2 A3 x0 x1 x2 x3 : Value} {l : List (List Value)} (h : Turn E TX wb wc wr XB L C v l) (hc : cb < wc.heap.size ∧ cb ≠ XB) (hcfg : wc.heap[cb]? = some (.cells #[A1, A2, A3] TC (0, 0))) :
    Mid E TX TC TE wb wc (wr.alloc (.cells #[x0, x1, x2, x3] TE)) XB cb wr.heap.size L C v A1 A2 A3 x0 x1 x2 x3 l :=
  ⟨h.k.below (boxed _ _), kept_alloc h.box, h.own.alloc _, hc, kept_alloc ((h.k.K _ hc.1 hc.2).trans hcfg), by have := block_lt h.box; omega, one_alloc _ _⟩

/-- The box XB has a copy of texts, no list, and a copy of clusters: all new since W. -/
structure Lists (TX : Nat) (W wx : World) (XB : Nat) (la ca : Option Addr) (lc cc : Nat) (ls : List ByteArray) (ds cs : List Cl) (hs : List (List Bool)) : Prop where
  B : Below W.heap.size W wx
  hb : W.heap.size ≤ XB
  box : wx.heap[XB]? = some (.cells #[.slice la ls.length lc, .slice none 0 0, .slice ca ds.length cc] TX (0, 0))
  own : Own 9 W.heap.size wx (.slice la ls.length lc) (ls.map Value.string)
  own4 : Own4 46 W.heap.size wx (.slice ca ds.length cc) (ds.map Cl.cells)
  health : HealthIn wx wx.heap.size ds hs
  alike : Alike ds cs
  far : ∀ x ∈ ds, Anew W.heap.size x.ha
  hx : ∀ x ∈ ds, 0 < x.hn → ∀ ad, x.ha = some ad → ad.block ≠ XB
theorem Own.base {E b b' : Nat} {w : World} {v : Value} {xs : List Value} (h : Own E b w v xs) (hb : b' ≤ b) : Own E b' w v xs := ownsRow_less h hb
theorem Own4.le {E base : Nat} {w : World} {A : Option Addr} {n c : Nat} {xs : List (List Value)} (h : Own4 E base w (.slice A n c) xs) : n ≤ c ∧ c ≤ maxLen := by
  obtain ⟨_, _, h⟩ := h
  rcases h with ⟨hv, h0⟩ | ⟨g, cap, cur, hv, _, hh, h1, h2, _⟩
  · cases hv
    exact ⟨by omega, by simp [maxLen]⟩
  · cases hv
    exact ⟨h1, h2⟩
theorem Own4.base {E b b' : Nat} {w : World} {v : Value} {xs : List (List Value)} (h : Own4 E b w v xs) (hb : b' ≤ b) : Own4 E b' w v xs := ⟨h.1, ownsRow_less h.2 hb⟩
section
variable {TX : Nat} {W w3 w4 wx : World} {XB : Nat} {la ca : Option Addr} {lc cc : Nat} {ls : List ByteArray} {ds cs : List Cl} {hs : List (List Bool)}
/-- The box was made ahead of the copy of the clusters. -/
theorem two_put (B : Below W.heap.size W w3) (hb : W.heap.size ≤ XB) (hX : XB < w3.heap.size) (box : w4.heap[XB]? = some (.cells #[.slice none 0 0, .slice none 0 0, .slice none 0 0] TX (0, 0))) (h1 : 9 ≠ TX) (h2 : 46 ≠ TX)
    (own : Own 9 W.heap.size w3 (.slice la ls.length lc) (ls.map Value.string)) (own4 : Own4 46 w3.heap.size w4 (.slice ca ds.length cc) (ds.map Cl.cells)) (health : HealthIn w4 w4.heap.size ds hs) (alike : Alike ds cs)
    (far : ∀ x ∈ ds, Anew w3.heap.size x.ha) (kk : Below w3.heap.size w3 w4) :
    Lists TX W (((w4.setCell ⟨XB, 0, none⟩ (.slice la ls.length lc)).setCell ⟨XB, 1, none⟩ (.slice none 0 0)).setCell ⟨XB, 2, none⟩ (.slice ca ds.length cc)) XB la ca lc cc ls ds cs hs := by
  have o1 := own.kept0 (grownBy_below kk)
  have o2 := own4.base B.size
  have step : ∀ {Y : World} {i : Nat} {u x y z : Value}, Y.heap.size = w4.heap.size → Y.heap[XB]? = some (.cells #[x, y, z] TX (0, 0)) → HealthIn Y w4.heap.size ds hs → HealthIn (Y.setCell ⟨XB, i, none⟩ u) w4.heap.size ds hs := fun {Y i u x y z} hz hb' h => by
    refine ⟨h.len, fun j hj hj' => ⟨(h.at_ j hj hj').1, fun hn => ?_⟩⟩
    obtain ⟨ad, e, hb, hc⟩ := (h.at_ j hj hj').2 hn
    exact ⟨ad, e, hb, fun k v hv => (World.cell?_of_block (Below.heap_setCell _ _ _ _ (by rw [block_of_add]; have := far _ (List.getElem_mem hj) ad e; show ad.block ≠ XB; omega))).trans (hc k v hv)⟩
  have z : ∀ (Y : World) (i : Nat) (u : Value), (Y.setCell ⟨XB, i, none⟩ u).heap.size = Y.heap.size := fun Y i u => by simp [World.setCell]
  have b1 := block_setCell (o := 0) box (.slice la ls.length lc)
  have b2 := block_setCell (o := 1) b1 (.slice none 0 0)
  have b3 := block_setCell (o := 2) b2 (.slice ca ds.length cc)
  refine ⟨(((below_next B kk).setCell (p := ⟨XB, 0, none⟩) hb _).setCell (p := ⟨XB, 1, none⟩) hb _).setCell (p := ⟨XB, 2, none⟩) hb _, hb, b3, ?_, ?_, ?_, alike, fun x hx ad e => Nat.le_trans B.size (far x hx ad e), fun x hx _ ad e => by have := far x hx ad e; omega⟩
  · exact ((o1.kept (grownBy_store _ _ _ _) (.inr (own_apart (P := Try.prog) o1 box h1))).kept (grownBy_store _ _ _ _) (.inr (own_apart (P := Try.prog) o1 box h1))).kept (grownBy_store _ _ _ _) (.inr (own_apart (P := Try.prog) o1 box h1))
  · exact ((o2.kept (grownBy_store _ _ _ _) (.inr (o2.apart box h2))).kept (grownBy_store _ _ _ _) (.inr (o2.apart box h2))).kept (grownBy_store _ _ _ _) (.inr (o2.apart box h2))
  · rw [z, z, z]
    exact step (by rw [z, z]) b2 (step (by rw [z]) b1 (step rfl box health))
/-- It was made behind both copies. -/
theorem two_new (B : Below W.heap.size W w3) (own : Own 9 W.heap.size w3 (.slice la ls.length lc) (ls.map Value.string)) (own4 : Own4 46 w3.heap.size w4 (.slice ca ds.length cc) (ds.map Cl.cells)) (health : HealthIn w4 w4.heap.size ds hs) (alike : Alike ds cs)
    (far : ∀ x ∈ ds, Anew w3.heap.size x.ha) (kk : Below w3.heap.size w3 w4) :
    Lists TX W (w4.alloc (.cells #[.slice la ls.length lc, .slice none 0 0, .slice ca ds.length cc] TX)) w4.heap.size la ca lc cc ls ds cs hs :=
  have b4 := boxed w4 (.cells #[.slice la ls.length lc, .slice none 0 0, .slice ca ds.length cc] TX)
  ⟨below_next (below_next B kk) b4, (below_next B kk).size, one_alloc _ _, (own.kept0 (grownBy_below kk)).alloc _, (own4.base B.size).alloc _, (health.below b4).more b4.size, alike, fun x hx ad e => Nat.le_trans B.size (far x hx ad e), fun x hx hn ad e => by
    obtain ⟨i, hi, rfl⟩ := List.getElem_of_mem hx
    have hi' : i < hs.length := by rw [health.len]; exact hi
    obtain ⟨h1, h2⟩ := health.at_ i hi hi'
    obtain ⟨ad', e', hb, _⟩ := h2 (by rw [List.length_map, h1]; exact hn)
    rw [e] at e'
    cases e'
    omega⟩
/-- The loop begins. -/
theorem Lists.turn (h : Lists TX W wx XB la ca lc cc ls ds cs hs) (E : Nat) : Turn E TX W wx wx XB (.slice la ls.length lc) (.slice ca ds.length cc) (.slice none 0 0) [] := ⟨⟨h.B, fun _ _ _ => rfl, Nat.le_refl _, h.hb⟩, h.box, Own4.nil⟩
variable {wr : World} (h : Lists TX W wx XB la ca lc cc ls ds cs hs) (k : But W wx wr XB) (h1 : 9 ≠ TX) (h2 : 46 ≠ TX)
include h k
/-- The copies are still there behind it. -/
theorem Lists.texts (h1 : 9 ≠ TX) : Reads wr wr.heap.size la (ls.map Value.string) := k.reads h.own.reads fun _ ad e hb => by
  subst e
  exact own_apart (P := Try.prog) h.own h.box h1 (by rw [← hb]; rfl)
theorem Lists.clusters (h2 : 46 ≠ TX) : Rows4 wr wr.heap.size ca (ds.map Cl.cells) := k.rows4 h.own4.rows fun _ ad e hb => by
  subst e
  exact h.own4.apart h.box h2 (by rw [← hb]; rfl)
theorem Lists.healths : HealthIn wr wr.heap.size ds hs := k.health h.health h.hx
end
end Go.Proofs.Ytknjdaokidcllaa
