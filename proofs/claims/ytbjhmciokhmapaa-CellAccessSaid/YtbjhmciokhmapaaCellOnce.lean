/- CellOnce: the walk. -/
import Derived.Test.YtbjhmciokhmapaaSame2
import Derived.Test.YtbjhmciokhmapaaCellCas
import Derived.Test.YtbjhmciokhmapaaOwn
namespace Go.Proofs.Ytbjhmciokhmapaa
open Go.RowKit
set_option linter.unusedVariables false
set_option linter.unusedSimpArgs false
set_option maxRecDepth 100000

theorem int_info : (Try.prog.info? 3).map (fun i => (i.zero, i.size, i.bytes)) = some (some (.int .i64 0), 1, 8) := by kernel_rfl

/-- A cell of numbers in block B, and a row of numbers of the call's own that shares no block with it, both made since w. -/
def CellOut (w wi : World) (B : Nat) (v n : Int) (out : Value) (xs : List Int) : Prop :=
  w.heap.size ≤ B ∧ CellI wi B v n ∧ w.grownBy wi none ∧ Own 3 w.heap.size wi out (xs.map (Value.int .i64)) ∧
    ∀ p m, wi.heap[B]? = some (.cells #[.pointer (some ⟨p, 0, none⟩), m] 55 (0, 0)) → out.ownBlock ≠ some p

theorem CellOut.neB {w wi : World} {B : Nat} {v n : Int} {out : Value} {xs : List Int} (h : CellOut w wi B v n out xs) : out.ownBlock ≠ some B := by
  obtain ⟨p, h1, _⟩ := h.2.1
  exact h.2.2.2.1.ne_two h1 (by decide)

theorem CellOut.go {w wi wj : World} {B : Nat} {v n v' n' : Int} {out : Value} {xs : List Int} {r : Value} {e : Ending} (h : CellOut w wi B v n out xs) (k : CellI wj B v' n') (g : wi.grownBy wj (some B)) (m : Moves 55 wi B wj) :
    CellOut w wj B v' n' out xs := by
  refine ⟨h.1, k, grownBy_over h.2.2.1 g h.1, h.2.2.2.1.kept g (Or.inr h.neB), fun p c hp => ?_⟩
  rcases m p c hp with hn | ⟨c', hc⟩
  · intro e
    have := (h.2.2.2.1.lt p e).2
    omega
  · exact h.2.2.2.2 p c' hc

theorem CellOut.app {w wi wj : World} {B : Nat} {v n : Int} {out out' : Value} {xs ys : List Int} (h : CellOut w wi B v n out xs) (ho : Own 3 w.heap.size wj out' (ys.map (Value.int .i64))) (g : wi.grownBy wj out.ownBlock)
    (hb : out'.ownBlock = out.ownBlock ∨ ∃ k, out'.ownBlock = some k ∧ wi.heap.size ≤ k) : CellOut w wj B v n out' ys := by
  have hB := h.neB
  obtain ⟨h1, ⟨p, k1, k2⟩, h3, h4, h5⟩ := h
  have hp := h5 p _ k1
  have hkB : wj.heap[B]? = wi.heap[B]? := g.block B (block_lt k1) (Ne.symm hB)
  have hg : w.grownBy wj none := by
    rcases ho' : out.ownBlock with _ | k
    · rw [ho'] at g; exact grownBy_trans h3 g
    · rw [ho'] at g; exact grownBy_over h3 g (h4.lt k ho').1
  refine ⟨h1, ⟨p, by rw [hkB]; exact k1, by rw [g.block p (block_lt k2) (Ne.symm hp)]; exact k2⟩, hg, ho, fun q c hq => ?_⟩
  rw [hkB] at hq
  rcases hb with hb | ⟨k, hb, hk⟩
  · rw [hb]; exact h5 q c hq
  · rw [hb]
    have hqp : q = p := by
      have e := hq.symm.trans k1
      simp at e
      exact e.1
    subst hqp
    have := block_lt k2
    intro e
    injection e with e
    omega
theorem CellOut.grown {w wi wj : World} {B : Nat} {v n : Int} {out : Value} {xs : List Int} (h : CellOut w wi B v n out xs) (g : wi.grownBy wj none) : CellOut w wj B v n out xs := by
  obtain ⟨h1, h2, h3, h4, h5⟩ := h
  refine ⟨h1, h2.grown0 g, grownBy_trans h3 g, h4.kept0 g, fun q c hq => ?_⟩
  rw [g.block B h2.lt (by simp)] at hq
  exact h5 q c hq

def OnceAt (w : World) (B : Nat) (v : Int) (xs : List Int) (out i : Value) (wr : World) : Prop :=
  ∃ k : Nat, k ≤ xs.length ∧ i = .int .i64 k ∧ CellOut w wr B ((v :: xs).getD k 0) k out ((v :: xs).take k)

theorem once_next (v : Int) (xs : List Int) (k : Nat) (h : k < xs.length) : (v :: xs).getD (k + 1) 0 = xs[k] ∧ (v :: xs).take (k + 1) = (v :: xs).take k ++ [(v :: xs).getD k 0] := by
  refine ⟨by simp [h], ?_⟩
  rw [List.take_succ_eq_append_getElem (by simp; omega)]
  congr 2
  rw [List.getD_eq_getElem?_getD, List.getElem?_eq_getElem (by simp; omega)]
  rfl

theorem cellOnce_long (v : Int) (A : Option Addr) (n c : Nat) (w : World) (h : 1000 < n) (hn : n ≤ maxLen) :
    Calls Try.prog 5 #[.int .i64 v, .slice A n c] w (Says w true) := by
  unfold maxLen at hn
  go_enter Try.func5, Try.ntmps5
  go_wp2_with fail
  go_ret
  exact ⟨rfl, World.grownBy.refl _ _⟩

theorem cellOnce_short (v : Int) (A : Option Addr) (c : Nat) (xs : List Int) (w : World) (h : xs.length ≤ 1000)
    (hx : Hid (Reads w w.heap.size A (xs.map (Value.int .i64)))) :
    Calls Try.prog 5 #[.int .i64 v, .slice A xs.length c] w (Says w true) := by
  obtain ⟨i0, hi0, hz0, hz1, hz2⟩ := info_parts int_info
  have HI := Lib.hid hi0
  have HZ0 := Lib.hid hz0
  have HZ1 := Lib.hid hz1
  have HZ2 := Lib.hid hz2
  clear hi0 hz0 hz1 hz2
  go_enter Try.func5, Try.ntmps5
  go_wp2_with fail
  refine (newI _ _).mono ?_
  rintro e w1 ⟨B, hB, rfl, hc1, hg1⟩
  have hc1' : CellI (w1.alloc (.cells #[] 3)) B v 0 := hc1.grown0 (World.grownBy_alloc _ _ _)
  have S : CellOut w (w1.alloc (.cells #[] 3)) B v 0 (.slice (some ⟨w1.heap.size, 0, none⟩) 0 0) [] := by
    refine ⟨hB, hc1', grownBy_trans hg1 (World.grownBy_alloc _ _ _), Own.empty hg1.size, fun p m hp => ?_⟩
    have e : p < w1.heap.size := by
      obtain ⟨q, k1, k2⟩ := hc1
      have hb := Below.heap_alloc w1 (.cells #[] 3) B (block_lt k1)
      rw [hb] at hp
      have e := hp.symm.trans k1
      simp at e
      have := block_lt k2
      rw [e.1]
      exact this
    simp [Value.ownBlock]
    omega
  clear hc1 hc1' hg1
  go_wp2_with fail
  go_loopw [6, 7] (fun out i wr => OnceAt w B v xs out i wr) (fun _ i _ => (1000 - intOf i).toNat)
  case atStart => exact ⟨0, by omega, rfl, S⟩
  case round =>
    obtain ⟨k, hk, rfl, S⟩ := hrel
    by_cases hl : k < xs.length
    · obtain ⟨ad, rfl, hadB, hc0⟩ := hx.out.int hl
      obtain ⟨n1, n2⟩ := once_next v xs k hl
      have N1 := Lib.hid n1
      have N2 := Lib.hid n2
      clear n1 n2
      generalize xs[k] = z at hc0 N1
      generalize (v :: xs).getD k 0 = X at S N2
      generalize hys : (v :: xs).take k = ys at S N2
      have hyl : ys.length ≤ 1000 := by rw [← hys, List.length_take]; omega
      clear hys
      have HC0 := Lib.hid hc0
      clear hc0
      have hc := S.2.2.1.cell HC0.out (by simp)
      go_wp2_with fail
      refine (swapI' _ _ _ _ _ S.2.1 (by omega) (by omega)).mono ?_
      rintro e w3 ⟨⟨rfl, kk, g⟩, m⟩
      have S3 := S.go (e := .returned (.int .i64 X)) (r := .int .i64 X) kk g m
      clear S kk g m hc
      go_wp2_with (at_builtin; refine wpList_append_one rfl (.tmp 21) (.tmp 28) 22 rfl i0 (.int .i64 0) 8 Try.underlying22 HI.out HZ0.out HZ1.out HZ2.out rfl rfl _ (.int .i64 X) rfl S3.2.2.2.1 rfl (by simp [maxLen]; omega) (by simp; omega) S3.2.2.1.size ?_; intro out' w4 ho hg hb)
      have S4 := S3.app (ys := ys ++ [X]) (by simpa using ho) hg hb
      clear ho hg hb S3
      go_wp2_with fail
      go_roundw
      case rel => exact ⟨k + 1, by omega, by go_num, by rw [N1.out, N2.out]; exact S4⟩
      case measure => simp [intOf]; omega
    · obtain rfl : k = xs.length := by omega
      have hall : (v :: xs).take xs.length ++ [(v :: xs).getD xs.length 0] = v :: xs := by
        rw [List.getD_eq_getElem?_getD, List.getElem?_eq_getElem (by simp), Option.getD_some]
        have := List.take_succ_eq_append_getElem (l := v :: xs) (i := xs.length) (by simp)
        rw [← this, List.take_of_length_le (by simp)]
      have HA := Lib.hid hall
      clear hall
      generalize (v :: xs).getD xs.length 0 = X at S HA
      generalize hys : (v :: xs).take xs.length = ys at S HA
      have hyl : ys.length ≤ 1000 := by rw [← hys, List.length_take]; omega
      clear hys
      go_wp2_with fail
      refine (loadI' _ _ _ _ S.2.1 (by omega) (by omega)).mono ?_
      rintro e w3 ⟨⟨rfl, kk, g⟩, m⟩
      have S3 := S.go (e := .returned (.int .i64 X)) (r := .int .i64 X) kk g m
      clear S kk g m
      go_wp2_with (first
        | (at_builtin
           refine wpList_append_one rfl (.tmp 30) (.tmp 33) 22 rfl i0 (.int .i64 0) 8 Try.underlying22 HI.out HZ0.out HZ1.out HZ2.out rfl rfl _ (.int .i64 X) rfl S3.2.2.2.1 rfl (by simp [maxLen]; omega) (by simp; omega) S3.2.2.1.size ?_
           intro out' w4 ho hg hb
           have S4 := S3.app (ys := ys ++ [X]) (by simpa using ho) hg hb
           clear ho hg hb S3
           rw [HA.out] at S4
           have g4 := S4.2.2.1
           have o4 := S4.2.2.2.1
           clear S4
           have hne : ∀ p, out'.ownBlock = some p → p ≠ w4.heap.size := fun p hp => by have := (o4.lt p hp).2; omega
           have HN := Lib.hid hne
           clear hne
           have r4 := Lib.hid (hx.out.below (below_grownBy g4 (Nat.le_refl _) (fun _ h => by cases h)))
           have b5 : Own 3 w.heap.size (w4.alloc (.cells #[.int .i64 v] 3)) (.slice (some ⟨w4.heap.size, 0, none⟩) 1 1) [.int .i64 v] := Own.one g4.size _
           have r5 := Lib.hid (r4.out.below (below_grownBy (World.grownBy_alloc w4 (.cells #[.int .i64 v] 3) none) g4.size (fun _ h => by cases h))))
        | (at_builtin
           refine wpList_append_all rfl (.tmp 37) (.tmp 38) 22 rfl i0 (.int .i64 0) 8 Try.underlying22 HI.out HZ0.out HZ1.out HZ2.out rfl rfl _ b5 (by simp; rfl) r5.out (by simp [Value.oneCell']) (by simp [maxLen]; omega) (by simp; omega) (Nat.le_trans g4.size (by simp)) ?_
           intro in' w5 hin hg hb))
      have hne := HN.out
      have hg' : (w4.alloc (.cells #[.int .i64 v] 3)).grownBy w5 (some w4.heap.size) := hg
      clear hg
      have hg := hg'
      clear hg'
      have o5 : Own 3 w.heap.size w5 out' ((v :: xs).map (Value.int .i64)) := (o4.alloc _).kept hg (by
        rcases ho' : out'.ownBlock with _ | p
        · exact .inl rfl
        · right
          have := hne p ho'
          simpa using this)
      have g5 : w.grownBy w5 none := grownBy_over (grownBy_trans g4 (World.grownBy_alloc w4 _ none)) hg g4.size
      have i5 : Own 3 w.heap.size w5 in' ((v :: xs).map (Value.int .i64)) := by simpa using hin
      clear hg hb hin b5 r4 r5 hne HN o4 g4
      go_wp2_with fail
      refine (held_is _).mono ?_
      rintro e w6 ⟨rfl, g⟩
      have o6 := o5.kept0 g
      have i6 := i5.kept0 g
      have g6 := grownBy_trans g5 g
      clear o5 i5 g5 g
      obtain ⟨Ao, co, ho⟩ := o6.slice
      obtain ⟨Ai, ci, hi⟩ := i6.slice
      subst ho
      subst hi
      have ro := Lib.hid o6.reads
      have ri := Lib.hid i6.reads
      clear o6 i6
      simp only [List.length_map]
      go_wp2_with fail
      refine (same2_yes _ _ _ _ (v :: xs) _ (by simp [maxLen]; omega) ri ro).mono ?_
      rintro e w7 ⟨rfl, g⟩
      have g7 := grownBy_trans g6 g
      go_wp2_with fail
      go_ret
      exact ⟨rfl, g7⟩

theorem cellOnce_walk (v : Int) (A : Option Addr) (c : Nat) (xs : List Int) (w : World) (w0 : (Lit.int .i64 v).wf = true) (hx : IntsIn .i64 w A c xs) :
    Calls Try.prog 5 #[.int .i64 v, .slice A xs.length c] w fun e w' => e = .returned (.bool true) ∧ Below w.heap.size w w' := by
  by_cases h : 1000 < xs.length
  · exact (cellOnce_long v A xs.length c w h (Nat.le_trans hx.2.1 hx.2.2.1)).mono fun _ _ h => says_below h
  · exact (cellOnce_short v A c xs w (by omega) (Lib.hid hx.1)).mono fun _ _ h => says_below h
end Go.Proofs.Ytbjhmciokhmapaa
