/- names.each: the parts of a text, told one by one. -/
import Derived.RangeFuncNested
import Derived.RangeFuncBound
import Derived.RangeFuncCalls
import Derived.RangeFuncLeaves
import Derived.Shelf.Abstract
import Derived.Shelf.RegionOpen
import Derived.WalkKit
import Derived.OwnWalkIn
import Derived.TacticsInMore
import Derived.LoopNIn
import Derived.LoopIn
import Derived.Test.YtmjdamcbdclgpaaNparts
import Derived.Test.YtmjdamcbdclgpaaRows
namespace Go.Proofs.Ytmjdamcbdclgpaa
open Go.RowKit Go.Shelf
attribute [local go_sem] Oper.semAt_some
set_option linter.unusedVariables false
set_option linter.unusedSimpArgs false
set_option maxRecDepth 100000

/-- The two boxes that the told function reads. -/
def boxes (w : World) (s : ByteArray) (b : Int) : World := (w.alloc (.cells #[.string s] 9)).alloc (.cells #[.int .u8 b] 5)

/-- What a round must keep: these two boxes. -/
def Two (B : Nat) (W W' : World) : Prop := W'.cell? ⟨B, 0, none⟩ = W.cell? ⟨B, 0, none⟩ ∧ W'.cell? ⟨B + 1, 0, none⟩ = W.cell? ⟨B + 1, 0, none⟩
theorem Two.refl (B : Nat) (W : World) : Two B W W := ⟨rfl, rfl⟩
theorem Two.trans {B : Nat} {X Y Z : World} (h : Two B X Y) (k : Two B Y Z) : Two B X Z := ⟨k.1.trans h.1, k.2.trans h.2⟩
theorem Two.below {B n : Nat} {W W' : World} (h : Below n W W') (hB : B + 2 ≤ n) : Two B W W' := ⟨h.cell (p := ⟨B, 0, none⟩) (by simp; omega), h.cell (p := ⟨B + 1, 0, none⟩) (by simp; omega)⟩
theorem Two.putObj {B : Nat} {w : World} (hB : B + 2 ≤ w.heap.size) (W : World) (l : Nat) (o o' : Obj) (hl : w.heap.size ≤ l) (h : W.heap[l]? = some o) (h1 : o.isCells = false) (h2 : o.isWalk = false) : Two B W (W.putObj l o') :=
  Two.below (belowK_b (w := w) (n₀ := w.heap.size) (Nat.le_refl _) W l o o' hl h h1 h2) hB

theorem each_in (F : Fence) (n : Nat) (hf : F.fn 83) (hro : F.round = none) (s : ByteArray) (b : Int) (w : World) :
    CallsIn F n Try.prog 83 #[.string s, .int .u8 b] w fun e w' => e = .returned (.func (.func 85) #[] #[.pointer (some ⟨w.heap.size, 0, none⟩), .pointer (some ⟨w.heap.size + 1, 0, none⟩)]) ∧ w' = boxes w s b := by
  refine callsIn_of_wp Try.func83 rfl hf ?_ hro
  simp only [Try.ntmps83, List.size_toArray, List.length_cons, List.length_nil, Nat.reduceAdd, Nat.reduceSub, Array.replicate_succ, Array.replicate_zero, List.push_toArray, List.append_toArray, List.nil_append, List.cons_append]
  gi_wp2
  go_ret
  exact ⟨rfl, rfl⟩

set_option maxHeartbeats 2000000 in
/-- The told function: for every loop body that keeps the two boxes. -/
theorem each1_in (F : Fence) (n : Nat) (hf : F.fn 85) (hro : F.round = none) (hn : 1 ≤ n) (l Bs : Nat) (s : ByteArray) (b : Int) (hs : s.size ≤ maxLen) (J Jx : List ByteArray → World → Prop)
    (hJ : ∀ pre A B, J pre A → A.grownBy B none → J pre B)
    (hY : ∀ pre x W, J pre W → pre.length < (partsB s b).length → YieldAt F (n - 1) Try.prog l #[.string x] W fun e W' =>
      (e = .returned (.bool true) ∧ J (pre ++ [x]) W' ∧ Two Bs W W') ∨ (e = .returned (.bool false) ∧ Jx (pre ++ [x]) W'))
    (W : World) (h1 : W.cell? ⟨Bs, 0, none⟩ = some (.string s)) (h2 : W.cell? ⟨Bs + 1, 0, none⟩ = some (.int .u8 b)) (h0 : J [] W) :
    CallsIn F n Try.prog 85 #[.func (.yield l) #[] #[], .pointer (some ⟨Bs, 0, none⟩), .pointer (some ⟨Bs + 1, 0, none⟩)] W fun e W' => (∃ v, e = .returned v) ∧
      ((∃ ys, ys = partsB s b ∧ J ys W') ∨ (∃ pre, pre <+: partsB s b ∧ Jx pre W')) := by
  unfold maxLen at hs
  refine callsIn_of_wp Try.func85 rfl hf ?_ hro
  simp only [Try.ntmps85, List.size_toArray, List.length_cons, List.length_nil, Nat.reduceAdd, Nat.reduceSub, Array.replicate_succ, Array.replicate_zero, List.push_toArray, List.append_toArray, List.nil_append, List.cons_append]
  gi_wp2
  gi_loopw [4, 8] (fun at_ i wr => ∃ k : Nat, k ≤ s.size ∧ i = .int .i64 k ∧ at_ = .int .i64 (cuts s b k).2 ∧ J (cuts s b k).1 wr ∧ Two Bs W wr)
    (fun _ i _ => s.size - (intOf i).toNat)
  case atStart => exact ⟨0, Nat.zero_le _, rfl, rfl, h0, Two.refl _ _⟩
  case round =>
    obtain ⟨k, hk, rfl, rfl, hJs, hnx⟩ := hrel
    have c1 := hnx.1.trans h1
    have c2 := hnx.2.trans h2
    have hat := cuts_at s b k
    by_cases hlt : k < s.size
    · have hp1 := cuts_lt s b (k := k) hk
      by_cases hb : (s[k].toNat : Int) = b
      · have hn1 := cuts_hit hlt hb
        have HN := Lib.hid hn1
        have hp2 := cuts_parts s b (k := k + 1) (by omega)
        rw [hn1] at hp2
        have t1 : ((s[k].toNat : Int) != b) = false := by simp [hb]
        clear hb hn1
        gi_wp2
        gi_region
        all_goals
          obtain ⟨fn, tmps, assign, body, hy, hR⟩ := hY _ (s.extract (cuts s b k).2 k) wr.drew (hJ _ _ _ hJs ⟨rfl, rfl, rfl, Nat.le_refl _, fun _ _ _ => rfl⟩) hp1
          have hnd : Two Bs W wr.drew := hnx
          gi_wp2
          refine hR.mono ?_
          rintro e W3 (⟨rfl, hJ3, hk3⟩ | ⟨rfl, hJx3⟩)
          · gi_wp2
            go_roundw
            case rel => exact ⟨k + 1, by omega, by go_num, by rw [HN.out]; go_num, by rw [HN.out]; exact hJ3, hnd.trans hk3⟩
            case measure => simp [intOf]; omega
          · gi_wp2
            refine bodyPost_ret (results_none rfl _ _ _) rfl ?_
            exact ⟨⟨_, rfl⟩, .inr ⟨_, hp2, hJx3⟩⟩
      · have hn1 := cuts_miss hlt hb
        have HN := Lib.hid hn1
        have t1 : ((s[k].toNat : Int) != b) = true := by rw [bne_iff_ne]; exact hb
        clear hb hn1
        gi_wp2
        gi_region
        all_goals
          have hnd : Two Bs W wr.drew := hnx
          have hJd := hJ _ _ wr.drew hJs ⟨rfl, rfl, rfl, Nat.le_refl _, fun _ _ _ => rfl⟩
          gi_wp2
          go_roundw
          case rel => exact ⟨k + 1, by omega, by go_num, by rw [HN.out], by rw [HN.out]; exact hJd, hnd⟩
          case measure => simp [intOf]; omega
    · obtain rfl : k = s.size := by omega
      obtain ⟨fn, tmps, assign, body, hy, hR⟩ := hY _ (s.extract (cuts s b s.size).2 s.size) wr hJs (cuts_lt s b (Nat.le_refl _))
      gi_wp2
      refine hR.mono ?_
      rintro e W3 (⟨rfl, hJ3, hk3⟩ | ⟨rfl, hJx3⟩)
      · gi_wp2
        go_end0
        exact ⟨⟨_, rfl⟩, .inl ⟨_, rfl, hJ3⟩⟩
      · gi_wp2
        go_end0
        exact ⟨⟨_, rfl⟩, .inr ⟨_, List.prefix_refl _, hJx3⟩⟩

/-- What names.each hands back tells all parts, in their order; or some of them, where a round has said 'no more'. -/
theorem each_stops (F : Fence) (n : Nat) (hf : F.fn 85) (hro : F.round = none) (hn : 1 ≤ n) (s : ByteArray) (b : Int) (hs : s.size ≤ maxLen) (w : World) :
    SeqStopsK F n Try.prog 85 #[.pointer (some ⟨w.heap.size, 0, none⟩), .pointer (some ⟨w.heap.size + 1, 0, none⟩)] (fun x : ByteArray => #[Value.string x]) (Two w.heap.size) (fun ys => ys = partsB s b) (fun pre => pre <+: partsB s b) (partsB s b).length (boxes w s b) := fun l J Jx W hW hJ _ hY h0 => by
  have hz : (boxes w s b).heap.size = w.heap.size + 2 := by simp [boxes]
  have b1 : (boxes w s b).cell? ⟨w.heap.size, 0, none⟩ = some (.string s) := by
    have := (Boxed.new w 9 (.string s)).alloc (.cells #[.int .u8 b] 5)
    exact this.cell
  have b2 : (boxes w s b).cell? ⟨w.heap.size + 1, 0, none⟩ = some (.int .u8 b) := by
    have := Boxed.new (w.alloc (.cells #[.string s] 9)) 5 (.int .u8 b)
    rw [World.size_alloc] at this
    exact this.cell
  exact each1_in F n hf hro hn l w.heap.size s b hs J Jx (fun pre A B hj hg => hJ pre A B none hj hg (fun r e => by cases e)) hY W
    ((hW.cell (p := ⟨w.heap.size, 0, none⟩) (by simp [hz])).trans b1) ((hW.cell (p := ⟨w.heap.size + 1, 0, none⟩) (by simp [hz])).trans b2) h0
end Go.Proofs.Ytmjdamcbdclgpaa
