/- routes.fitting: the rules that fit, told one by one. -/
import Derived.RangeFuncNested
import Derived.RangeFuncBound
import Derived.RangeFuncCalls
import Derived.RangeFuncLeaves
import Derived.Shelf.Abstract
import Derived.Shelf.RegionOpen
import Derived.WalkKit
import Derived.OwnWalkIn
import Derived.TacticsInMore
import Derived.LoopNIn
import Derived.LoopIn
import Derived.Test.YtknjdaokidcllaaRfit
import Derived.Test.YtknjdaokidcllaaRows
namespace Go.Proofs.Ytknjdaokidcllaa
open Go.RowKit Go.Shelf
attribute [local go_sem] Oper.semAt_some
set_option linter.unusedVariables false
set_option linter.unusedSimpArgs false
set_option maxRecDepth 100000

/-- The four boxes that the told function reads. -/
def boxes4 (w : World) (A : Option Addr) (n c : Nat) (li : Int) (h p : ByteArray) : World :=
  (((w.alloc (.cells #[.slice A n c] 28)).alloc (.cells #[.int .i64 li] 3)).alloc (.cells #[.string h] 9)).alloc (.cells #[.string p] 9)

/-- What a round must keep: the rules, that lie below B0, and these four boxes. -/
structure Kept (B0 Bs : Nat) (W W' : World) : Prop where
  size : W.heap.size ≤ W'.heap.size
  same : ∀ p : Addr, p.block < B0 ∨ (Bs ≤ p.block ∧ p.block < Bs + 4) → W'.cell? p = W.cell? p
theorem Kept.refl (B0 Bs : Nat) (W : World) : Kept B0 Bs W W := ⟨Nat.le_refl _, fun _ _ => rfl⟩
theorem Kept.trans {B0 Bs : Nat} {X Y Z : World} (h : Kept B0 Bs X Y) (k : Kept B0 Bs Y Z) : Kept B0 Bs X Z := ⟨Nat.le_trans h.size k.size, fun p hp => (k.same p hp).trans (h.same p hp)⟩
theorem Kept.below {B0 Bs n : Nat} {W W' : World} (h : Below n W W') (hB : B0 ≤ n) (hs : Bs + 4 ≤ n) : Kept B0 Bs W W' := ⟨h.size, fun p hp => h.cell (by omega)⟩
theorem Kept.putObj {B0 Bs : Nat} {w : World} (hB : B0 ≤ w.heap.size) (hs : Bs + 4 ≤ w.heap.size) (W : World) (l : Nat) (o o' : Obj) (hl : w.heap.size ≤ l) (h : W.heap[l]? = some o) (h1 : o.isCells = false) (h2 : o.isWalk = false) : Kept B0 Bs W (W.putObj l o') :=
  Kept.below (belowK_b (w := w) (n₀ := w.heap.size) (Nat.le_refl _) W l o o' hl h h1 h2) hB hs

theorem fitting_in (n : Nat) (A : Option Addr) (len c : Nat) (li : Int) (h p : ByteArray) (w : World) :
    CallsIn Fence.wide n Try.prog 56 #[.slice A len c, .int .i64 li, .string h, .string p] w fun e w' =>
      e = .returned (.func (.func 69) #[] #[.pointer (some ⟨w.heap.size, 0, none⟩), .pointer (some ⟨w.heap.size + 1, 0, none⟩), .pointer (some ⟨w.heap.size + 2, 0, none⟩), .pointer (some ⟨w.heap.size + 3, 0, none⟩)]) ∧ w' = boxes4 w A len c li h p := by
  refine callsIn_of_wp Try.func56 rfl trivial ?_ rfl
  simp only [Try.ntmps56, List.size_toArray, List.length_cons, List.length_nil, Nat.reduceAdd, Nat.reduceSub, Array.replicate_succ, Array.replicate_zero, List.push_toArray, List.append_toArray, List.nil_append, List.cons_append]
  gi_wp2
  go_ret
  exact ⟨rfl, rfl⟩

set_option maxHeartbeats 2000000 in
/-- The told function: for every loop body that keeps the rules and the four boxes. -/
theorem fitting1_in (n l : Nat) (hn : 1 ≤ n) (B0 Bs : Nat) (A : Option Addr) (c : Nat) (rs : List Rl) (li : Int) (h p : ByteArray) (hh : h.size ≤ 2000) (hp : ∀ r ∈ rs, r.path.size ≤ 2000) (J Jx : List (Fin rs.length) → World → Prop)
    (hJ : ∀ pre A B, J pre A → A.grownBy B none → J pre B)
    (hY : ∀ pre (x : Fin rs.length) W, J pre W → pre.length < rs.length → YieldAt Fence.wide (n - 1) Try.prog l #[.int .i64 (x.1 : Int), .agg #[.int .i64 rs[x.1].listen, .string rs[x.1].host, .string rs[x.1].path, .int .i64 rs[x.1].cluster]] W fun e W' =>
      (e = .returned (.bool true) ∧ J (pre ++ [x]) W' ∧ Kept B0 Bs W W') ∨ (e = .returned (.bool false) ∧ Jx (pre ++ [x]) W'))
    (W : World) (hB : B0 ≤ W.heap.size) (hBs : Bs + 4 ≤ W.heap.size) (hin : RulesIn W B0 A c rs)
    (c0 : W.cell? ⟨Bs, 0, none⟩ = some (.slice A rs.length c)) (c1 : W.cell? ⟨Bs + 1, 0, none⟩ = some (.int .i64 li)) (c2 : W.cell? ⟨Bs + 2, 0, none⟩ = some (.string h)) (c3 : W.cell? ⟨Bs + 3, 0, none⟩ = some (.string p)) (h0 : J [] W) :
    CallsIn Fence.wide n Try.prog 69 #[.func (.yield l) #[] #[], .pointer (some ⟨Bs, 0, none⟩), .pointer (some ⟨Bs + 1, 0, none⟩), .pointer (some ⟨Bs + 2, 0, none⟩), .pointer (some ⟨Bs + 3, 0, none⟩)] W fun e W' => (∃ v, e = .returned v) ∧
      ((∃ ys, ys = fitF rs (fitB li h p) rs.length ∧ J ys W') ∨ (∃ pre, pre <+: fitF rs (fitB li h p) rs.length ∧ Jx pre W')) := by
  have hm : rs.length ≤ 9223372036854775807 := hin.len
  have HI := Lib.hid hin
  have HP := Lib.hid hp
  have C1 := Lib.hid c1
  have C2 := Lib.hid c2
  have C3 := Lib.hid c3
  have HB := Lib.hid hB
  have HBs := Lib.hid hBs
  clear hin hp c1 c2 c3 hB hBs
  refine callsIn_of_wp Try.func69 rfl trivial ?_ rfl
  simp only [Try.ntmps69, List.size_toArray, List.length_cons, List.length_nil, Nat.reduceAdd, Nat.reduceSub, Array.replicate_succ, Array.replicate_zero, List.push_toArray, List.append_toArray, List.nil_append, List.cons_append]
  gi_wp2
  clear c0
  gi_loopw [10] (fun i wr => ∃ k : Nat, k ≤ rs.length ∧ i = .int .i64 k ∧ J (fitF rs (fitB li h p) k) wr ∧ Kept B0 Bs W wr)
    (fun i _ => rs.length - (intOf i).toNat)
  case atStart => exact ⟨0, Nat.zero_le _, rfl, by rw [fitF_zero]; exact h0, Kept.refl _ _ _⟩
  case round =>
    obtain ⟨k, hk, rfl, hJs, hkp⟩ := hrel
    have HK := Lib.hid hkp
    clear hkp
    by_cases hlt : k < rs.length
    · obtain ⟨ad, e, _⟩ := HI.out.ad hlt
      subst e
      obtain ⟨f0, f1, f2, f3⟩ := HI.out.at_ (W := wr) hlt (fun q hq => HK.out.same q (.inl hq))
      have hrp := HP.out _ (List.getElem_mem hlt)
      have hy := hY (fitF rs (fitB li h p) k) ⟨k, hlt⟩
      have hF := fitF_succ (f := fitB li h p) hlt
      have hlen : (fitF rs (fitB li h p) k).length < rs.length := Nat.lt_of_le_of_lt (fitF_len k) hlt
      have hpre := fitF_pre (f := fitB li h p) (l := rs) (k := k + 1) (by omega)
      dsimp only at hy
      obtain ⟨r, hr⟩ : ∃ r, rs[k] = r := ⟨_, rfl⟩
      rw [hr] at f0 f1 f2 f3 hrp hy hF
      clear hr
      have B1 := boxed wr (.cells #[.int .i64 r.listen, .string r.host, .string r.path, .int .i64 r.cluster] 54)
      have S1 := World.size_alloc wr (.cells #[.int .i64 r.listen, .string r.host, .string r.path, .int .i64 r.cluster] 54)
      have x0 := four_in4' wr (.int .i64 r.listen) (.string r.host) (.string r.path) (.int .i64 r.cluster) 54
      have K1 := HK.out.trans (Kept.below B1 (Nat.le_trans HB.out HK.out.size) (Nat.le_trans HBs.out HK.out.size))
      have c1 := (K1.same ⟨Bs + 1, 0, none⟩ (.inr (by simp))).trans C1.out
      have c2 := (K1.same ⟨Bs + 2, 0, none⟩ (.inr (by simp))).trans C2.out
      have c3 := (K1.same ⟨Bs + 3, 0, none⟩ (.inr (by simp))).trans C3.out
      have hfit := (callsIn_wide (n := n - 1)).2 (fits_is r li h p (wr.alloc (.cells #[.int .i64 r.listen, .string r.host, .string r.path, .int .i64 r.cluster] 54)) hh hrp)
      obtain ⟨b, hb⟩ : ∃ b, fitB li h p r = b := ⟨_, rfl⟩
      rw [hb] at hfit hF
      have HF := Lib.hid hF
      clear hb hF hrp
      unfold Rl.val at hfit
      obtain ⟨x0, x1, x2, x3⟩ := x0
      gi_wp2_with fail
      refine ⟨trivial, hfit.mono ?_⟩
      rintro e W2 ⟨rfl, kk⟩
      have y0 := four_below (by rw [S1]; omega) ⟨x0, x1, x2, x3⟩ kk
      have BW := B1.trans (kk.mono B1.size)
      have K2 := HK.out.trans (Kept.below BW (Nat.le_trans HB.out HK.out.size) (Nat.le_trans HBs.out HK.out.size))
      have hJ2 := hJ _ _ W2 hJs (grownBy_below BW)
      have hR0 := hy W2 hJ2 hlen
      clear f0 f1 f2 f3 c1 c2 c3 x0 x1 x2 x3 kk hfit hy K1 B1 S1 BW hJs
      generalize wr.heap.size = N at y0
      obtain ⟨y0, y1, y2, y3⟩ := y0
      have HK2 := Lib.hid K2
      clear K2
      cases b with
      | false =>
        gi_wp2_with fail
        refine ⟨fun _ h => (by cases h), ?_⟩
        gi_wp2_with fail
        go_roundw
        case rel => exact ⟨k + 1, by omega, by go_num, by rw [HF.out, cond_false, List.append_nil]; exact hJ2, HK2.out⟩
        case measure => simp [intOf]; omega
      | true =>
        obtain ⟨fn, tmps, assign, body, hy, hR⟩ := hR0
        gi_wp2_with fail
        refine hR.mono ?_
        rintro e W3 (⟨rfl, hJ3, hk3⟩ | ⟨rfl, hJx3⟩)
        · gi_wp2_with fail
          go_roundw
          case rel => exact ⟨k + 1, by omega, by go_num, by rw [HF.out, cond_true]; exact hJ3, HK2.out.trans hk3⟩
          case measure => simp [intOf]; omega
        · gi_wp2_with fail
          refine bodyPost_ret (results_none rfl _ _ _) rfl ?_
          exact ⟨⟨_, rfl⟩, .inr ⟨_, by rw [HF.out, cond_true] at hpre; exact hpre, hJx3⟩⟩
    · obtain rfl : k = rs.length := by omega
      gi_wp2_with fail
      go_end0
      exact ⟨⟨_, rfl⟩, .inl ⟨_, rfl, hJs⟩⟩

/-- What routes.fitting hands back tells all rules that fit, in their order; or some of them, where a round has said 'no more'. -/
theorem fitting_stops (n : Nat) (hn : 1 ≤ n) (B0 : Nat) (A : Option Addr) (c : Nat) (rs : List Rl) (li : Int) (h p : ByteArray) (hh : h.size ≤ 2000) (hp : ∀ r ∈ rs, r.path.size ≤ 2000) (w : World) (hin : RulesIn w B0 A c rs) (hB : B0 ≤ w.heap.size) :
    SeqStopsK Fence.wide n Try.prog 69 #[.pointer (some ⟨w.heap.size, 0, none⟩), .pointer (some ⟨w.heap.size + 1, 0, none⟩), .pointer (some ⟨w.heap.size + 2, 0, none⟩), .pointer (some ⟨w.heap.size + 3, 0, none⟩)]
      (fun x : Fin rs.length => #[Value.int .i64 (x.1 : Int), .agg #[.int .i64 rs[x.1].listen, .string rs[x.1].host, .string rs[x.1].path, .int .i64 rs[x.1].cluster]]) (Kept B0 w.heap.size)
      (fun ys => ys = fitF rs (fitB li h p) rs.length) (fun pre => pre <+: fitF rs (fitB li h p) rs.length) rs.length (boxes4 w A rs.length c li h p) := fun l J Jx W hW hJ _ hY h0 => by
  have hz : (boxes4 w A rs.length c li h p).heap.size = w.heap.size + 4 := by simp [boxes4]
  have hb : Below w.heap.size w (boxes4 w A rs.length c li h p) := below_alloc (below_alloc (below_alloc (boxed w _) (Nat.le_refl _)) (Nat.le_refl _)) (Nat.le_refl _)
  have b0 : (boxes4 w A rs.length c li h p).heap[w.heap.size]? = some (.cells #[.slice A rs.length c] 28 (0, 0)) := kept_alloc (kept_alloc (kept_alloc (one_alloc _ _)))
  have b1 : (boxes4 w A rs.length c li h p).heap[w.heap.size + 1]? = some (.cells #[.int .i64 li] 3 (0, 0)) := by
    refine kept_alloc (kept_alloc ?_)
    have := one_alloc (w.alloc (.cells #[.slice A rs.length c] 28)) (.cells #[.int .i64 li] 3)
    rwa [World.size_alloc] at this
  have b2 : (boxes4 w A rs.length c li h p).heap[w.heap.size + 2]? = some (.cells #[.string h] 9 (0, 0)) := by
    refine kept_alloc ?_
    have := one_alloc ((w.alloc (.cells #[.slice A rs.length c] 28)).alloc (.cells #[.int .i64 li] 3)) (.cells #[.string h] 9)
    rwa [World.size_alloc, World.size_alloc] at this
  have b3 : (boxes4 w A rs.length c li h p).heap[w.heap.size + 3]? = some (.cells #[.string p] 9 (0, 0)) := by
    have := one_alloc (((w.alloc (.cells #[.slice A rs.length c] 28)).alloc (.cells #[.int .i64 li] 3)).alloc (.cells #[.string h] 9)) (.cells #[.string p] 9)
    rwa [World.size_alloc, World.size_alloc, World.size_alloc] at this
  have hW1 := hW.size
  rw [hz] at hW1
  refine fitting1_in n l hn B0 w.heap.size A c rs li h p hh hp J Jx (fun pre A B hj hg => hJ pre A B none hj hg (fun r e => by cases e)) hY W (by omega) (by omega) ?_ ?_ ?_ ?_ ?_ h0
  · exact (hin.keep fun q hq => hb.cell (Nat.lt_of_lt_of_le hq hB)).keep fun q hq => hW.cell (by rw [hz]; omega)
  · exact (hW.cell (p := ⟨w.heap.size, 0, none⟩) (by simp [hz])).trans (by rw [block_cell b0]; rfl)
  · exact (hW.cell (p := ⟨w.heap.size + 1, 0, none⟩) (by simp [hz])).trans (by rw [block_cell b1]; rfl)
  · exact (hW.cell (p := ⟨w.heap.size + 2, 0, none⟩) (by simp [hz])).trans (by rw [block_cell b2]; rfl)
  · exact (hW.cell (p := ⟨w.heap.size + 3, 0, none⟩) (by simp [hz])).trans (by rw [block_cell b3]; rfl)
end Go.Proofs.Ytknjdaokidcllaa
