/- script.numbers: the numbers whose bytes are read, told one by one, up to the first fault. -/
import Derived.RangeFuncNested
import Derived.RangeFuncBound
import Derived.RangeFuncCalls
import Derived.RangeFuncLeaves
import Derived.Shelf.Abstract
import Derived.Shelf.RegionOpen
import Derived.WalkKit
import Derived.OwnWalkIn
import Derived.TacticsInMore
import Derived.LoopNIn
import Derived.LoopIn
import Derived.Sort.LoopGhostIn
import Derived.WalkMore
import Derived.Lib.EndianBits
import Derived.Test.YtmjdamcbdclgpaaQwput
namespace Go.Proofs.Ytmjdamcbdclgpaa
open Go.RowKit Go.Shelf
attribute [local go_sem] Oper.semAt_some
set_option linter.unusedVariables false
set_option linter.unusedSimpArgs false
set_option maxRecDepth 100000

/-! A scope that is never jumped in, at a fence (the library has it for the open walk). -/
section
variable {F : Fence} {n : Nat} {P : Program} {b : Frame} {a : Act} {k : List Item} {cs : List Frame} {w : World} {Q : Exit → Act → World → Prop}
theorem stepR_scope8 {c : Code} : step P (lone (b.atR a (.code (.scope c) :: k)) cs w) = .next (lone (b.atR a (.code c :: .inScope c :: k)) cs w) :=
  step_lone_go (by simp [stepG, stepG.exec, Frame.atR])
theorem stepR_inScope8 {c : Code} : step P (lone (b.atR a (.inScope c :: k)) cs w) = .next (lone (b.atR a k) cs w) :=
  step_lone_go (by simp [stepG, stepG.exec, Frame.atR])
theorem wpIn_scope8 {c : Code} (h : c.wpIn F n P (Exit.noGoto Q) a w) : (Code.scope c).wpIn F n P Q a w := by
  intro b k cs hro hb hr
  have h0 : (lone (b.atR a (.code (.scope c) :: k)) cs w).fenced P F := fenced_calm hb hr rfl
  obtain ⟨e, a₁, w₁, hq, harr⟩ := h b (.inScope c :: k) cs hro hb hr
  cases e with
  | normal => exact ⟨.normal, a₁, w₁, hq, .head h0 stepR_scope8 (StepsIn.trans harr (.one (fenced_calm hb hr rfl) stepR_inScope8))⟩
  | exit id =>
    have hx : exitTo id (.inScope c :: k) = exitTo id k := by simp [exitTo]
    exact ⟨.exit id, a₁, w₁, hq, .of_steps (.one h0 stepR_scope8) ⟨fun k' hk => harr.1 k' (by rw [hx]; exact hk), fun hr' hk => harr.2 hr' (by rw [hx]; exact hk)⟩⟩
  | goto l => exact hq.elim
  | ret => exact ⟨_, a₁, w₁, hq, .of_steps (.one h0 stepR_scope8) harr⟩
  | panic ch => exact ⟨_, a₁, w₁, hq, .of_steps (.one h0 stepR_scope8) harr⟩
  | outgrown => exact ⟨_, a₁, w₁, hq, .of_steps (.one h0 stepR_scope8) harr⟩
end

/-! What is told. -/
def toldN : Nat → List Int → List (Int × Int)
  | 0, _ => []
  | f + 1, b => if b = [] then [] else match dec1 9 b with
    | none => [(0, 11)]
    | some (m, r) => ((m : Int), 0) :: toldN f r
def told (b : List Int) : List (Int × Int) := toldN b.length b
theorem told_fuel {f g : Nat} {b : List Int} (hf : b.length ≤ f) (hg : b.length ≤ g) : toldN f b = toldN g b := by
  induction f generalizing g b with
  | zero =>
    obtain rfl : b = [] := List.eq_nil_of_length_eq_zero (by omega)
    cases g <;> simp [toldN]
  | succ f ih =>
    by_cases hb : b = []
    · subst hb
      cases g <;> simp [toldN]
    · obtain ⟨g, rfl⟩ : ∃ g', g = g' + 1 := ⟨g - 1, by have := List.length_pos_iff.2 hb; omega⟩
      rw [toldN, toldN, if_neg hb, if_neg hb]
      rcases hd : dec1 9 b with _ | ⟨m, r⟩
      · rfl
      · have := dec_less hd
        simp only
        rw [ih (g := g) (b := r) (by omega) (by omega)]
theorem told_nil : told [] = [] := rfl
theorem told_bad {b : List Int} (hb : b ≠ []) (h : dec1 9 b = none) : told b = [(0, 11)] := by
  obtain ⟨n, hn⟩ : ∃ n, b.length = n + 1 := ⟨b.length - 1, by have := List.length_pos_iff.2 hb; omega⟩
  rw [told, hn, toldN, if_neg hb, h]
theorem told_next {b r : List Int} {m : Nat} (hb : b ≠ []) (h : dec1 9 b = some (m, r)) : told b = ((m : Int), 0) :: told r := by
  obtain ⟨n, hn⟩ : ∃ n, b.length = n + 1 := ⟨b.length - 1, by have := List.length_pos_iff.2 hb; omega⟩
  have := dec_less h
  rw [told, hn, toldN, if_neg hb, h]
  simp only
  rw [told, told_fuel (f := n) (g := r.length) (by omega) (by omega)]

/-! One number's parts, joined. -/
theorem join7 {y : Int} {x k : Nat} (hk : k ≤ 8) (hy0 : 0 ≤ y) (hy : y < 128 ^ k) (hx : x < 128) : bits BinOp.or IntKind.i64 y ((x : Int) * 128 ^ k) = y + (x : Int) * 128 ^ k := by
  have h7 : ((128 : Int) ^ k) = 2 ^ (7 * k) := by rw [Int.pow_mul]; rfl
  have hp : (0 : Int) < 2 ^ (7 * k) := Int.pow_pos (by omega)
  rw [h7] at hy ⊢
  have hle : (2 : Int) ^ (7 * k) ≤ 2 ^ 56 := by
    have : (2 : Nat) ^ (7 * k) ≤ 2 ^ 56 := Nat.pow_le_pow_right (by omega) (by omega)
    exact_mod_cast this
  have hm : (x : Int) * 2 ^ (7 * k) ≤ 127 * 2 ^ 56 := Int.mul_le_mul (by omega) hle (Int.le_of_lt hp) (by omega)
  exact bits_join_low .i64 63 (by decide) (fun n h0 h1 => IntWalk.i64_in _ ⟨by omega, by omega⟩) (7 * k) y _ hy0 hy (by omega) (Int.mul_nonneg (by omega) (Int.le_of_lt hp)) (Int.mul_emod_left _ _) (by omega)

theorem part_join {q N : Nat} {x : Int} (hq : q ≤ 8) (hN : N < 128 ^ q) (h0 : 0 ≤ x) : bits BinOp.or IntKind.i64 (N : Int) (wrap64 (x % 128 * 2 ^ (7 * q))) = ((N + 128 ^ q * (x % 128).toNat : Nat) : Int) := by
  obtain ⟨y, hy⟩ : ∃ y : Nat, x % 128 = y := ⟨(x % 128).toNat, by omega⟩
  have hy2 : y < 128 := by omega
  rw [hy]
  have h7 : (2 : Int) ^ (7 * q) = 128 ^ q := by rw [Int.pow_mul]; rfl
  rw [h7]
  have hle : 128 ^ q ≤ 128 ^ 8 := Nat.pow_le_pow_right (by omega) hq
  have hprod : y * 128 ^ q ≤ 127 * 128 ^ q := Nat.mul_le_mul_right _ (by omega)
  have hc : (y : Int) * 128 ^ q = ((y * 128 ^ q : Nat) : Int) := by rw [Int.natCast_mul, Int.natCast_pow]; rfl
  have hw : wrap64 ((y : Int) * 128 ^ q) = (y : Int) * 128 ^ q := by
    exact IntWalk.wrap64_in ((y : Int) * 128 ^ q) ⟨by rw [hc]; omega, by rw [hc]; omega⟩
  rw [hw, join7 hq (by omega) (by exact_mod_cast hN) hy2, hc, Int.toNat_natCast, Nat.mul_comm y, Int.natCast_add]
section
variable {r : List Int} {k : Nat}
theorem dec_cut0 (hk : k ≤ 9) (hr : ∀ j (h : j < r.length), j < k → 128 ≤ r[j]) (hl : k ≤ r.length) (h : k = r.length ∨ k = 9) : dec1 9 r = none := by
  have := dec_cut (b := r) (i := 0) (k := k) hk (fun j h hj => by have := hr j (by omega) hj; simpa using this) (by omega) (by omega)
  rwa [List.drop_zero] at this
theorem dec_last0 (hk : k < 9) (hr : ∀ j (h : j < r.length), j < k → 128 ≤ r[j]) (hl : k < r.length) (hx : r[k] < 128) :
    dec1 9 r = if 0 < k ∧ r[k].toNat = 0 then none else some (lowN k r + 128 ^ k * r[k].toNat, r.drop (k + 1)) := by
  have := dec_last (b := r) (i := 0) (k := k) hk (fun j h hj => by have := hr j (by omega) hj; simpa using this) (by omega) (by simpa using hx)
  simpa using this
theorem Reads.drop {w : World} {B : Nat} {ad : Addr} {xs : List Value} (h : Reads w B (some ad) xs) (k : Nat) : Reads w B (some (ad.add k)) (xs.drop k) := fun hn => by
  rw [List.length_drop] at hn
  obtain ⟨ad', e, hb, hc⟩ := h (by omega)
  cases e
  refine ⟨_, rfl, by rw [block_of_add]; exact hb, fun j u hu => ?_⟩
  rw [List.getElem?_drop] at hu
  rw [Addr.add_add]
  exact hc _ _ hu
end

/-- What a round must keep: what lies below block B0. -/
structure Kept8 (B0 : Nat) (W W' : World) : Prop where
  size : W.heap.size ≤ W'.heap.size
  same : ∀ p : Addr, p.block < B0 → W'.cell? p = W.cell? p
theorem Kept8.refl (B0 : Nat) (W : World) : Kept8 B0 W W := ⟨Nat.le_refl _, fun _ _ => rfl⟩
theorem Kept8.trans {B0 : Nat} {X Y Z : World} (h : Kept8 B0 X Y) (k : Kept8 B0 Y Z) : Kept8 B0 X Z := ⟨Nat.le_trans h.size k.size, fun p hp => (k.same p hp).trans (h.same p hp)⟩
theorem Kept8.below {B0 n : Nat} {W W' : World} (h : Below n W W') (hB : B0 ≤ n) : Kept8 B0 W W' := ⟨h.size, fun p hp => h.cell (by omega)⟩
theorem Kept8.putObj {B0 : Nat} {w : World} (hB : B0 ≤ w.heap.size) (W : World) (l : Nat) (o o' : Obj) (hl : w.heap.size ≤ l) (h : W.heap[l]? = some o) (h1 : o.isCells = false) (h2 : o.isWalk = false) : Kept8 B0 W (W.putObj l o') :=
  Kept8.below (belowK_b (w := w) (n₀ := w.heap.size) (Nat.le_refl _) W l o o' hl h h1 h2) hB

theorem numbers_in (n : Nat) (A : Option Addr) (len c : Nat) (w : World) :
    CallsIn Fence.wide n Try.prog 32 #[.slice A len c] w fun e w' =>
      e = .returned (.func (.func 42) #[] #[.pointer (some ⟨w.heap.size, 0, none⟩)]) ∧ w' = w.alloc (.cells #[.slice A len c] 35) := by
  refine callsIn_of_wp Try.func32 rfl trivial ?_ rfl
  simp only [Try.ntmps32, List.size_toArray, List.length_cons, List.length_nil, Nat.reduceAdd, Nat.reduceSub, Array.replicate_succ, Array.replicate_zero, List.push_toArray, List.append_toArray, List.nil_append, List.cons_append]
  gi_wp2
  go_ret
  exact ⟨rfl, rfl⟩

set_option maxHeartbeats 4000000 in
/-- The told function: for every loop body that keeps what lies below B0. -/
theorem numbers1_in (n l : Nat) (hn : 1 ≤ n) (B0 Bs : Nat) (A : Option Addr) (c : Nat) (b : List Int) (hb : ∀ x ∈ b, 0 ≤ x ∧ x < 256) (hlc : b.length ≤ c) (hcm : c ≤ maxLen) (J Jx : List (Int × Int) → World → Prop)
    (hJ : ∀ pre A B, J pre A → A.grownBy B none → J pre B)
    (hY : ∀ pre (x : Int × Int) W, J pre W → pre.length < (told b).length → YieldAt Fence.wide (n - 1) Try.prog l #[.int .i64 x.1, .int .i64 x.2] W fun e W' =>
      (e = .returned (.bool true) ∧ J (pre ++ [x]) W' ∧ Kept8 B0 W W') ∨ (e = .returned (.bool false) ∧ Jx (pre ++ [x]) W'))
    (W : World) (hin : Reads W B0 A (b.map (Value.int .u8)))
    (c0 : W.cell? ⟨Bs, 0, none⟩ = some (.slice A b.length c)) (h0 : J [] W) :
    CallsIn Fence.wide n Try.prog 42 #[.func (.yield l) #[] #[], .pointer (some ⟨Bs, 0, none⟩)] W fun e W' => (∃ v, e = .returned v) ∧
      ((∃ ys, ys = told b ∧ J ys W') ∨ (∃ pre, pre <+: told b ∧ Jx pre W')) := by
  have HIN := Lib.hid hin
  have HBB := Lib.hid hb
  unfold maxLen at hcm
  clear hin hb
  refine callsIn_of_wp Try.func42 rfl trivial ?_ rfl
  simp only [Try.ntmps42, List.size_toArray, List.length_cons, List.length_nil, Nat.reduceAdd, Nat.reduceSub, Array.replicate_succ, Array.replicate_zero, List.push_toArray, List.append_toArray, List.nil_append, List.cons_append]
  apply wpIn_scope8
  gi_wp2_with fail
  apply wpIn_label
  gi_wp2_with fail
  clear c0
  gi_loopg [3] b.length (fun g rest wr => ∃ (A' : Option Addr) (c' : Nat) (rs : List Int) (pre : List (Int × Int)), g = rs.length ∧ rest = .slice A' rs.length c' ∧ rs.length ≤ c' ∧ c' ≤ 9223372036854775807 ∧ (∀ x ∈ rs, 0 ≤ x ∧ x < 256) ∧ pre ++ told rs = told b ∧ Reads wr B0 A' (rs.map (Value.int .u8)) ∧ J pre wr)
  case atStart => exact ⟨A, c, b, [], rfl, rfl, hlc, hcm, HBB.out, rfl, HIN.out, h0⟩
  case round =>
    obtain ⟨A', c', rs, pre, rfl, rfl, hlc', hcm', hrb, hpre, hrd, hJs⟩ := hrel
    have HRB := Lib.hid hrb
    have HPRE := Lib.hid hpre
    have HRD := Lib.hid hrd
    clear hrb hpre hrd
    by_cases hlt : 0 < rs.length
    · have hlt' : decide ((0 : Int) < (rs.length : Int)) = true := by rw [decide_eq_true_eq]; omega
      obtain ⟨ad, rfl, hadb, _⟩ := HRD.out.int (k := 0) hlt
      gi_wp2_with fail
      all_goals
        obtain ⟨m, hm, hm9, hmr⟩ : ∃ m : Nat, m = min rs.length 9 ∧ m ≤ 9 ∧ m ≤ rs.length := ⟨_, rfl, by omega, by omega⟩
        gi_loopg [3, 4, 17] m (fun g rest n i wi => ∃ q : Nat, q ≤ m ∧ g = m - q ∧ rest = .slice (some ad) rs.length c' ∧ i = .int .i64 q ∧ n = .int .i64 (lowN q rs : Nat) ∧ (∀ j (h : j < rs.length), j < q → 128 ≤ rs[j]) ∧ wi = wr)
        case atStart => exact ⟨0, Nat.zero_le _, rfl, rfl, rfl, rfl, fun j h hj => by omega, rfl⟩
        case round =>
          obtain ⟨q, hq, rfl, rfl, rfl, rfl, hbig, rfl⟩ := hrel
          by_cases hqm : q < m
          · have hql : q < rs.length := by omega
            obtain ⟨ad', e', _, f0⟩ := HRD.out.int hql
            cases e'
            have hx := HRB.out _ (List.getElem_mem hql)
            have hlow := lowN_lt (k := q) (r := rs) fun y hy => (HRB.out y hy).2
            obtain ⟨x, hxx⟩ : ∃ x, rs[q] = x := ⟨_, rfl⟩
            rw [hxx] at f0 hx
            have t1 : decide ((q : Int) < 9) = true := by rw [decide_eq_true_eq]; omega
            have t2 : decide ((q : Int) < (rs.length : Int)) = true := by rw [decide_eq_true_eq]; omega
            have hjo := part_join (q := q) (N := lowN q rs) (x := x) (by omega) hlow hx.1
            have hsucc := lowN_succ (k := q) (r := rs) hql
            rw [hxx] at hsucc
            by_cases h7 : 128 ≤ x
            · have h7' : decide (128 ≤ x) = true := decide_eq_true h7
              have HSU : Hid (lowN (q + 1) rs = lowN q rs + 128 ^ q * (x % 128).toNat) := Lib.hid (by rw [hsucc, show (x - 128).toNat = (x % 128).toNat by omega])
              have HQ : Hid (∀ j (h : j < rs.length), j < q + 1 → 128 ≤ rs[j]) := Lib.hid fun j h hj => by
                rcases Nat.lt_or_ge j q with e | e
                · exact hbig j h e
                · obtain rfl : j = q := by omega
                  rw [hxx]; exact h7
              obtain ⟨M, hM⟩ : ∃ M, lowN q rs + 128 ^ q * (x % 128).toNat = M := ⟨_, rfl⟩
              rw [hM] at hjo
              have HM := Lib.hid hM
              generalize lowN q rs = N at hjo ⊢
              clear hM hlow hsucc hbig h7 hxx
              gi_wp2_with fail
              go_roundg (m - (q + 1))
              case measure => omega
              case rel => exact ⟨q + 1, by omega, rfl, rfl, by go_num, by rw [HSU.out, HM.out], HQ.out, rfl⟩
            · have h7' : decide (128 ≤ x) = false := decide_eq_false h7
              have hd := dec_last0 (by omega) hbig hql (by rw [hxx]; omega)
              rw [hxx] at hd
              have hm128 : x % 128 = x := by omega
              rw [hm128] at hjo
              obtain ⟨M, hM⟩ : ∃ M, lowN q rs + 128 ^ q * x.toNat = M := ⟨_, rfl⟩
              rw [hM] at hjo hd
              generalize lowN q rs = N at hjo ⊢
              have three : (0 < q ∧ x = 0) ∨ x ≠ 0 ∨ (q = 0 ∧ x = 0) := by omega
              have HNE : Hid (rs ≠ []) := Lib.hid fun e => by rw [e] at hlt; simp at hlt
              rcases three with ⟨j0, x0⟩ | hjx
              · have u1 : decide (0 < q) = true := by rw [decide_eq_true_eq]; omega
                have u2 : (x == (0 : Int)) = true := by rw [x0]; rfl
                have HT : Hid (told rs = [(0, 11)]) := Lib.hid (told_bad HNE.out (by rw [hd, if_pos ⟨j0, by rw [x0]; rfl⟩]))
                have HPL : Hid (pre ++ [(0, 11)] = told b) := Lib.hid (by rw [← HPRE.out, HT.out])
                obtain ⟨fn, tmps, assign, body, hy, hR⟩ := hY pre (0, 11) wr hJs (by rw [← HPL.out]; simp)
                clear x0 hd hM hlow hsucc hbig h7 hxx
                gi_wp2_with fail
                refine hR.mono ?_
                rintro e W3 (⟨rfl, hJ3, hk3⟩ | ⟨rfl, hJx3⟩)
                · gi_wp2_with fail
                  rw [Exit.noGoto_ret]; refine bodyPost_ret (results_none rfl _ _ _) rfl ?_
                  exact ⟨⟨_, rfl⟩, .inl ⟨_, rfl, by rw [← HPL.out]; exact hJ3⟩⟩
                · gi_wp2_with fail
                  rw [Exit.noGoto_ret]; refine bodyPost_ret (results_none rfl _ _ _) rfl ?_
                  exact ⟨⟨_, rfl⟩, .inr ⟨_, by rw [← HPL.out]; exact List.prefix_refl _, hJx3⟩⟩
              · have HS : Hid (dec1 9 rs = some (M, rs.drop (q + 1))) := Lib.hid (by rw [hd, if_neg (by omega)])
                have HPL : Hid ((pre ++ [((M : Int), 0)]) ++ told (rs.drop (q + 1)) = told b) := Lib.hid (by rw [← HPRE.out, told_next HNE.out HS.out, List.append_assoc]; rfl)
                have tt : (x == (0 : Int)) = false ∨ (decide (0 < q) = false ∧ (x == (0 : Int)) = true) := by
                  rcases hjx with h | ⟨h, h'⟩
                  · exact .inl (by simpa using h)
                  · exact .inr ⟨by rw [decide_eq_false_iff_not]; omega, by simpa using h'⟩
                obtain ⟨fn, tmps, assign, body, hy, hR⟩ := hY pre ((M : Int), 0) wr hJs (by rw [← HPL.out]; simp)
                clear hjx hd hM hlow hsucc hbig h7 hxx
                rcases tt with u1 | ⟨u1, u2⟩
                all_goals
                  gi_wp2_with fail
                  refine hR.mono ?_
                  rintro e W3 (⟨rfl, hJ3, hk3⟩ | ⟨rfl, hJx3⟩)
                  · have HRD3 := Lib.hid (HRD.out.keep fun p hp => hk3.same p hp)
                    gi_wp2_with fail
                    all_goals
                      go_roundg ((rs.drop (q + 1)).length)
                      case measure => rw [List.length_drop]; omega
                      case rel =>
                        first
                          | exact ⟨some ad, 0, rs.drop (q + 1), pre ++ [((M : Int), 0)], rfl, congrArg (fun n => Value.slice (some ad) n 0) List.length_drop.symm, by rw [List.length_drop]; omega, by omega, fun y hy => HRB.out y (List.mem_of_mem_drop hy), HPL.out, fun hn => absurd hn (by rw [List.length_map, List.length_drop]; omega), hJ3⟩
                          | exact ⟨some ⟨ad.block, ad.off + (q + 1), none⟩, c' - (q + 1), rs.drop (q + 1), pre ++ [((M : Int), 0)], rfl, by rw [List.length_drop], by rw [List.length_drop]; omega, by omega, fun y hy => HRB.out y (List.mem_of_mem_drop hy), HPL.out, by rw [← Addr.add_succ', List.map_drop]; exact HRD3.out.drop (q + 1), hJ3⟩
                  · gi_wp2_with fail
                    rw [Exit.noGoto_ret]; refine bodyPost_ret (results_none rfl _ _ _) rfl ?_
                    exact ⟨⟨_, rfl⟩, .inr ⟨_, by rw [← HPL.out]; exact List.prefix_append _ _, hJx3⟩⟩
          · obtain rfl : q = m := by omega
            have HNE : Hid (rs ≠ []) := Lib.hid fun e => by rw [e] at hlt; simp at hlt
            have HT : Hid (told rs = [(0, 11)]) := Lib.hid (told_bad HNE.out (dec_cut0 hm9 hbig hmr (by omega)))
            have HPL : Hid (pre ++ [(0, 11)] = told b) := Lib.hid (by rw [← HPRE.out, HT.out])
            obtain ⟨fn, tmps, assign, body, hy, hR⟩ := hY pre (0, 11) wr hJs (by rw [← HPL.out]; simp)
            clear hbig
            generalize lowN q rs = N
            first
              | (have q9 : q = 9 := by omega
                 have t1 : decide ((q : Int) < 9) = false := by rw [decide_eq_false_iff_not]; omega
                 have t2 : decide ((q : Int) < max 9 0) = false := by rw [decide_eq_false_iff_not]; omega
                 clear q9)
              | (have t1 : decide ((q : Int) < (rs.length : Int)) = false := by rw [decide_eq_false_iff_not]; omega)
            gi_wp2_with fail
            refine hR.mono ?_
            rintro e W3 (⟨rfl, hJ3, hk3⟩ | ⟨rfl, hJx3⟩)
            · gi_wp2_with fail
              rw [Exit.noGoto_ret]
              refine bodyPost_ret (results_none rfl _ _ _) rfl ?_
              exact ⟨⟨_, rfl⟩, .inl ⟨_, rfl, by rw [← HPL.out]; exact hJ3⟩⟩
            · gi_wp2_with fail
              rw [Exit.noGoto_ret]
              refine bodyPost_ret (results_none rfl _ _ _) rfl ?_
              exact ⟨⟨_, rfl⟩, .inr ⟨_, by rw [← HPL.out]; exact List.prefix_refl _, hJx3⟩⟩
    · have hlt' : decide ((0 : Int) < (rs.length : Int)) = false := by rw [decide_eq_false_iff_not]; omega
      obtain rfl : rs = [] := List.eq_nil_of_length_eq_zero (by omega)
      gi_wp2_with fail
      rw [Exit.noGoto_normal]; refine bodyPost_end (results_none rfl _ _ _) rfl ?_
      exact ⟨⟨_, rfl⟩, .inl ⟨_, rfl, by rw [← HPRE.out, told_nil, List.append_nil]; exact hJs⟩⟩
end Go.Proofs.Ytmjdamcbdclgpaa
