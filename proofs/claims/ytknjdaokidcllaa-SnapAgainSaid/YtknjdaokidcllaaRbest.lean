/- routes.Best: the best rule's number, or none. -/
import Derived.Test.YtknjdaokidcllaaRfitting
import Derived.Test.YtknjdaokidcllaaNhost
namespace Go.Proofs.Ytknjdaokidcllaa
open Go.RowKit Go.Shelf
attribute [local go_sem] Oper.semAt_some
set_option linter.unusedVariables false
set_option linter.unusedSimpArgs false
set_option maxRecDepth 100000

theorem Kept.setCell {B0 Bs : Nat} (W : World) (a : Addr) (v : Value) (h0 : B0 ≤ a.block) (h1 : a.block < Bs) : Kept B0 Bs W (W.setCell a v) :=
  ⟨by rw [size_setCell]; exact Nat.le_refl _, fun q hq => World.cell?_of_block (Below.heap_setCell _ _ _ _ (by omega))⟩
theorem Kept.drew {B0 Bs : Nat} (W : World) : Kept B0 Bs W W.drew := ⟨Nat.le_refl _, fun _ _ => rfl⟩

/-- What the loop's own boxes hold between two rounds. -/
structure FarR (w W : World) (v4 : Value) (n e : Int) : Prop where
  i4 : Boxed W w.heap.size 28 v4
  i10 : Boxed W (w.heap.size + 1) 3 (.int .i64 n)
  i11 : Boxed W (w.heap.size + 1 + 1) 31 (.int .i64 e)
  hB : Below w.heap.size w W
  hsz : w.heap.size + 7 ≤ W.heap.size
section
variable {w W W' : World} {v4 : Value} {n e : Int}
theorem FarR.below (h : FarR w W v4 n e) (hb : Below W.heap.size W W') : FarR w W' v4 n e := ⟨boxed_below h.i4 hb, boxed_below h.i10 hb, boxed_below h.i11 hb, below_next h.hB hb, Nat.le_trans h.hsz hb.size⟩
theorem FarR.set (h : FarR w W v4 n e) (n' e' : Int) : FarR w ((W.setCell ⟨w.heap.size + 1, 0, none⟩ (.int .i64 n')).setCell ⟨w.heap.size + 1 + 1, 0, none⟩ (.int .i64 e')) v4 n' e' :=
  ⟨(h.i4.other (by omega) _).other (by omega) _, (h.i10.set _).other (by omega) _, (h.i11.other (by omega) _).set _, (h.hB.setCell (p := ⟨w.heap.size + 1, 0, none⟩) (by simp) _).setCell (p := ⟨w.heap.size + 1 + 1, 0, none⟩) (by simp; omega) _, by rw [size_setCell, size_setCell]; exact h.hsz⟩
theorem FarR.kept (w W : World) (v v' : Value) : Kept w.heap.size (w.heap.size + 1 + 1 + 1) W ((W.setCell ⟨w.heap.size + 1, 0, none⟩ v).setCell ⟨w.heap.size + 1 + 1, 0, none⟩ v') :=
  (Kept.setCell _ _ _ (by simp) (by simp)).trans (Kept.setCell _ _ _ (by simp; omega) (by simp))
theorem FarR.keeps (w W : World) (v v' : Value) (B : Nat) : KeepsFrom B W ((W.setCell ⟨w.heap.size + 1, 0, none⟩ v).setCell ⟨w.heap.size + 1 + 1, 0, none⟩ v') := ((KeepsOthers.setCell _ _ _).trans (KeepsOthers.setCell _ _ _)).from B
end
def FarI (w : World) (v4 : Value) (rs : List Rl) (pre : List (Fin rs.length)) (W : World) : Prop := FarR w W v4 (numO (bestF rs pre)) (errO (bestF rs pre))
theorem farI_own (w : World) (v4 : Value) (rs : List Rl) {B : Nat} (hB : w.heap.size ≤ B) : OwnFrom B (FarI w v4 rs) := fun s X Y row hs hg hr =>
  have two : ∀ {g : Nat} {cs : Array Value} {t : TypeId}, X.heap[g]? = some (.cells cs t (0, 0)) → some g ≠ row := fun {g cs t} hh e => by
    obtain ⟨_, o, ho, hc⟩ := hr g e.symm
    rw [hh] at ho
    cases ho
    cases hc
  ⟨hs.i4.kept hg (two hs.i4), hs.i10.kept hg (two hs.i10), hs.i11.kept hg (two hs.i11), ownFrom_below (β := Unit) (Nat.le_refl _) hB () X Y row hs.hB hg hr, Nat.le_trans hs.hsz hg.size⟩

set_option maxHeartbeats 4000000 in
theorem best_calls (A : Option Addr) (c : Nat) (rs : List Rl) (li : Int) (h p : ByteArray) (w : World) (hin : RulesIn w w.heap.size A c rs) (hh : h.size ≤ 2000) (hp : ∀ r ∈ rs, r.path.size ≤ 2000) :
    Calls Try.prog 34 #[.slice A rs.length c, .int .i64 li, .string h, .string p] w (Tells2 w (numO (bestO rs (fitB li h p)), errO (bestO rs (fitB li h p)))) := by
  have HIN := Lib.hid hin
  have HP := Lib.hid hp
  have HH := Lib.hid hh
  clear hin hp hh
  have hmx : Try.prog.follows .mixedOrders = true := by kernel_rfl
  refine (callsIn_wide (n := 4)).1 ?_
  refine callsIn_of_wp_marks Try.func34 rfl trivial ?_ rfl
  simp only [Try.ntmps34, List.size_toArray, List.length_cons, List.length_nil, Nat.reduceAdd, Nat.reduceSub, Array.replicate_succ, Array.replicate_zero, List.push_toArray, List.append_toArray, List.nil_append, List.cons_append]
  gi_wp2_with fail
  refine ⟨trivial, (fitting_in _ _ _ _ _ _ _ _).mono ?_⟩
  rintro e w' ⟨rfl, rfl⟩
  gi_wp2_with fail
  obtain ⟨w3, hw3⟩ : ∃ w3, ((w.alloc (.cells #[.slice A rs.length c] 28)).alloc (.cells #[.int .i64 0] 3)).alloc (.cells #[.int .i64 5] 31) = w3 := ⟨_, rfl⟩
  have hz3 : w3.heap.size = w.heap.size + 1 + 1 + 1 := by rw [← hw3]; simp
  have hB3 : Below w.heap.size w w3 := by rw [← hw3]; exact below_alloc (below_alloc (boxed w _) (Nat.le_refl _)) (Nat.le_refl _)
  have b4 : Boxed w3 w.heap.size 28 (.slice A rs.length c) := by rw [← hw3]; exact ((Boxed.new w _ _).alloc _).alloc _
  have b10 : Boxed w3 (w.heap.size + 1) 3 (.int .i64 0) := by
    rw [← hw3]
    have := (Boxed.new (w.alloc (.cells #[.slice A rs.length c] 28)) 3 (.int .i64 0)).alloc (.cells #[.int .i64 5] 31)
    rwa [World.size_alloc] at this
  have b11 : Boxed w3 (w.heap.size + 1 + 1) 31 (.int .i64 5) := by
    rw [← hw3]
    have := Boxed.new ((w.alloc (.cells #[.slice A rs.length c] 28)).alloc (.cells #[.int .i64 0] 3)) 31 (.int .i64 5)
    rwa [World.size_alloc, World.size_alloc] at this
  have S := fitting_stops (4 - 1) (by omega) w.heap.size A c rs li h p HH.out HP.out w3 (HIN.out.below hB3) hB3.size
  rw [hw3]
  rw [hz3] at S
  obtain ⟨w4, hw4⟩ : ∃ w4, boxes4 w3 A rs.length c li h p = w4 := ⟨_, rfl⟩
  have hz4 : w4.heap.size = w.heap.size + 7 := by rw [← hw4]; simp [boxes4, hz3]
  have hB4 : Below w.heap.size w w4 := by rw [← hw4]; exact hB3.trans ((below_alloc (below_alloc (below_alloc (boxed w3 _) (Nat.le_refl _)) (Nat.le_refl _)) (Nat.le_refl _)).mono hB3.size)
  have b4' : Boxed w4 w.heap.size 28 (.slice A rs.length c) := by rw [← hw4]; exact (((b4.alloc _).alloc _).alloc _).alloc _
  have b10' : Boxed w4 (w.heap.size + 1) 3 (.int .i64 (numO (bestF rs []))) := by rw [← hw4]; exact (((b10.alloc _).alloc _).alloc _).alloc _
  have b11' : Boxed w4 (w.heap.size + 1 + 1) 31 (.int .i64 (errO (bestF rs []))) := by rw [← hw4]; exact (((b11.alloc _).alloc _).alloc _).alloc _
  rw [hw4] at S ⊢
  have HZ4 := Lib.hid hz4
  clear hw3 hw4 b4 b10 b11 hB3 hz3 hz4
  refine wpIn_rangeFunc_ownH (F := Fence.wide) rfl (by omega) (gf := 69)
    (lb := #[.pointer (some ⟨w.heap.size + 1 + 1 + 1, 0, none⟩), .pointer (some ⟨w.heap.size + 1 + 1 + 1 + 1, 0, none⟩), .pointer (some ⟨w.heap.size + 1 + 1 + 1 + 2, 0, none⟩), .pointer (some ⟨w.heap.size + 1 + 1 + 1 + 3, 0, none⟩)]) rfl trivial (enters_of Try.func69 (by kernel_rfl) rfl)
    S Kept.trans (Kept.putObj (by rw [HZ4.out]; omega) (by rw [HZ4.out]; omega)) (Below.refl _ _) (fun _ => rfl)
    (FarI w (.slice A rs.length c) rs)
    (fun _ _ _ => False)
    (farI_own _ _ _ (by rw [HZ4.out]; omega))
    (fun _ _ _ _ _ hs _ _ => hs)
    ⟨b4', b10', b11', hB4, by rw [HZ4.out]; omega⟩
    (fun x a' W => ∃ Bx, w.heap.size + 7 ≤ Bx ∧ Box4 W Bx rs[x.1] ∧ a' = { tmps := #[.slice A rs.length c, .int .i64 li, .string h, .string p, .pointer (some ⟨w.heap.size, 0, none⟩), undef, undef, undef, .int .i64 0, .int .i64 0, .pointer (some ⟨w.heap.size + 1, 0, none⟩), .pointer (some ⟨w.heap.size + 1 + 1, 0, none⟩),
      .int .i64 (x.1 : Int), .pointer (some ⟨Bx, 0, none⟩), .slice A rs.length c, .int .i64 li, .string h, .string p,
      .func (.func 69) #[] #[.pointer (some ⟨w.heap.size + 1 + 1 + 1, 0, none⟩), .pointer (some ⟨w.heap.size + 1 + 1 + 1 + 1, 0, none⟩), .pointer (some ⟨w.heap.size + 1 + 1 + 1 + 2, 0, none⟩), .pointer (some ⟨w.heap.size + 1 + 1 + 1 + 3, 0, none⟩)],
      .int .i64 (x.1 : Int), .agg #[.int .i64 rs[x.1].listen, .string rs[x.1].host, .string rs[x.1].path, .int .i64 rs[x.1].cluster], undef, undef, undef, undef, undef, undef, undef, undef, undef, undef, undef, undef, undef], defers := [] })
    (fun x a' _ X Y row hs hg hrow => by
      obtain ⟨Bx, h1, h2, h3⟩ := hs
      exact ⟨Bx, h1, (hg.block Bx h2.lt (fun e => by obtain ⟨_, o, ho, hc⟩ := hrow Bx e.symm; rw [show X.heap[Bx]? = _ from h2] at ho; cases ho; cases hc)).trans h2, h3⟩)
    ?assign ?body ?done ?stop
  case assign =>
    rintro l pre x W K hI hK
    have hsz := hI.hsz
    gi_wp2
    refine hK _ _ ((KeepsOthers.alloc _ _).from _) (Kept.below (boxed W _) (by omega) (by omega)) (hI.below (boxed W _)) ⟨W.heap.size, hsz, Box4.new W _, rfl⟩
  case body =>
    rintro l pre x a' W hl _ hI ⟨Bx, hBx, hX, rfl⟩ hlt
    have hF : ∀ g, Fence.wide.fn g := fun _ => trivial
    have hI' : FarR w W (.slice A rs.length c) (numO (bestF rs pre)) (errO (bestF rs pre)) := hI
    have hst := bestF_snoc pre x
    obtain ⟨o, ho⟩ : ∃ o, bestF rs pre = o := ⟨_, rfl⟩
    rw [ho] at hI' hst
    clear ho hI
    cases o with
    | none =>
      have hst' : bestF rs (pre ++ [x]) = some x := hst
      have hE : ∀ W', FarR w W' (.slice A rs.length c) x.1 0 → FarI w (.slice A rs.length c) rs (pre ++ [x]) W' := fun W' h => by rw [FarI, hst']; exact h
      have HE := Lib.hid hE
      clear hst hst' hE
      have e1 := hI'.i11.cell
      have e2 := hI'.i10.cell
      have z1 := hI'.i11.frozen
      have z2 := hI'.i10.frozen
      have HI := Lib.hid hI'
      clear hI'
      simp only [errO, numO] at e1 e2
      gi_wp2_with fail
      gi_region_with_o (fail)
      all_goals
        gi_wp2_with fail
        exact ⟨(FarR.keeps w W _ _ _).trans ((KeepsOthers.drew _).from _), (FarR.kept w W _ _).trans (Kept.drew _), HE.out _ ((HI.out.set _ _).below (below_drew (Below.refl _ _)))⟩
    | some y =>
      have hst' : bestF rs (pre ++ [x]) = bif btB rs[x.1] rs[y.1] then some x else some y := hst
      have e1 := hI'.i11.cell
      have e2 := hI'.i10.cell
      have e4 := hI'.i4.cell
      have hyl := y.2
      have hm : rs.length ≤ 9223372036854775807 := HIN.out.len
      obtain ⟨ad, e, _⟩ := HIN.out.ad hyl
      subst e
      obtain ⟨f0, f1, f2, f3⟩ := HIN.out.at_ (W := W) hyl (fun q hq => hI'.hB.cell hq)
      obtain ⟨g0, g1, g2, g3⟩ := hX.four
      have hbt := fun W => better2_is rs[x.1] rs[y.1] W
      generalize rs[y.1] = ry at f0 f1 f2 f3 hbt hst'
      generalize btB rs[x.1] ry = b at hbt hst'
      have HI := Lib.hid hI'
      have HS := Lib.hid hst'
      clear hst hst' hI'
      simp only [errO, numO] at e1 e2
      unfold Rl.val at hbt
      gi_wp2_with fail
      gi_region_with_o (gi_at_call 57; refine (CallsIn.inRound l (callsIn_wide.2 (hbt _))).mono ?_; rintro e W2 ⟨rfl, kk⟩)
      all_goals
        have kk' : Below W.heap.size W W2 := (below_drew (Below.refl _ _)).trans kk
        have J := HI.out.below kk'
        have hk := Kept.below (B0 := w.heap.size) (Bs := w.heap.size + 1 + 1 + 1) kk' (by have := HI.out.hsz; omega) (by have := HI.out.hsz; omega)
        have hk2 := keepsFrom_below (B := w4.heap.size) kk'
        clear kk kk' e1 e2 e4 f0 f1 f2 f3 g0 g1 g2 g3
        have e1 := J.i11.cell
        have e2 := J.i10.cell
        have z1 := J.i11.frozen
        have z2 := J.i10.frozen
        have HJ := Lib.hid J
        clear J
        have hK1 := Lib.hid hk
        clear hk
        simp only [errO, numO] at e1 e2
        cases b with
        | true =>
          have hE : ∀ W', FarR w W' (.slice (some ad) rs.length c) x.1 0 → FarI w (.slice (some ad) rs.length c) rs (pre ++ [x]) W' := fun W' h => by rw [FarI, HS.out]; exact h
          have HE := Lib.hid hE
          clear hE
          gi_wp2_with fail
          exact ⟨hk2.trans (FarR.keeps w W2 _ _ _), hK1.out.trans (FarR.kept w W2 _ _), HE.out _ (HJ.out.set _ _)⟩
        | false =>
          have hE : FarI w (.slice (some ad) rs.length c) rs (pre ++ [x]) W2 := by rw [FarI, HS.out]; exact HJ.out
          have HE := Lib.hid hE
          clear hE
          gi_wp2_with fail
          exact ⟨hk2, hK1.out, HE.out⟩
  case done =>
    rintro D ys W hD rfl hI hK
    have hI' : FarR w W (.slice A rs.length c) (numO (bestO rs (fitB li h p))) (errO (bestO rs (fitB li h p))) := hI
    rw [HZ4.out] at hD
    have e1 := hI'.i11.cell
    have e2 := hI'.i10.cell
    have HB := Lib.hid hI'.hB
    clear hI hI'
    gi_wp2_with fail
    gi_region
    gi_wp2_with fail
    have hK' : W.drew.heap[D]? = some (.deferred (some [])) := hK
    have BD := below_drew HB.out
    generalize W.drew = W5 at hK' BD ⊢
    refine ⟨by simp, .inl ⟨_, _, rfl, run_takeDeferred hK', ?_⟩⟩
    refine ⟨.tuple #[.int .i64 (numO (bestO rs (fitB li h p))), .int .i64 (errO (bestO rs (fitB li h p)))], ?_, rfl, BD.trans (belowK_b (w := w) (Nat.le_refl _) W5 D _ _ (by omega) hK' rfl rfl)⟩
    simp [results, Try.f34, go_sem]
  case stop =>
    rintro D c pre W _ _ h _
    exact h.elim
end Go.Proofs.Ytknjdaokidcllaa
