/- Rows of the call's own, of elements of one cell: what append makes of them. -/
import Derived.Test.YtknjdaokidcllaaPtr
import Derived.Test.YtknjdaokidcllaaArgs
import Derived.Maps.AppendAt
import Derived.RegionTactic
import Derived.OwnWalk
import Derived.Test.YtknjdaokidcllaaNsay
import Derived.Test.YtknjdaokidcllaaRows
import Derived.ProofKit
import Derived.Below
import Derived.Test.YtknjdaokidcllaaNparts
import Derived.Test.YtknjdaokidcllaaNbyte
import Derived.Test.YtknjdaokidcllaaNhost
import Derived.Test.YtknjdaokidcllaaFlat
import Derived.DataElems
namespace Go.Proofs.Ytknjdaokidcllaa
open Go.RowKit
set_option linter.unusedVariables false

/-- The slice v, made from block 'base' on, holds just xs. -/
def Own (E base : Nat) (w : World) (v : Value) (xs : List Value) : Prop := w.ownsRow base E 1 v xs.length xs

section
variable {P : Program} {w w' : World} {E base : Nat} {v : Value} {xs : List Value}
theorem Own.slice (h : Own E base w v xs) : ∃ A c, v = .slice A xs.length c := by
  rcases h.2 with ⟨rfl, hn⟩ | ⟨g, cap, cur, rfl, _⟩
  · exact ⟨none, 0, by rw [hn]⟩
  · exact ⟨_, _, rfl⟩
theorem Own.reads {A : Option Addr} {n c : Nat} (h : Own E base w (.slice A n c) xs) : Reads w w.heap.size A xs := by
  have hn : n = xs.length := by
    obtain ⟨A', c', e⟩ := h.slice
    injection e
  subst hn
  exact Reads.of_own h
theorem Own.lt (h : Own E base w v xs) : ∀ k, v.ownBlock = some k → base ≤ k ∧ k < w.heap.size := World.ownsRow.lt h
theorem Own.kept {row : Option Nat} (h : Own E base w v xs) (g : w.grownBy w' row) (hne : v.ownBlock = none ∨ v.ownBlock ≠ row) : Own E base w' v xs := World.ownsRow.kept h g hne
theorem Own.kept0 (h : Own E base w v xs) (g : w.grownBy w' none) : Own E base w' v xs := h.kept g (by cases v.ownBlock <;> simp)
theorem Own.alloc (h : Own E base w v xs) (o : Obj) : Own E base (w.alloc o) v xs := h.kept0 (World.grownBy_alloc _ _ _)
theorem Own.empty (hb : base ≤ w.heap.size) : Own E base (w.alloc (.cells #[] E)) (.slice (some ⟨w.heap.size, 0, none⟩) 0 0) [] :=
  World.ownsRow_made w #[] 0 hb (by simp [maxLen]) (by simp)
theorem Own.one (hb : base ≤ w.heap.size) (u : Value) : Own E base (w.alloc (.cells #[u] E)) (.slice (some ⟨w.heap.size, 0, none⟩) 1 1) [u] :=
  ⟨rfl, .inr ⟨w.heap.size, 1, #[u], rfl, hb, heap_alloc_new w _, by simp, by simp [maxLen], rfl, rfl⟩⟩
theorem Own.nil : Own E base w (.slice none 0 0) [] := World.ownsRow_nil _ _ _ _
theorem Own.ne_two {g T : Nat} {x y : Value} (h : Own E base w v xs) (hg : w.heap[g]? = some (.cells #[x, y] T (0, 0))) (hT : E ≠ T) : v.ownBlock ≠ some g := by
  rcases h.2 with ⟨rfl, _⟩ | ⟨g', cap, cur, rfl, _, hh, _⟩
  · simp [Value.ownBlock]
  · intro he
    have e : g' = g := by simpa [Value.ownBlock] using he
    subst e
    have := hh.symm.trans hg
    simp at this
    exact hT this.2

end
theorem own_apart {P : Program} {w : World} {E base g T : Nat} {v : Value} {xs : List Value} {cs : Array Value} (h : Own E base w v xs) (hg : w.heap[g]? = some (.cells cs T (0, 0))) (hT : E ≠ T) : v.ownBlock ≠ some g := by
  rcases h.2 with ⟨rfl, _⟩ | ⟨g', cap, cur, rfl, _, hh, _⟩
  · simp [Value.ownBlock]
  · intro he
    have e : g' = g := by simpa [Value.ownBlock] using he
    subst e
    have := hh.symm.trans hg
    simp at this
    exact hT this.2
theorem own_form {w : World} {b E s n : Nat} {v : Value} {xs : List Value} (h : w.ownsRow b E s v n xs) : ∃ A m c, v = .slice A m c := by
  rcases h.2 with ⟨rfl, _⟩ | ⟨g, cap, cur, rfl, _⟩
  · exact ⟨_, _, _, rfl⟩
  · exact ⟨_, _, _, rfl⟩

section
variable {P : Program} {w w' : World} {E base : Nat} {v : Value} {xs : List Value}
/-- An element more: what was made in a new block of its own is appended. -/
theorem wpList_append_one {ops : Array Oper} {rest : List Oper} {o : Oper} {a : Act} {Q : Exit → Act → World → Prop} (hgd : o.guard = none) (s x : Operand) (t : TypeId)
    (ho : o.op = .call { callee := .builtin .append, args := #[s, x], argTypes := #[t, t] })
    (i : TypeInfo) (z : Value) (bytes : Nat) (ht : P.underlying t = some (.slice E)) (hi : P.info? E = some i) (hz : i.zero = some z)
    (hsize : i.size = 1) (hby : i.bytes = bytes) (hzs : z.cells.size = 1) (hs : a.eval s = v) (w : World) (u : Value) (h1 : u.oneCell' = true) (hown : Own E base w v xs)
    (hx : a.eval x = .slice (some ⟨w.heap.size, 0, none⟩) 1 1)
    (h63 : xs.length + 1 ≤ maxLen) (hbytes : (xs.length + 1) * bytes ≤ 140737488355328) (hbase : base ≤ w.heap.size)
    (h : ∀ v' w', Own E base w' v' (xs ++ [u]) → w.grownBy w' v.ownBlock → (v'.ownBlock = v.ownBlock ∨ ∃ k, v'.ownBlock = some k ∧ w.heap.size ≤ k) → wpList P ops Q rest (a.put o.dst v') w') :
    wpList P ops Q (o :: rest) a (w.alloc (.cells #[u] E)) := by
  refine wpList_plain hgd fun _ hK => ?_
  obtain ⟨v', w', hrun, h2, h3, _, h5⟩ := run_append_own_at (P := P) (w.alloc (.cells #[u] E)) base t o.type E i z 1 bytes ht hi hz hsize hby hzs (by omega) v xs.length xs (hown.alloc _) ⟨w.heap.size, 0, none⟩ 1 1 [u] rfl
    (fun j y hy => by
      have hj : j = 0 := by
        have := (List.getElem?_eq_some_iff.1 hy).1
        simp at this
        exact this
      subst hj
      simp at hy
      subst hy
      exact World.cell?_alloc_new w #[u] E 0) (by simpa using h1) h63 hbytes (by rw [World.size_alloc]; omega)
  unfold Oper.wp execOp
  simp only [ho, resolve, invoke, builtin, Sem.run_bind, Sem.run_pure, Result.andThen_ok, List.map_toArray, List.map_cons, List.map_nil, hs, hx, hrun]
  refine hK _ _ (h v' w' (by simpa [Own] using h2) (grownBy_trans (World.grownBy_alloc _ _ _) h3) ?_)
  rcases h5 with h5 | h5
  · exact .inl h5
  · exact .inr ⟨_, h5, by simp⟩

/-- A slice that was there is appended whole. -/
theorem wpList_append_all {ops : Array Oper} {rest : List Oper} {o : Oper} {a : Act} {Q : Exit → Act → World → Prop} (hgd : o.guard = none) (s x : Operand) (t : TypeId)
    (ho : o.op = .call { callee := .builtin .append, args := #[s, x], argTypes := #[t, t] })
    (i : TypeInfo) (z : Value) (bytes : Nat) (ht : P.underlying t = some (.slice E)) (hi : P.info? E = some i) (hz : i.zero = some z)
    (hsize : i.size = 1) (hby : i.bytes = bytes) (hzs : z.cells.size = 1) (hs : a.eval s = v) (w : World) (hown : Own E base w v xs)
    {B : Nat} {A : Option Addr} {c : Nat} {ys : List Value} (hx : a.eval x = .slice A ys.length c) (hr : Reads w B A ys) (h1 : ∀ u ∈ ys, u.oneCell' = true)
    (h63 : xs.length + ys.length ≤ maxLen) (hbytes : (xs.length + ys.length) * bytes ≤ 140737488355328) (hbase : base ≤ w.heap.size)
    (h : ∀ v' w', Own E base w' v' (xs ++ ys) → w.grownBy w' v.ownBlock → (v'.ownBlock = v.ownBlock ∨ ∃ k, v'.ownBlock = some k ∧ w.heap.size ≤ k) → wpList P ops Q rest (a.put o.dst v') w') :
    wpList P ops Q (o :: rest) a w := by
  refine wpList_plain hgd fun _ hK => ?_
  by_cases h0 : ys.length = 0 ∧ A = none
  · obtain ⟨h0, rfl⟩ := h0
    have hy : ys = [] := List.eq_nil_of_length_eq_zero h0
    subst hy
    have hrun : (Builtin.append_ #[t, t] o.type #[v, .slice none 0 c]).run P w = .ok v w := by
      rcases hown.2 with ⟨rfl, hn⟩ | ⟨g, cap, cur, rfl, _, _, hnc, _⟩
      · simp [Builtin.append_, run_underlying ht, sizeOf, typeInfo, hi, Builtin.lenOf, Builtin.firstCells]
      · simp [Builtin.append_, run_underlying ht, sizeOf, typeInfo, hi, Builtin.lenOf, Builtin.firstCells, hnc, storeCells]
    unfold Oper.wp execOp
    simp only [ho, resolve, invoke, builtin, Sem.run_bind, Sem.run_pure, Result.andThen_ok, List.map_toArray, List.map_cons, List.map_nil, hs, hx, hrun, List.length_nil]
    exact hK _ _ (h v w (by simpa using hown) (World.grownBy.refl w _) (.inl rfl))
  · obtain ⟨ad, rfl, hc⟩ : ∃ ad, A = some ad ∧ ∀ j u, ys[j]? = some u → w.cell? (ad.add j) = some u := by
      rcases A with _ | ad
      · have hp : 0 < ys.length := by
          rcases Nat.eq_zero_or_pos ys.length with h | h
          · exact absurd ⟨h, rfl⟩ h0
          · exact h
        obtain ⟨ad, e, _⟩ := hr hp
        cases e
      · refine ⟨ad, rfl, fun j u hu => ?_⟩
        have hp : 0 < ys.length := Nat.lt_of_le_of_lt (Nat.zero_le _) (List.getElem?_eq_some_iff.1 hu).1
        obtain ⟨ad', e, _, hc⟩ := hr hp
        injection e with e
        subst e
        exact hc j u hu
    obtain ⟨v', w', hrun, h2, h3, _, h5⟩ := run_append_own_at (P := P) w base t o.type E i z 1 bytes ht hi hz hsize hby hzs (by omega) v xs.length xs hown ad ys.length c ys (by simp) hc h1 h63 hbytes hbase
    unfold Oper.wp execOp
    simp only [ho, resolve, invoke, builtin, Sem.run_bind, Sem.run_pure, Result.andThen_ok, List.map_toArray, List.map_cons, List.map_nil, hs, hx, hrun]
    refine hK _ _ (h v' w' (by simpa [Own] using h2) h3 ?_)
    rcases h5 with h5 | h5
    · exact .inl h5
    · exact .inr ⟨_, h5, Nat.le_refl _⟩
end
end Go.Proofs.Ytknjdaokidcllaa

/- Rows of texts that a call made: what a call that answers one says. -/
namespace Go.Proofs.Ytknjdaokidcllaa
open Go.RowKit
set_option linter.unusedVariables false
set_option linter.unusedSimpArgs false
set_option maxRecDepth 100000

theorem str_info : (Try.prog.info? 9).map (fun i => (i.zero, i.size, i.bytes)) = some (some (.string ⟨#[]⟩), 1, 16) := by kernel_rfl

/-- The call answers a row of its own of just these texts; nothing that was there has turned. -/
def RowOf (w : World) (xs : List ByteArray) (e : Ending) (w' : World) : Prop :=
  ∃ v, e = .returned v ∧ Go.Proofs.Ytknjdaokidcllaa.Own 9 w.heap.size w' v (xs.map Value.string) ∧ Below w.heap.size w w'

theorem ownsRow_less {W : World} {b b' : Nat} {e : TypeId} {size : Nat} {v : Value} {n : Nat} {xs : List Value} (h : W.ownsRow b e size v n xs) (hb : b' ≤ b) : W.ownsRow b' e size v n xs := by
  obtain ⟨h1, h2⟩ := h
  refine ⟨h1, ?_⟩
  rcases h2 with h2 | ⟨g, cap, cur, hv, hg, r⟩
  · exact Or.inl h2
  · exact Or.inr ⟨g, cap, cur, hv, by omega, r⟩
end Go.Proofs.Ytknjdaokidcllaa

/- The document's own Parts. -/
namespace Go.Proofs.Ytknjdaokidcllaa
open Go.RowKit
set_option linter.unusedVariables false
set_option linter.unusedSimpArgs false
set_option maxRecDepth 100000

/-- A row of the call's own, made since w. -/
def Mine (w wi : World) (v : Value) (xs : List ByteArray) : Prop := w.grownBy wi none ∧ Go.Proofs.Ytknjdaokidcllaa.Own 9 w.heap.size wi v (xs.map Value.string)
theorem Mine.app {w wi wj : World} {v v' : Value} {xs ys : List ByteArray} (h : Mine w wi v xs) (ho : Go.Proofs.Ytknjdaokidcllaa.Own 9 w.heap.size wj v' (ys.map Value.string)) (g : wi.grownBy wj v.ownBlock) : Mine w wj v' ys := by
  refine ⟨?_, ho⟩
  rcases ho' : v.ownBlock with _ | k
  · rw [ho'] at g; exact grownBy_trans h.1 g
  · rw [ho'] at g; exact grownBy_over h.1 g (h.2.lt k ho').1
theorem Mine.row {w w' : World} {v : Value} {xs : List ByteArray} (h : Mine w w' v xs) : RowOf w xs (.returned v) w' :=
  ⟨v, rfl, h.2, (Below.refl _ _).grown h.1 (Nat.le_refl _) (fun k e => by cases e)⟩

def RpartsAt (w : World) (s : ByteArray) (b : Int) (out at_ i : Value) (wr : World) : Prop :=
  ∃ k : Nat, k ≤ s.size ∧ i = .int .i64 k ∧ at_ = .int .i64 (cuts s b k).2 ∧ Mine w wr out (cuts s b k).1

theorem rparts_is (s : ByteArray) (b : Int) (w : World) (h : s.size ≤ 2000) : Calls Try.prog 89 #[.string s, .int .u8 b] w (RowOf w (partsB s b)) := by
  obtain ⟨i0, hi0, hz0, hz1, hz2⟩ := info_parts str_info
  have HI := Lib.hid hi0
  have HZ0 := Lib.hid hz0
  have HZ1 := Lib.hid hz1
  have HZ2 := Lib.hid hz2
  clear hi0 hz0 hz1 hz2
  have S : Mine w (w.alloc (.cells #[] 9)) (.slice (some ⟨w.heap.size, 0, none⟩) 0 0) [] := ⟨World.grownBy_alloc _ _ _, Own.empty (Nat.le_refl _)⟩
  go_enter Try.func89, Try.ntmps89
  go_wp2_with fail
  go_loopw [5, 6, 7] (fun out at_ i wr => RpartsAt w s b out at_ i wr) (fun _ _ i _ => s.size - (intOf i).toNat)
  case atStart => exact ⟨0, by omega, rfl, rfl, S⟩
  case round =>
    obtain ⟨k, hk, rfl, rfl, S⟩ := hrel
    have hat := cuts_at s b k
    have hcc := cuts_count s b k
    by_cases hlt : k < s.size
    · by_cases hb : (s[k].toNat : Int) = b
      · have hn1 := cuts_hit hlt hb
        have HN := Lib.hid hn1
        have t1 : ((s[k].toNat : Int) == b) = true := by simp [hb]
        clear hb hn1
        go_wp2_with (at_builtin; refine wpList_append_one rfl (.tmp 20) (.tmp 25) 22 rfl i0 (.string ⟨#[]⟩) 16 Try.underlying22 HI.out HZ0.out HZ1.out HZ2.out rfl rfl _ (.string (s.extract (cuts s b k).2 k)) rfl S.2 rfl (by simp [maxLen]; omega) (by simp; omega) S.1.size ?_; intro out' w4 ho hg hb4; have S4 := S.app (ys := (cuts s b k).1 ++ [s.extract (cuts s b k).2 k]) (by simpa using ho) hg)
        go_roundw
        case rel => exact ⟨k + 1, by omega, by go_num, by rw [HN.out]; go_num, by rw [HN.out]; exact S4⟩
        case measure => simp [intOf]; omega
      · have hn1 := cuts_miss hlt hb
        have HN := Lib.hid hn1
        have t1 : ((s[k].toNat : Int) == b) = false := by simp [hb]
        clear hb hn1
        go_wp2_with fail
        go_roundw
        case rel => exact ⟨k + 1, by omega, by go_num, by rw [HN.out], by rw [HN.out]; exact S⟩
        case measure => simp [intOf]; omega
    · obtain rfl : k = s.size := by omega
      go_wp2_with (at_builtin; refine wpList_append_one rfl (.tmp 29) (.tmp 33) 22 rfl i0 (.string ⟨#[]⟩) 16 Try.underlying22 HI.out HZ0.out HZ1.out HZ2.out rfl rfl _ (.string (s.extract (cuts s b s.size).2 s.size)) rfl S.2 rfl (by simp [maxLen]; omega) (by simp; omega) S.1.size ?_; intro out' w4 ho hg hb4; have S4 := S.app (ys := partsB s b) (by simpa [partsB] using ho) hg)
      go_ret
      exact S4.row

theorem grownBy_drewN (w : World) (n : Nat) (r : Option Nat) : w.grownBy (w.drewN n) r := ⟨rfl, rfl, rfl, Nat.le_refl _, fun _ _ _ => rfl⟩
end Go.Proofs.Ytknjdaokidcllaa

/- The document's own Name and Path. -/
namespace Go.Proofs.Ytknjdaokidcllaa
open Go.RowKit
set_option linter.unusedVariables false
set_option linter.unusedSimpArgs false
set_option maxRecDepth 100000

theorem lowI_word {n : Int} (h : lowI n = true) : wordI n = true := by simp [wordI, h]
theorem slashI_path {n : Int} (h : slashI n = true) : pathI n = true := by simp [pathI, h]

theorem rname_not (s : ByteArray) (w : World) (h : s.size = 0 ∨ 16 < s.size) :
    Calls Try.prog 58 #[.string s] w fun e w' => e = .returned (.bool false) ∧ w = w' := by
  rcases h with h | h
  · have h1 : decide ((s.size : Int) < 1) = true := by simp; omega
    have H := Lib.hid h
    clear h
    go_enter Try.func58, Try.ntmps58
    go_wp2
    go_ret
    exact ⟨rfl, rfl⟩
  · have h1 : decide ((s.size : Int) < 1) = false := by simp; omega
    have h2 : decide ((16 : Int) < (s.size : Int)) = true := by simp; omega
    go_enter Try.func58, Try.ntmps58
    go_wp2
    go_ret
    exact ⟨rfl, rfl⟩

theorem rname_first (s : ByteArray) (w : World) (h : 0 < s.size) (hM : s.size ≤ 16) (hf : lowI (s[0].toNat : Int) = false) :
    Calls Try.prog 58 #[.string s] w fun e w' => e = .returned (.bool false) ∧ w = w' := by
  have h1 : decide ((s.size : Int) < 1) = false := by simp; omega
  have h2 : decide ((16 : Int) < (s.size : Int)) = false := by simp; omega
  have hc := fun w => low_is (s[0].toNat : Int) w (by omega) (by have := s[0].toNat_lt; omega)
  rw [hf] at hc
  have HF := Lib.hid hf
  clear hf
  go_enter Try.func58, Try.ntmps58
  go_wp2_with (go_at_call 72; refine (hc _).mono ?_; rintro e w' ⟨rfl, rfl⟩)
  go_ret
  exact ⟨rfl, rfl⟩

def seenR (s : ByteArray) (i : Value) : Prop := ∃ k : Nat, k ≤ s.size ∧ i = .int .i64 k ∧ ∀ j (hj : j < s.size), j < k → wordI (s[j].toNat : Int) = true

theorem rname_runs (s : ByteArray) (w : World) (h : 0 < s.size) (hM : s.size ≤ 16) (hf : lowI (s[0].toNat : Int) = true) :
    Calls Try.prog 58 #[.string s] w fun e w' => e = .returned (.bool (nameB s)) ∧ w = w' := by
  have h1 : decide ((s.size : Int) < 1) = false := by simp; omega
  have h2 : decide ((16 : Int) < (s.size : Int)) = false := by simp; omega
  have hc := fun w => low_is (s[0].toNat : Int) w (by omega) (by have := s[0].toNat_lt; omega)
  rw [hf] at hc
  have HF := Lib.hid hf
  clear hf
  go_enter Try.func58, Try.ntmps58
  go_wp2_with (go_at_call 72; refine (hc _).mono ?_; rintro e w' ⟨rfl, rfl⟩)
  clear hc h1 h2
  go_loop [3] (fun i => seenR s i) (fun i => s.size - (intOf i).toNat)
  case atStart => exact ⟨0, by omega, rfl, fun j _ h0 => by omega⟩
  case round =>
    obtain ⟨k, hk, rfl, hseen⟩ := hrel
    have HS := Lib.hid hseen
    clear hseen
    by_cases hlt : k < s.size
    · have hcg := fun w => word_is (s[k].toNat : Int) w (by omega) (by have := s[k].toNat_lt; omega)
      obtain ⟨b, hb⟩ : ∃ b, wordI (s[k].toNat : Int) = b := ⟨_, rfl⟩
      rw [hb] at hcg
      have HB := Lib.hid hb
      clear hb
      cases b with
      | false =>
        have h0 : 0 < k := by
          rcases Nat.eq_zero_or_pos k with rfl | h0
          · exact absurd (lowI_word HF.out) (by rw [HB.out]; exact Bool.false_ne_true)
          · exact h0
        go_wp2_with (go_at_call 73; refine (hcg _).mono ?_; rintro e w' ⟨rfl, rfl⟩)
        go_ret
        exact ⟨ret_bool (kindB_next hlt h0 HB.out).symm, rfl⟩
      | true =>
        go_wp2_with (go_at_call 73; refine (hcg _).mono ?_; rintro e w' ⟨rfl, rfl⟩)
        go_round
        case rel => exact ⟨k + 1, by omega, by go_num, fun j hj h0 => by
          by_cases e : j = k
          · subst e; exact HB.out
          · exact HS.out j hj (by omega)⟩
        case measure => simp [intOf]; omega
    · go_wp2
      go_ret
      exact ⟨ret_bool (kindB_yes h hM HF.out fun j hj h0 => HS.out j hj (by omega)).symm, rfl⟩

theorem rname_is (s : ByteArray) (w : World) : Calls Try.prog 58 #[.string s] w fun e w' => e = .returned (.bool (nameB s)) ∧ w = w' := by
  by_cases h0 : s.size = 0
  · exact (rname_not s w (.inl h0)).mono fun _ _ h => by rw [nameB, kindB_empty h0]; exact h
  · by_cases h1 : 16 < s.size
    · exact (rname_not s w (.inr h1)).mono fun _ _ h => by rw [nameB, kindB_long h1]; exact h
    · have h2 : 0 < s.size := by omega
      rcases hf : lowI (s[0].toNat : Int) with _ | _
      · exact (rname_first s w h2 (by omega) hf).mono fun _ _ h => by rw [nameB, kindB_first h2 hf]; exact h
      · exact rname_runs s w h2 (by omega) hf

/-! Path. -/
theorem rpath_not (s : ByteArray) (w : World) (h : s.size = 0 ∨ 32 < s.size) :
    Calls Try.prog 60 #[.string s] w fun e w' => e = .returned (.bool false) ∧ w = w' := by
  rcases h with h | h
  · have h1 : decide ((s.size : Int) < 1) = true := by simp; omega
    have H := Lib.hid h
    clear h
    go_enter Try.func60, Try.ntmps60
    go_wp2
    go_ret
    exact ⟨rfl, rfl⟩
  · have h1 : decide ((s.size : Int) < 1) = false := by simp; omega
    have h2 : decide ((32 : Int) < (s.size : Int)) = true := by simp; omega
    go_enter Try.func60, Try.ntmps60
    go_wp2
    go_ret
    exact ⟨rfl, rfl⟩

theorem slashI_no {n : Int} (h : slashI n = false) : (n != 47) = true := by simpa [slashI] using h
theorem slashI_yes {n : Int} (h : slashI n = true) : (n != 47) = false := by simpa [slashI] using h

theorem rpath_first (s : ByteArray) (w : World) (h : 0 < s.size) (hM : s.size ≤ 32) (hf : slashI (s[0].toNat : Int) = false) :
    Calls Try.prog 60 #[.string s] w fun e w' => e = .returned (.bool false) ∧ w = w' := by
  have h1 : decide ((s.size : Int) < 1) = false := by simp; omega
  have h2 : decide ((32 : Int) < (s.size : Int)) = false := by simp; omega
  have h3 := slashI_no hf
  clear hf
  go_enter Try.func60, Try.ntmps60
  go_wp2
  go_ret
  exact ⟨rfl, rfl⟩

def seenQ (s : ByteArray) (i : Value) : Prop := ∃ k : Nat, k ≤ s.size ∧ i = .int .i64 k ∧ ∀ j (hj : j < s.size), j < k → pathI (s[j].toNat : Int) = true

theorem rpath_runs (s : ByteArray) (w : World) (h : 0 < s.size) (hM : s.size ≤ 32) (hf : slashI (s[0].toNat : Int) = true) :
    Calls Try.prog 60 #[.string s] w fun e w' => e = .returned (.bool (pathB s)) ∧ w = w' := by
  have h1 : decide ((s.size : Int) < 1) = false := by simp; omega
  have h2 : decide ((32 : Int) < (s.size : Int)) = false := by simp; omega
  have h3 := slashI_yes hf
  have HF := Lib.hid hf
  clear hf
  go_enter Try.func60, Try.ntmps60
  go_wp2
  clear h3 h1 h2
  go_loop [3] (fun i => seenQ s i) (fun i => s.size - (intOf i).toNat)
  case atStart => exact ⟨0, by omega, rfl, fun j _ h0 => by omega⟩
  case round =>
    obtain ⟨k, hk, rfl, hseen⟩ := hrel
    have HS := Lib.hid hseen
    clear hseen
    by_cases hlt : k < s.size
    · have hcg := fun w => word_is (s[k].toNat : Int) w (by omega) (by have := s[k].toNat_lt; omega)
      obtain ⟨b, hb⟩ : ∃ b, wordI (s[k].toNat : Int) = b := ⟨_, rfl⟩
      obtain ⟨c, hc⟩ : ∃ c, slashI (s[k].toNat : Int) = c := ⟨_, rfl⟩
      rw [hb] at hcg
      have HP : Hid (pathI (s[k].toNat : Int) = (b || c)) := Lib.hid (by rw [pathI, hb, hc])
      have HC := Lib.hid hc
      clear hb hc
      cases b with
      | false =>
        cases c with
        | false =>
          have h0 : 0 < k := by
            rcases Nat.eq_zero_or_pos k with rfl | h0
            · exact absurd (slashI_path HF.out) (by rw [HP.out]; exact Bool.false_ne_true)
            · exact h0
          have h4 := slashI_no HC.out
          go_wp2_with (go_at_call 73; refine (hcg _).mono ?_; rintro e w' ⟨rfl, rfl⟩)
          go_ret
          exact ⟨ret_bool (kindB_next hlt h0 HP.out).symm, rfl⟩
        | true =>
          have h4 := slashI_yes HC.out
          go_wp2_with (go_at_call 73; refine (hcg _).mono ?_; rintro e w' ⟨rfl, rfl⟩)
          go_round
          case rel => exact ⟨k + 1, by omega, by go_num, fun j hj h0 => by
            by_cases e : j = k
            · subst e; exact HP.out
            · exact HS.out j hj (by omega)⟩
          case measure => simp [intOf]; omega
      | true =>
        go_wp2_with (go_at_call 73; refine (hcg _).mono ?_; rintro e w' ⟨rfl, rfl⟩)
        go_round
        case rel => exact ⟨k + 1, by omega, by go_num, fun j hj h0 => by
          by_cases e : j = k
          · subst e; exact HP.out
          · exact HS.out j hj (by omega)⟩
        case measure => simp [intOf]; omega
    · go_wp2
      go_ret
      exact ⟨ret_bool (kindB_yes h hM HF.out fun j hj h0 => HS.out j hj (by omega)).symm, rfl⟩

theorem rpath_is (s : ByteArray) (w : World) : Calls Try.prog 60 #[.string s] w fun e w' => e = .returned (.bool (pathB s)) ∧ w = w' := by
  by_cases h0 : s.size = 0
  · exact (rpath_not s w (.inl h0)).mono fun _ _ h => by rw [pathB, kindB_empty h0]; exact h
  · by_cases h1 : 32 < s.size
    · exact (rpath_not s w (.inr h1)).mono fun _ _ h => by rw [pathB, kindB_long h1]; exact h
    · have h2 : 0 < s.size := by omega
      rcases hf : slashI (s[0].toNat : Int) with _ | _
      · exact (rpath_first s w h2 (by omega) hf).mono fun _ _ h => by rw [pathB, kindB_first h2 hf]; exact h
      · exact rpath_runs s w h2 (by omega) hf
end Go.Proofs.Ytknjdaokidcllaa

/- The document's own Host. -/
namespace Go.Proofs.Ytknjdaokidcllaa
open Go.RowKit
set_option linter.unusedVariables false
set_option linter.unusedSimpArgs false
set_option maxRecDepth 100000

theorem map_string_length (xs : List ByteArray) : (xs.map Value.string).length = xs.length := List.length_map ..

theorem rhost_is (s : ByteArray) (w : World) (h : s.size ≤ 2000) : Calls Try.prog 74 #[.string s] w (Says w (hostB s)) := by
  have hlen := partsB_count s 46
  go_enter Try.func74, Try.ntmps74
  go_wp2_with fail
  refine (rparts_is s 46 w h).mono ?_
  rintro e w1 ⟨v, rfl, ho, hb⟩
  obtain ⟨A, c, rfl⟩ := ho.slice
  rw [map_string_length]
  have hr := Lib.hid ho.reads
  obtain ⟨xs, hxs⟩ : ∃ xs, partsB s 46 = xs := ⟨_, rfl⟩
  rw [hxs] at hr hlen ⊢
  have HX := Lib.hid hxs
  clear hxs ho
  go_wp2_with fail
  go_loop [4] (fun i => ∃ k : Nat, k ≤ xs.length ∧ i = .int .i64 k ∧ ∀ y ∈ xs.take k, nameB y = true) (fun i => xs.length - (intOf i).toNat)
  case atStart => exact ⟨0, by omega, rfl, fun y hy => by simp at hy⟩
  case round =>
    obtain ⟨k, hk, rfl, hp⟩ := hrel
    have HP := Lib.hid hp
    clear hp
    by_cases hlt : k < xs.length
    · obtain ⟨ad, rfl, _, hc⟩ := hr.out.str hlt
      have ht : xs.take (k + 1) = xs.take k ++ [xs[k]] := List.take_succ_eq_append_getElem hlt
      have HT := Lib.hid ht
      have HM := Lib.hid (List.getElem_mem hlt)
      clear ht
      generalize xs[k] = z at hc HT HM
      have hN := rname_is z w1
      obtain ⟨c, hc'⟩ : ∃ c, nameB z = c := ⟨_, rfl⟩
      rw [hc'] at hN
      have HC := Lib.hid hc'
      clear hc'
      cases c with
      | false =>
        go_wp2_with fail
        refine hN.mono ?_
        rintro e w' ⟨rfl, rfl⟩
        go_wp2_with fail
        go_ret
        refine ⟨ret_bool ?_, hb⟩
        rw [hostB, HX.out]
        symm
        rw [Bool.and_eq_false_iff]
        refine .inr ?_
        rw [Bool.eq_false_iff]
        intro ha
        have := List.all_eq_true.1 ha z HM.out
        rw [HC.out] at this
        cases this
      | true =>
        go_wp2_with fail
        refine hN.mono ?_
        rintro e w' ⟨rfl, rfl⟩
        go_wp2_with fail
        go_round
        case rel => exact ⟨k + 1, by omega, by go_num, fun y hy => by
          rw [HT.out] at hy
          rcases List.mem_append.1 hy with hy | hy
          · exact HP.out y hy
          · simp at hy; subst hy; exact HC.out⟩
        case measure => simp [intOf]; omega
    · obtain rfl : k = xs.length := by omega
      have hq : xs.all nameB = true := by
        rw [List.all_eq_true]; intro y hy; exact HP.out y (by rw [List.take_length]; exact hy)
      have HQ := Lib.hid hq
      clear hq
      go_wp2_with fail
      go_ret
      refine ⟨ret_bool ?_, hb⟩
      rw [hostB, HX.out, HQ.out, Bool.and_true]
      first | rfl | (congr 1; apply propext; omega)
end Go.Proofs.Ytknjdaokidcllaa

/- Patterns: what a pattern of a tail is of, and which texts are patterns, by the program and by the document. -/
namespace Go.Proofs.Ytknjdaokidcllaa
open Go.RowKit
set_option linter.unusedVariables false
set_option linter.unusedSimpArgs false
set_option maxRecDepth 100000

/-- Does a text begin with these two bytes? -/
def tailB (s : ByteArray) : Bool := decide (2 ≤ s.size) && ((s.extract 0 2).toList == [42, 46])
def trimB (s : ByteArray) : ByteArray := bif tailB s then s.extract 2 s.size else s
def patternB (s : ByteArray) : Bool := (s.toList == [42]) || hostB (trimB s)

theorem hasPrefix_is (s : ByteArray) (w : World) : Calls Try.prog 99 #[.string s, .string ⟨#[42, 46]⟩] w fun e w' => e = .returned (.bool (tailB s)) ∧ w = w' := by
  by_cases h : 2 ≤ s.size
  · have h1 : decide ((2 : Int) ≤ (s.size : Int)) = true := by simp; omega
    have h2 : decide (2 ≤ s.size) = true := decide_eq_true h
    unfold tailB
    rw [h2, Bool.true_and]
    clear h2
    obtain ⟨t, ht⟩ : ∃ t, s.extract 0 2 = t := ⟨_, rfl⟩
    rw [ht]
    go_enter Try.func99, Try.ntmps99
    go_wp2
    go_ret
    exact ⟨rfl, rfl⟩
  · have h1 : decide ((2 : Int) ≤ (s.size : Int)) = false := by simp; omega
    have h2 : decide (2 ≤ s.size) = false := decide_eq_false h
    unfold tailB
    rw [h2, Bool.false_and]
    clear h2
    go_enter Try.func99, Try.ntmps99
    go_wp2
    go_ret
    exact ⟨rfl, rfl⟩

theorem tail_size {s : ByteArray} (h : tailB s = true) : 2 ≤ s.size := by
  unfold tailB at h
  rw [Bool.and_eq_true] at h
  exact of_decide_eq_true h.1

theorem trimLite_is (s : ByteArray) (w : World) : Calls Try.prog 92 #[.string s, .string ⟨#[42, 46]⟩] w fun e w' => e = .returned (.string (trimB s)) ∧ w = w' := by
  have hp := hasPrefix_is s w
  obtain ⟨c, hc⟩ : ∃ c, tailB s = c := ⟨_, rfl⟩
  rw [hc] at hp
  unfold trimB
  rw [hc]
  cases c with
  | true =>
    have h2 := tail_size hc
    clear hc
    go_enter Try.func92, Try.ntmps92
    go_wp2_with fail
    refine hp.mono ?_
    rintro e w' ⟨rfl, rfl⟩
    go_wp2_with fail
    go_ret
    exact ⟨rfl, rfl⟩
  | false =>
    clear hc
    go_enter Try.func92, Try.ntmps92
    go_wp2_with fail
    refine hp.mono ?_
    rintro e w' ⟨rfl, rfl⟩
    go_wp2_with fail
    go_ret
    exact ⟨rfl, rfl⟩

theorem trim_is (s : ByteArray) (w : World) : Calls Try.prog 82 #[.string s, .string ⟨#[42, 46]⟩] w fun e w' => e = .returned (.string (trimB s)) ∧ w = w' := by
  obtain ⟨t, ht⟩ : ∃ t, trimB s = t := ⟨_, rfl⟩
  have hp := trimLite_is s w
  rw [ht] at hp ⊢
  clear ht
  go_enter Try.func82, Try.ntmps82
  go_wp2_with fail
  refine hp.mono ?_
  rintro e w' ⟨rfl, rfl⟩
  go_wp2_with fail
  go_ret
  exact ⟨rfl, rfl⟩

theorem pattern_is (s : ByteArray) (w : World) : Calls Try.prog 65 #[.string s] w (Says w (patternB s)) := by
  obtain ⟨c, hc⟩ : ∃ c, (s.toList == [42]) = c := ⟨_, rfl⟩
  unfold patternB
  rw [hc]
  cases c with
  | true =>
    rw [Bool.true_or]
    go_enter Try.func65, Try.ntmps65
    go_wp2_with fail
    go_ret
    exact ⟨rfl, Below.refl _ _⟩
  | false =>
    rw [Bool.false_or]
    have ht := trim_is s w
    generalize trimB s = t at ht ⊢
    have hh := host_is t w
    generalize hostB t = d at hh ⊢
    go_enter Try.func65, Try.ntmps65
    go_wp2_with fail
    refine ht.mono ?_
    rintro e w' ⟨rfl, rfl⟩
    go_wp2_with fail
    refine hh.mono ?_
    rintro e w1 ⟨rfl, hb⟩
    go_wp2_with fail
    go_ret
    exact ⟨rfl, hb⟩

/-! The document's own. -/
theorem size_list (s : ByteArray) : s.data.toList.length = s.size := by simp
theorem toList_data (s : ByteArray) : s.toList = s.data.toList := ByteArray.toList_eq s
theorem hostB_empty {s : ByteArray} (h : s.size = 0) : hostB s = false := by
  rw [hostB_list]
  have : s.data.toList = [] := List.eq_nil_of_length_eq_zero (by rw [size_list]; exact h)
  rw [this]; rfl
theorem extract_list (s : ByteArray) (a b : Nat) : (s.extract a b).data.toList = (s.data.toList.take b).drop a := by
  rw [ByteArray.data_extract, Array.toList_extract, List.extract_eq_take_drop, List.drop_take]

theorem pattern_tail {s : ByteArray} (h : tailB s = true) (h2 : 2 < s.size) : patternB s = hostB (s.extract 2 s.size) := by
  rw [patternB, trimB, h, cond_true]
  have : (s.toList == [42]) = false := by
    rw [beq_eq_false_iff_ne]
    intro e
    rw [toList_data] at e
    have := size_list s
    rw [e] at this
    simp at this; omega
  rw [this, Bool.false_or]
theorem pattern_plain {s : ByteArray} (h : tailB s = false ∨ s.size ≤ 2) : patternB s = ((s.toList == [42]) || hostB s) := by
  rcases hc : tailB s with _ | _
  · rw [patternB, trimB, hc, cond_false]
  · have h2 := tail_size hc
    have h3 : s.size = 2 := by
      rcases h with h | h
      · rw [hc] at h; cases h
      · omega
    have he : (s.extract 2 s.size).size = 0 := by simp; omega
    rw [patternB, trimB, hc, cond_true, hostB_empty he]
    have hs : s.data.toList = [42, 46] := by
      unfold tailB at hc
      rw [Bool.and_eq_true, beq_iff_eq, toList_data, extract_list] at hc
      have := hc.2
      rwa [List.drop_zero, List.take_of_length_le (by rw [size_list]; omega)] at this
    have hh : hostB s = false := by rw [hostB_list, hs]; rfl
    rw [hh]

theorem rpattern_is (s : ByteArray) (w : World) (h : s.size ≤ 2000) : Calls Try.prog 59 #[.string s] w (Says w (patternB s)) := by
  by_cases h2 : 2 < s.size
  · have h1 : decide ((2 : Int) < (s.size : Int)) = true := by simp; omega
    have h3 : (s.extract 2 s.size).size ≤ 2000 := by simp; omega
    obtain ⟨c, hc⟩ : ∃ c, ((s.extract 0 2).toList == [42, 46]) = c := ⟨_, rfl⟩
    have ht : tailB s = c := by rw [tailB, hc, decide_eq_true (by omega), Bool.true_and]
    cases c with
    | true =>
      rw [pattern_tail ht h2]
      clear ht
      obtain ⟨t, het⟩ : ∃ t, s.extract 2 s.size = t := ⟨_, rfl⟩
      have hh := rhost_is (s.extract 2 s.size) w h3
      rw [het] at hh ⊢
      generalize hostB t = d at hh ⊢
      clear h3
      go_enter Try.func59, Try.ntmps59
      go_wp2_with fail
      refine hh.mono ?_
      rintro e w1 ⟨rfl, hb⟩
      go_wp2_with fail
      go_ret
      exact ⟨rfl, hb⟩
    | false =>
      rw [pattern_plain (.inl ht)]
      clear ht h3
      have hh := rhost_is s w h
      generalize hostB s = d at hh ⊢
      obtain ⟨q, hq⟩ : ∃ q, (s.toList == [42]) = q := ⟨_, rfl⟩
      rw [hq]
      cases q with
      | true =>
        rw [Bool.true_or]
        go_enter Try.func59, Try.ntmps59
        go_wp2_with fail
        go_ret
        exact ⟨rfl, Below.refl _ _⟩
      | false =>
        rw [Bool.false_or]
        go_enter Try.func59, Try.ntmps59
        go_wp2_with fail
        refine hh.mono ?_
        rintro e w1 ⟨rfl, hb⟩
        go_wp2_with fail
        go_ret
        exact ⟨rfl, hb⟩
  · have h1 : decide ((2 : Int) < (s.size : Int)) = false := by simp; omega
    rw [pattern_plain (.inr (by omega))]
    have hh := rhost_is s w h
    generalize hostB s = d at hh ⊢
    obtain ⟨q, hq⟩ : ∃ q, (s.toList == [42]) = q := ⟨_, rfl⟩
    rw [hq]
    cases q with
    | true =>
      rw [Bool.true_or]
      go_enter Try.func59, Try.ntmps59
      go_wp2_with fail
      go_ret
      exact ⟨rfl, Below.refl _ _⟩
    | false =>
      rw [Bool.false_or]
      go_enter Try.func59, Try.ntmps59
      go_wp2_with fail
      refine hh.mono ?_
      rintro e w1 ⟨rfl, hb⟩
      go_wp2_with fail
      go_ret
      exact ⟨rfl, hb⟩
end Go.Proofs.Ytknjdaokidcllaa

/- Beginnings and ends of texts: what package strings says of them, at any two texts. -/
namespace Go.Proofs.Ytknjdaokidcllaa
open Go.RowKit
set_option linter.unusedVariables false
set_option linter.unusedSimpArgs false
set_option maxRecDepth 100000

def preB (s p : ByteArray) : Bool := decide (p.size ≤ s.size) && ((s.extract 0 p.size).toList == p.toList)
def sufB (s p : ByteArray) : Bool := decide (p.size ≤ s.size) && ((s.extract (s.size - p.size) s.size).toList == p.toList)
def cutB (s p : ByteArray) : ByteArray := bif preB s p then s.extract p.size s.size else s

theorem pre_size {s p : ByteArray} (h : preB s p = true) : p.size ≤ s.size := by
  unfold preB at h
  rw [Bool.and_eq_true] at h
  exact of_decide_eq_true h.1

theorem preLite_is (s p : ByteArray) (w : World) : Calls Try.prog 99 #[.string s, .string p] w fun e w' => e = .returned (.bool (preB s p)) ∧ w = w' := by
  by_cases h : p.size ≤ s.size
  · have h1 : decide (p.size ≤ s.size) = true := decide_eq_true h
    unfold preB
    rw [h1, Bool.true_and]
    obtain ⟨t, ht⟩ : ∃ t, s.extract 0 p.size = t := ⟨_, rfl⟩
    rw [ht]
    go_enter Try.func99, Try.ntmps99
    go_wp2
    go_ret
    exact ⟨rfl, rfl⟩
  · have h1 : decide (p.size ≤ s.size) = false := decide_eq_false h
    unfold preB
    rw [h1, Bool.false_and]
    go_enter Try.func99, Try.ntmps99
    go_wp2
    go_ret
    exact ⟨rfl, rfl⟩

theorem pre_is (s p : ByteArray) (w : World) : Calls Try.prog 97 #[.string s, .string p] w fun e w' => e = .returned (.bool (preB s p)) ∧ w = w' := by
  have hp := preLite_is s p w
  generalize preB s p = c at hp ⊢
  go_enter Try.func97, Try.ntmps97
  go_wp2_with fail
  refine hp.mono ?_
  rintro e w' ⟨rfl, rfl⟩
  go_wp2_with fail
  go_ret
  exact ⟨rfl, rfl⟩

theorem sufLite_is (s p : ByteArray) (w : World) (hs : s.size ≤ 2000) : Calls Try.prog 100 #[.string s, .string p] w fun e w' => e = .returned (.bool (sufB s p)) ∧ w = w' := by
  by_cases h : p.size ≤ s.size
  · have h1 : decide (p.size ≤ s.size) = true := decide_eq_true h
    obtain ⟨k, hk⟩ : ∃ k, s.size = p.size + k := ⟨s.size - p.size, by omega⟩
    have e1 : (s.size : Int) - (p.size : Int) = (k : Int) := by omega
    have e2 : s.size - p.size = k := by omega
    have e3 : k ≤ s.size := by omega
    unfold sufB
    rw [h1, Bool.true_and, e2]
    clear hk e2
    obtain ⟨t, ht⟩ : ∃ t, s.extract k s.size = t := ⟨_, rfl⟩
    rw [ht]
    go_enter Try.func100, Try.ntmps100
    go_wp2
    go_ret
    exact ⟨rfl, rfl⟩
  · have h1 : decide (p.size ≤ s.size) = false := decide_eq_false h
    unfold sufB
    rw [h1, Bool.false_and]
    go_enter Try.func100, Try.ntmps100
    go_wp2
    go_ret
    exact ⟨rfl, rfl⟩

theorem suf_is (s p : ByteArray) (w : World) (hs : s.size ≤ 2000) : Calls Try.prog 94 #[.string s, .string p] w fun e w' => e = .returned (.bool (sufB s p)) ∧ w = w' := by
  have hp := sufLite_is s p w hs
  generalize sufB s p = c at hp ⊢
  go_enter Try.func94, Try.ntmps94
  go_wp2_with fail
  refine hp.mono ?_
  rintro e w' ⟨rfl, rfl⟩
  go_wp2_with fail
  go_ret
  exact ⟨rfl, rfl⟩

theorem cutTrimLite_is (s p : ByteArray) (w : World) : Calls Try.prog 92 #[.string s, .string p] w fun e w' => e = .returned (.string (cutB s p)) ∧ w = w' := by
  have hp := preLite_is s p w
  obtain ⟨c, hc⟩ : ∃ c, preB s p = c := ⟨_, rfl⟩
  rw [hc] at hp
  unfold cutB
  rw [hc]
  cases c with
  | true =>
    have h2 := pre_size hc
    clear hc
    go_enter Try.func92, Try.ntmps92
    go_wp2_with fail
    refine hp.mono ?_
    rintro e w' ⟨rfl, rfl⟩
    go_wp2_with fail
    go_ret
    exact ⟨rfl, rfl⟩
  | false =>
    clear hc
    go_enter Try.func92, Try.ntmps92
    go_wp2_with fail
    refine hp.mono ?_
    rintro e w' ⟨rfl, rfl⟩
    go_wp2_with fail
    go_ret
    exact ⟨rfl, rfl⟩

theorem cutTrim_is (s p : ByteArray) (w : World) : Calls Try.prog 82 #[.string s, .string p] w fun e w' => e = .returned (.string (cutB s p)) ∧ w = w' := by
  have hp := cutTrimLite_is s p w
  generalize cutB s p = c at hp ⊢
  go_enter Try.func82, Try.ntmps82
  go_wp2_with fail
  refine hp.mono ?_
  rintro e w' ⟨rfl, rfl⟩
  go_wp2_with fail
  go_ret
  exact ⟨rfl, rfl⟩

theorem cutLite_is (s p : ByteArray) (w : World) : Calls Try.prog 101 #[.string s, .string p] w fun e w' => e = .returned (.tuple #[.string (cutB s p), .bool (preB s p)]) ∧ w = w' := by
  have hp := preLite_is s p w
  obtain ⟨c, hc⟩ : ∃ c, preB s p = c := ⟨_, rfl⟩
  rw [hc] at hp
  unfold cutB
  rw [hc]
  cases c with
  | true =>
    have h2 := pre_size hc
    clear hc
    go_enter Try.func101, Try.ntmps101
    go_wp2_with fail
    refine hp.mono ?_
    rintro e w' ⟨rfl, rfl⟩
    go_wp2_with fail
    go_ret2
    exact ⟨rfl, rfl⟩
  | false =>
    clear hc
    go_enter Try.func101, Try.ntmps101
    go_wp2_with fail
    refine hp.mono ?_
    rintro e w' ⟨rfl, rfl⟩
    go_wp2_with fail
    go_ret2
    exact ⟨rfl, rfl⟩

theorem cut_is (s p : ByteArray) (w : World) : Calls Try.prog 96 #[.string s, .string p] w fun e w' => e = .returned (.tuple #[.string (cutB s p), .bool (preB s p)]) ∧ w = w' := by
  have hp := cutLite_is s p w
  generalize cutB s p = c at hp ⊢
  generalize preB s p = d at hp ⊢
  go_enter Try.func96, Try.ntmps96
  go_wp2_with fail
  refine hp.mono ?_
  rintro e w' ⟨rfl, rfl⟩
  go_wp2_with fail
  go_ret2
  exact ⟨rfl, rfl⟩
end Go.Proofs.Ytknjdaokidcllaa

/- What follows of kinds of texts: names are hosts, hosts are patterns, no path is; beginnings and ends. Plain words that name no function of the program. -/
namespace Go.Proofs.Ytknjdaokidcllaa
open Go.RowKit
set_option linter.unusedVariables false

theorem wordI_dot {n : Int} (h : wordI n = true) : n ≠ 46 := by
  intro e; subst e; exact absurd h (by decide)

theorem kindL_cons {m : Nat} {f g : Int → Bool} {l : List UInt8} (h : kindL m f g l = true) : ∃ c cs, l = c :: cs ∧ cs.length + 1 ≤ m ∧ f (c.toNat : Int) = true ∧ ∀ x ∈ cs, g (x.toNat : Int) = true := by
  cases l with
  | nil => cases h
  | cons c cs =>
    simp only [kindL, Bool.and_eq_true, decide_eq_true_eq, List.all_eq_true] at h
    exact ⟨c, cs, rfl, h.1.1, h.1.2, h.2⟩
theorem kindL_mk {m : Nat} {f g : Int → Bool} {c : UInt8} {cs : List UInt8} (h1 : cs.length + 1 ≤ m) (h2 : f (c.toNat : Int) = true) (h3 : ∀ x ∈ cs, g (x.toNat : Int) = true) : kindL m f g (c :: cs) = true := by
  simp only [kindL, Bool.and_eq_true, decide_eq_true_eq, List.all_eq_true]
  exact ⟨⟨h1, h2⟩, h3⟩

theorem name_host (s : ByteArray) (h : nameB s = true) : hostB s = true := by
  rw [hostB_list]
  have h' : kindL 16 lowI wordI s.data.toList = true := h
  obtain ⟨c, cs, e, hl, hc, hx⟩ := kindL_cons h'
  have hw : partsL 46 s.data.toList = [s.data.toList] := partsL_whole 46 _ fun x hx' => by
    rw [e] at hx'
    rcases List.mem_cons.1 hx' with rfl | hx'
    · exact wordI_dot (by simp [wordI, hc])
    · exact wordI_dot (hx x hx')
  rw [hw]
  have : decide (s.data.toList.length ≤ 32) = true := decide_eq_true (by rw [e, List.length_cons]; omega)
  rw [this]
  simp [h']

theorem host_head {s : ByteArray} (h : hostB s = true) : ∃ c cs, s.data.toList = c :: cs ∧ lowI (c.toNat : Int) = true := by
  rw [hostB_list, Bool.and_eq_true] at h
  obtain ⟨_, h⟩ := h
  revert h
  cases s.data.toList with
  | nil => intro h; cases h
  | cons c cs =>
    intro h
    refine ⟨c, cs, rfl, ?_⟩
    by_cases hc : (c.toNat : Int) = 46
    · rw [partsL_hit _ hc] at h; cases h
    · rw [partsL_miss _ hc] at h
      revert h
      cases partsL 46 cs with
      | nil =>
        intro h
        simp only [prep, List.all_cons, Bool.and_eq_true] at h
        obtain ⟨c', cs', e, _, h2, _⟩ := kindL_cons h.1
        cases e; exact h2
      | cons p ps =>
        intro h
        simp only [prep, List.all_cons, Bool.and_eq_true] at h
        obtain ⟨c', cs', e, _, h2, _⟩ := kindL_cons h.1
        simp at e
        rw [e.1]; exact h2

theorem tail_head {s : ByteArray} (h : tailB s = true) : ∃ cs, s.data.toList = 42 :: 46 :: cs := by
  unfold tailB at h
  rw [Bool.and_eq_true, beq_iff_eq, toList_data, extract_list, List.drop_zero] at h
  refine ⟨s.data.toList.drop 2, ?_⟩
  have := List.take_append_drop 2 s.data.toList
  rw [h.2] at this
  exact this.symm

theorem tail_not {s : ByteArray} {c : UInt8} {cs : List UInt8} (h : s.data.toList = c :: cs) (hc : c ≠ 42) : tailB s = false := by
  rw [Bool.eq_false_iff]
  intro ht
  obtain ⟨cs', e⟩ := tail_head ht
  rw [h] at e
  exact hc (List.cons.inj e).1
theorem trim_not {s : ByteArray} (h : tailB s = false) : trimB s = s := by rw [trimB, h, cond_false]
theorem low_ne {c : UInt8} (h : lowI (c.toNat : Int) = true) : c ≠ 42 := by
  intro e; subst e; exact absurd h (by decide)

theorem host_pattern (s : ByteArray) (h : hostB s = true) : patternB s = true := by
  obtain ⟨c, cs, e, hc⟩ := host_head h
  rw [patternB, trim_not (tail_not e (low_ne hc)), h, Bool.or_true]

theorem path_head {s : ByteArray} (h : pathB s = true) : ∃ cs, s.data.toList = 47 :: cs := by
  obtain ⟨c, cs, e, _, hc, _⟩ := kindL_cons (show kindL 32 slashI pathI s.data.toList = true from h)
  refine ⟨cs, ?_⟩
  have : (c.toNat : Int) = 47 := of_decide_eq_true hc
  have hc' : c = 47 := UInt8.toNat_inj.1 (by have : c.toNat = 47 := by omega
                                             rw [this]; rfl)
  rw [e, hc']

theorem path_pattern (s : ByteArray) (h : pathB s = true) : patternB s = false := by
  obtain ⟨cs, e⟩ := path_head h
  have h1 : (s.toList == [42]) = false := by
    rw [beq_eq_false_iff_ne, toList_data, e]
    intro e'
    exact absurd (List.cons.inj e').1 (by decide)
  have h2 : hostB s = false := by
    rw [Bool.eq_false_iff]
    intro hh
    obtain ⟨c, cs', e', hc⟩ := host_head hh
    rw [e] at e'
    rw [← (List.cons.inj e').1] at hc
    exact absurd hc (by decide)
  rw [patternB, trim_not (tail_not e (by decide)), h1, h2]
  rfl

theorem append_list (a b : ByteArray) : (a ++ b).data.toList = a.data.toList ++ b.data.toList := by
  rw [ByteArray.data_append, Array.toList_append]
theorem ext_list {a b : ByteArray} (h : a.data.toList = b.data.toList) : a = b := by
  cases a; cases b
  congr
  exact Array.toList_inj.1 h

theorem tail_pattern (s : ByteArray) : patternB (⟨#[42, 46]⟩ ++ s) = hostB s := by
  have hl : ((⟨#[42, 46]⟩ : ByteArray) ++ s).data.toList = 42 :: 46 :: s.data.toList := append_list _ _
  have hs : ((⟨#[42, 46]⟩ : ByteArray) ++ s).size = s.size + 2 := by
    have := size_list ((⟨#[42, 46]⟩ : ByteArray) ++ s)
    rw [hl] at this
    have h2 := size_list s
    simp at this h2 ⊢
    omega
  have ht : tailB (⟨#[42, 46]⟩ ++ s) = true := by
    rw [tailB, hs, toList_data, extract_list, hl]
    simp
  have h1 : ((⟨#[42, 46]⟩ ++ s : ByteArray).toList == [42]) = false := by
    rw [beq_eq_false_iff_ne, toList_data, hl]
    intro e
    exact absurd (List.cons.inj e).2 (by simp)
  have he : (⟨#[42, 46]⟩ ++ s : ByteArray).extract 2 (⟨#[42, 46]⟩ ++ s : ByteArray).size = s := ext_list (by
    rw [extract_list, hl, hs, List.take_of_length_le (by simp)]
    rfl)
  rw [patternB, h1, trimB, ht, cond_true, he, Bool.false_or]

theorem path_more (s : ByteArray) (h : pathB s = true) (hs : s.size ≠ 32) : pathB (s ++ ⟨#[47]⟩) = true := by
  obtain ⟨c, cs, e, hl, hc, hx⟩ := kindL_cons (show kindL 32 slashI pathI s.data.toList = true from h)
  show kindL 32 slashI pathI (s ++ ⟨#[47]⟩ : ByteArray).data.toList = true
  have h2 := size_list s
  rw [e, List.length_cons] at h2
  rw [append_list, e]
  refine kindL_mk ?_ hc fun x hx' => ?_
  · simp; omega
  · rcases List.mem_append.1 hx' with hx' | hx'
    · exact hx x hx'
    · simp at hx'; subst hx'; decide

/-! Beginnings and ends. -/
theorem kind_take {m : Nat} {f g : Int → Bool} {l : List UInt8} (h : kindL m f g l = true) {n : Nat} (hn : 1 ≤ n) : kindL m f g (l.take n) = true := by
  obtain ⟨c, cs, rfl, hl, hc, hx⟩ := kindL_cons h
  obtain ⟨k, rfl⟩ : ∃ k, n = k + 1 := ⟨n - 1, by omega⟩
  rw [List.take_succ_cons]
  exact kindL_mk (by rw [List.length_take]; omega) hc fun x hx' => hx x (List.mem_of_mem_take hx')
theorem name_take (s : ByteArray) {n : Nat} (h : nameB s = true) (hn : 1 ≤ n) : nameB (s.extract 0 n) = true := by
  show kindL 16 lowI wordI (s.extract 0 n).data.toList = true
  rw [extract_list, List.drop_zero]
  exact kind_take h hn
theorem path_take (s : ByteArray) {n : Nat} (h : pathB s = true) (hn : 1 ≤ n) : pathB (s.extract 0 n) = true := by
  show kindL 32 slashI pathI (s.extract 0 n).data.toList = true
  rw [extract_list, List.drop_zero]
  exact kind_take h hn
theorem host_cut (s : ByteArray) {k : Nat} (hk : k < s.size) (h : hostB s = true) (hd : (s[k].toNat : Int) = 46) : hostB (s.extract (k + 1) s.size) = true ∧ hostB (s.extract 0 k) = true := by
  have hl : k < s.data.toList.length := by rw [size_list]; exact hk
  have e : s.data.toList = s.data.toList.take k ++ s[k] :: s.data.toList.drop (k + 1) := by
    rw [show s[k] = s.data.toList[k] from rfl, ← List.drop_eq_getElem_cons hl, List.take_append_drop]
  have h1 : (s.extract (k + 1) s.size).data.toList = s.data.toList.drop (k + 1) := by
    rw [extract_list, List.take_of_length_le (by rw [size_list]; exact Nat.le_refl _)]
  have h2 : (s.extract 0 k).data.toList = s.data.toList.take k := by rw [extract_list, List.drop_zero]
  rw [hostB_list, Bool.and_eq_true, decide_eq_true_eq] at h
  obtain ⟨hn, ha⟩ := h
  rw [e, partsL_split 46 _ hd, List.all_append, Bool.and_eq_true] at ha
  constructor
  · rw [hostB_list, h1, ha.2, Bool.and_true]
    exact decide_eq_true (by rw [List.length_drop]; omega)
  · rw [hostB_list, h2, ha.1, Bool.and_true]
    exact decide_eq_true (by rw [List.length_take]; omega)
end Go.Proofs.Ytknjdaokidcllaa

/- What patterns mean, what they weigh, and what is under a path: plain words, by the program's own cases and by the bytes. They name no function of the program. -/
namespace Go.Proofs.Ytknjdaokidcllaa
open Go.RowKit
set_option linter.unusedVariables false

def starS : ByteArray := ⟨#[42]⟩
def slashS : ByteArray := ⟨#[47]⟩
def kindI (p : ByteArray) : Int := bif patternB p then (bif p.toList == [42] then 1 else bif preB p starS then 2 else 3) else 0
def matchB (p h : ByteArray) : Bool := bif patternB p then (bif p.toList == [42] then hostB h else bif preB p starS then sufB h (cutB p starS) && hostB h else h.toList == p.toList) else false
def weightI (p : ByteArray) : Int := bif patternB p then (bif p.toList == [42] then 0 else bif preB p starS then (p.size : Int) - 2 else 100) else 0
def underB (a t : ByteArray) : Bool := pathB a && pathB t && preB a t && ((cutB a t).toList.isEmpty || sufB t slashS || preB (cutB a t) slashS)
def betterB (a p b q : ByteArray) : Bool := decide (weightI b < weightI a) || (weightI a == weightI b) && decide (q.size < p.size)

/-! The cases of a pattern. -/
theorem kind_cases (p : ByteArray) :
    (kindI p = 0 ∧ weightI p = 0 ∧ patternB p = false ∧ ∀ h, matchB p h = false) ∨
    (kindI p = 1 ∧ weightI p = 0 ∧ patternB p = true ∧ (p.toList == [42]) = true ∧ ∀ h, matchB p h = hostB h) ∨
    (kindI p = 2 ∧ weightI p = (p.size : Int) - 2 ∧ patternB p = true ∧ (p.toList == [42]) = false ∧ preB p starS = true ∧ ∀ h, matchB p h = (sufB h (cutB p starS) && hostB h)) ∨
    (kindI p = 3 ∧ weightI p = 100 ∧ patternB p = true ∧ (p.toList == [42]) = false ∧ preB p starS = false ∧ ∀ h, matchB p h = (h.toList == p.toList)) := by
  unfold kindI weightI matchB
  cases h1 : patternB p with
  | false => exact .inl ⟨rfl, rfl, rfl, fun _ => rfl⟩
  | true =>
    cases h2 : (p.toList == [42]) with
    | true => exact .inr (.inl ⟨rfl, rfl, rfl, rfl, fun _ => rfl⟩)
    | false =>
      cases h3 : preB p starS with
      | true => exact .inr (.inr (.inl ⟨rfl, rfl, rfl, rfl, rfl, fun _ => rfl⟩))
      | false => exact .inr (.inr (.inr ⟨rfl, rfl, rfl, rfl, rfl, fun _ => rfl⟩))

/-! By bytes. -/
def hostL (l : List UInt8) : Bool := decide (l.length ≤ 32) && (partsL 46 l).all (kindL 16 lowI wordI)
theorem hostB_L (s : ByteArray) : hostB s = hostL s.data.toList := hostB_list s
theorem hostL_head {l : List UInt8} (h : hostL l = true) : ∃ c cs, l = c :: cs ∧ lowI (c.toNat : Int) = true := by
  obtain ⟨c, cs, e, hc⟩ := host_head (s := ⟨⟨l⟩⟩) (by rw [hostB_L]; exact h)
  exact ⟨c, cs, e, hc⟩
theorem hostL_size {l : List UInt8} (h : hostL l = true) : l.length ≤ 32 := by
  unfold hostL at h
  rw [Bool.and_eq_true] at h
  exact of_decide_eq_true h.1

theorem preB_iff (s p : ByteArray) : preB s p = true ↔ ∃ l, s.data.toList = p.data.toList ++ l := by
  unfold preB
  rw [Bool.and_eq_true, decide_eq_true_eq, beq_iff_eq, toList_data, toList_data, extract_list, List.drop_zero]
  have h1 := size_list s
  have h2 := size_list p
  constructor
  · rintro ⟨_, h⟩
    refine ⟨s.data.toList.drop p.size, ?_⟩
    conv => lhs; rw [← List.take_append_drop p.size s.data.toList, h]
  · rintro ⟨l, h⟩
    have h3 := congrArg List.length h
    rw [List.length_append, h1, h2] at h3
    refine ⟨by omega, ?_⟩
    rw [h, List.take_append_of_le_length (by omega), List.take_of_length_le (by omega)]
theorem sufB_iff (s p : ByteArray) : sufB s p = true ↔ ∃ l, s.data.toList = l ++ p.data.toList := by
  unfold sufB
  rw [Bool.and_eq_true, decide_eq_true_eq, beq_iff_eq, toList_data, toList_data, extract_list, List.take_of_length_le (by rw [size_list]; omega)]
  have h1 := size_list s
  have h2 := size_list p
  constructor
  · rintro ⟨_, h⟩
    refine ⟨s.data.toList.take (s.size - p.size), ?_⟩
    conv => lhs; rw [← List.take_append_drop (s.size - p.size) s.data.toList, h]
  · rintro ⟨l, h⟩
    have h3 := congrArg List.length h
    rw [List.length_append, h1, h2] at h3
    refine ⟨by omega, ?_⟩
    rw [h]
    exact List.drop_left' (by omega)
theorem cutB_list {s p : ByteArray} {l : List UInt8} (h : s.data.toList = p.data.toList ++ l) : (cutB s p).data.toList = l := by
  have hp : preB s p = true := (preB_iff s p).2 ⟨l, h⟩
  rw [cutB, hp, cond_true, extract_list, List.take_of_length_le (by rw [size_list]; omega), h]
  exact List.drop_left' (size_list p)

theorem pattern_star {p : ByteArray} (h : patternB p = true) (h1 : (p.toList == [42]) = false) (h2 : preB p starS = true) :
    ∃ t, p.data.toList = 42 :: 46 :: t ∧ hostL t = true ∧ (cutB p starS).data.toList = 46 :: t := by
  obtain ⟨l, hl⟩ := (preB_iff _ _).1 h2
  have hl' : p.data.toList = 42 :: l := hl
  have hc := cutB_list hl
  rcases ht : tailB p with _ | _
  · rw [patternB, h1, Bool.false_or, trim_not ht] at h
    obtain ⟨c, cs, e, hlow⟩ := host_head h
    rw [hl'] at e
    rw [← (List.cons.inj e).1] at hlow
    exact absurd hlow (by decide)
  · obtain ⟨t, et⟩ := tail_head ht
    rw [hl'] at et
    have el := (List.cons.inj et).2
    refine ⟨t, by rw [hl', el], ?_, by rw [hc, el]⟩
    rw [patternB, h1, Bool.false_or, trimB, ht, cond_true, hostB_L, extract_list, List.take_of_length_le (by rw [size_list]; omega), hl', el] at h
    exact h
theorem pattern_host {p : ByteArray} (h : patternB p = true) (h1 : (p.toList == [42]) = false) (h2 : preB p starS = false) : hostL p.data.toList = true := by
  rcases ht : tailB p with _ | _
  · rw [patternB, h1, Bool.false_or, trim_not ht, hostB_L] at h
    exact h
  · obtain ⟨t, et⟩ := tail_head ht
    have : preB p starS = true := (preB_iff _ _).2 ⟨46 :: t, et⟩
    rw [h2] at this
    cases this
theorem eq42 (p : ByteArray) : (p.toList == [42]) = true ↔ p.data.toList = [42] := by rw [beq_iff_eq, toList_data]

theorem match_iff (p h : ByteArray) : matchB p h = true ↔ hostL h.data.toList = true ∧
    (p.data.toList = [42] ∨ p.data.toList = h.data.toList ∨ ∃ t l, p.data.toList = 42 :: 46 :: t ∧ hostL t = true ∧ h.data.toList = l ++ 46 :: t) := by
  rcases kind_cases p with ⟨_, _, hp, hm⟩ | ⟨_, _, hp, h1, hm⟩ | ⟨_, _, hp, h1, h2, hm⟩ | ⟨_, _, hp, h1, h2, hm⟩ <;> rw [hm]
  · refine ⟨fun h => (by cases h), ?_⟩
    rintro ⟨hh, h1⟩
    exfalso
    have key : patternB p = true := by
      rcases h1 with h1 | h1 | ⟨t, l, h1, h2, _⟩
      · rw [patternB, (eq42 p).2 h1]; rfl
      · exact host_pattern p (by rw [hostB_L, h1]; exact hh)
      · have e : p = ⟨#[42, 46]⟩ ++ ⟨⟨t⟩⟩ := ext_list (by rw [append_list, h1]; rfl)
        rw [e, tail_pattern, hostB_L]
        exact h2
    rw [hp] at key
    cases key
  · rw [hostB_L]
    exact ⟨fun h => ⟨h, .inl ((eq42 p).1 h1)⟩, fun h => h.1⟩
  · obtain ⟨t, e1, e2, e3⟩ := pattern_star hp h1 h2
    rw [Bool.and_eq_true, hostB_L, sufB_iff, e3]
    constructor
    · rintro ⟨⟨l, hl⟩, hh⟩
      exact ⟨hh, .inr (.inr ⟨t, l, e1, e2, hl⟩)⟩
    · rintro ⟨hh, h | h | ⟨t', l, h, _, h'⟩⟩
      · rw [e1] at h; cases h
      · obtain ⟨c, cs, ec, hc⟩ := hostL_head hh
        rw [e1, ec] at h
        rw [← (List.cons.inj h).1] at hc
        exact absurd hc (by decide)
      · rw [e1] at h
        have et : t = t' := by simpa using h
        rw [et]
        exact ⟨⟨l, h'⟩, hh⟩
  · have hp' := pattern_host hp h1 h2
    rw [beq_iff_eq, toList_data, toList_data]
    constructor
    · intro h
      rw [h]
      exact ⟨hp', .inr (.inl rfl)⟩
    · rintro ⟨hh, h | h | ⟨t', l, h, _, h'⟩⟩
      · rw [(eq42 p).2 h] at h1; cases h1
      · exact h.symm
      · have : preB p starS = true := (preB_iff _ _).2 ⟨46 :: t', h⟩
        rw [h2] at this
        cases this

theorem weight_cases (p : ByteArray) :
    (patternB p = false ∧ weightI p = 0) ∨ (p.data.toList = [42] ∧ patternB p = true ∧ weightI p = 0) ∨
    (∃ t, p.data.toList = 42 :: 46 :: t ∧ hostL t = true ∧ 1 ≤ t.length ∧ t.length ≤ 32 ∧ patternB p = true ∧ weightI p = (t.length : Int)) ∨ (hostL p.data.toList = true ∧ patternB p = true ∧ weightI p = 100) := by
  rcases kind_cases p with ⟨_, hw, hp, hm⟩ | ⟨_, hw, hp, h1, hm⟩ | ⟨_, hw, hp, h1, h2, hm⟩ | ⟨_, hw, hp, h1, h2, hm⟩
  · exact .inl ⟨hp, hw⟩
  · exact .inr (.inl ⟨(eq42 p).1 h1, hp, hw⟩)
  · obtain ⟨t, e1, e2, e3⟩ := pattern_star hp h1 h2
    obtain ⟨c, cs, ec, _⟩ := hostL_head e2
    have h3 := size_list p
    rw [e1, List.length_cons, List.length_cons] at h3
    refine .inr (.inr (.inl ⟨t, e1, e2, by rw [ec, List.length_cons]; omega, hostL_size e2, hp, ?_⟩))
    rw [hw]; omega
  · exact .inr (.inr (.inr ⟨pattern_host hp h1 h2, hp, hw⟩))
theorem weight_bd (p : ByteArray) : 0 ≤ weightI p ∧ weightI p ≤ 100 := by
  rcases weight_cases p with ⟨_, h⟩ | ⟨_, _, h⟩ | ⟨t, _, _, _, _, _, h⟩ | ⟨_, _, h⟩ <;> omega

/-- Of two patterns that mean a host, unlike ones have unlike weights. -/
theorem match_unlike {a b h : ByteArray} (ha : matchB a h = true) (hb : matchB b h = true) : (a.toList == b.toList) = (weightI a == weightI b) := by
  rw [Bool.eq_iff_iff, beq_iff_eq, beq_iff_eq]
  constructor
  · intro e
    have : a = b := ext_list (by rw [← toList_data, ← toList_data]; exact e)
    rw [this]
  · intro e
    rw [toList_data, toList_data]
    obtain ⟨hh, ha⟩ := (match_iff a h).1 ha
    obtain ⟨_, hb⟩ := (match_iff b h).1 hb
    have no : ∀ {t : List UInt8}, hostL (42 :: t) = true → False := fun h' => by
      obtain ⟨c, cs, ec, hc⟩ := hostL_head h'
      rw [← (List.cons.inj ec).1] at hc
      exact absurd hc (by decide)
    have plain : ∀ p : ByteArray, (p.data.toList = [42] ∨ p.data.toList = h.data.toList ∨ ∃ t l, p.data.toList = 42 :: 46 :: t ∧ hostL t = true ∧ h.data.toList = l ++ 46 :: t) →
        (p.data.toList = [42] ∧ weightI p = 0) ∨ (p.data.toList = h.data.toList ∧ weightI p = 100) ∨ ∃ t l, p.data.toList = 42 :: 46 :: t ∧ h.data.toList = l ++ 46 :: t ∧ 1 ≤ t.length ∧ t.length ≤ 32 ∧ weightI p = (t.length : Int) := by
      intro p hp
      have hpat : patternB p = true := by
        have : matchB p h = true := (match_iff p h).2 ⟨hh, hp⟩
        rcases kind_cases p with ⟨_, _, _, hm⟩ | ⟨_, _, hq, _⟩ | ⟨_, _, hq, _⟩ | ⟨_, _, hq, _⟩
        · rw [hm] at this; cases this
        · exact hq
        · exact hq
        · exact hq
      rcases weight_cases p with ⟨h0, _⟩ | ⟨h0, _, hw⟩ | ⟨t, h0, _, h1, h2, _, hw⟩ | ⟨h0, _, hw⟩
      · rw [hpat] at h0; cases h0
      · exact .inl ⟨h0, hw⟩
      · rcases hp with hp | hp | ⟨t', l, hp, _, hl⟩
        · rw [h0] at hp; cases hp
        · rw [← hp, h0] at hh; exact (no hh).elim
        · rw [h0] at hp
          have et : t = t' := by simpa using hp
          exact .inr (.inr ⟨t, l, h0, by rw [et]; exact hl, h1, h2, hw⟩)
      · rcases hp with hp | hp | ⟨t', l, hp, _, hl⟩
        · rw [hp] at h0; exact (no h0).elim
        · exact .inr (.inl ⟨hp, hw⟩)
        · rw [hp] at h0; exact (no h0).elim
    rcases plain a ha with ⟨ea, wa⟩ | ⟨ea, wa⟩ | ⟨t, l, ea, hl, h1, h2, wa⟩ <;> rcases plain b hb with ⟨eb, wb⟩ | ⟨eb, wb⟩ | ⟨t', l', eb, hl', h1', h2', wb⟩
    · rw [ea, eb]
    · omega
    · omega
    · omega
    · rw [ea, eb]
    · omega
    · omega
    · omega
    · rw [ea, eb]
      have : t.length = t'.length := by omega
      rw [hl] at hl'
      have := List.append_inj_right' hl' (by simp; omega)
      rw [(List.cons.inj this).2]

/-! Paths. -/
theorem under_iff (a t : ByteArray) : underB a t = true ↔ pathB a = true ∧ pathB t = true ∧ ∃ l, a.data.toList = t.data.toList ++ l ∧ (l = [] ∨ (∃ x, t.data.toList = x ++ [47]) ∨ ∃ y, l = 47 :: y) := by
  unfold underB
  rw [Bool.and_eq_true, Bool.and_eq_true, Bool.and_eq_true, Bool.or_eq_true, Bool.or_eq_true, preB_iff, sufB_iff, preB_iff, List.isEmpty_iff]
  constructor
  · rintro ⟨⟨⟨ha, ht⟩, l, hl⟩, h⟩
    refine ⟨ha, ht, l, hl, ?_⟩
    rw [toList_data, cutB_list hl] at h
    rcases h with (h | ⟨x, h⟩) | ⟨y, h⟩
    · exact .inl h
    · exact .inr (.inl ⟨x, h⟩)
    · exact .inr (.inr ⟨y, h⟩)
  · rintro ⟨ha, ht, l, hl, h⟩
    refine ⟨⟨⟨ha, ht⟩, l, hl⟩, ?_⟩
    rw [toList_data, cutB_list hl]
    rcases h with h | ⟨x, h⟩ | ⟨y, h⟩
    · exact .inl (.inl h)
    · exact .inl (.inr ⟨x, h⟩)
    · exact .inr ⟨y, h⟩
theorem under_self (a : ByteArray) : underB a a = pathB a := by
  rw [Bool.eq_iff_iff, under_iff]
  exact ⟨fun h => h.1, fun h => ⟨h, h, [], by simp, .inl rfl⟩⟩
theorem under_trans {a b c : ByteArray} (h : underB a b = true) (k : underB b c = true) : underB a c = true := by
  obtain ⟨pa, pb, l, hl, h⟩ := (under_iff a b).1 h
  obtain ⟨_, pc, m, hm, k⟩ := (under_iff b c).1 k
  refine (under_iff a c).2 ⟨pa, pc, m ++ l, by rw [hl, hm, List.append_assoc], ?_⟩
  rcases k with rfl | k | ⟨y, rfl⟩
  · rw [List.append_nil] at hm
    rw [hm] at h
    exact h
  · exact .inr (.inl k)
  · exact .inr (.inr ⟨y ++ l, rfl⟩)
theorem under_anti {a b : ByteArray} (h : underB a b = true) (k : underB b a = true) : a = b := by
  obtain ⟨_, _, l, hl, _⟩ := (under_iff a b).1 h
  obtain ⟨_, _, m, hm, _⟩ := (under_iff b a).1 k
  have h1 := congrArg List.length hl
  have h2 := congrArg List.length hm
  rw [List.length_append] at h1 h2
  have : l = [] := List.eq_nil_of_length_eq_zero (by omega)
  exact ext_list (by rw [hl, this, List.append_nil])

/-! One more name ahead. -/
theorem match_deep {p h : ByteArray} {t x : List UInt8} (hp : p.data.toList = 42 :: 46 :: t) (hh : matchB p h = true) {d : ByteArray} (hd : hostB d = true) (hx : d.data.toList = x ++ h.data.toList) : matchB p d = true := by
  obtain ⟨hH, h1⟩ := (match_iff p h).1 hh
  refine (match_iff p d).2 ⟨by rw [← hostB_L]; exact hd, ?_⟩
  rcases h1 with h1 | h1 | ⟨t', l, h1, h2, h3⟩
  · rw [hp] at h1; cases h1
  · obtain ⟨c, cs, ec, hc⟩ := hostL_head hH
    rw [hp, ec] at h1
    rw [← (List.cons.inj h1).1] at hc
    exact absurd hc (by decide)
  · exact .inr (.inr ⟨t', x ++ l, h1, h2, by rw [hx, h3, List.append_assoc]⟩)
theorem match_tail {p h d : ByteArray} {x : List UInt8} (hp : p.data.toList = 42 :: 46 :: h.data.toList) (hh : hostB h = true) (hd : hostB d = true) (hx : d.data.toList = x ++ 46 :: h.data.toList) : matchB p d = true :=
  (match_iff p d).2 ⟨by rw [← hostB_L]; exact hd, .inr (.inr ⟨_, x, hp, by rw [← hostB_L]; exact hh, hx⟩)⟩
theorem match_not {p h : ByteArray} (hp : p.data.toList = 42 :: 46 :: h.data.toList) : matchB p h = false := by
  rw [Bool.eq_false_iff]
  intro hm
  obtain ⟨_, h1 | h1 | ⟨t, l, h1, _, h3⟩⟩ := (match_iff p h).1 hm
  · rw [hp] at h1; cases h1
  · rw [hp] at h1
    have := congrArg List.length h1
    simp at this
    omega
  · rw [hp] at h1
    have et : h.data.toList = t := by simpa using h1
    rw [et] at h3
    have := congrArg List.length h3
    simp at this
    omega
end Go.Proofs.Ytknjdaokidcllaa

/- Rules, as plain data: which fit, and which is the best one. No word of the program. -/
namespace Go.Proofs.Ytknjdaokidcllaa
open Go.RowKit
set_option linter.unusedVariables false
set_option linter.unusedSimpArgs false

structure Rl where
  listen : Int
  host : ByteArray
  path : ByteArray
  cluster : Int
def Rl.none : Rl := ⟨0, ⟨#[]⟩, ⟨#[]⟩, 0⟩
def Rl.cells (r : Rl) : List Value := [.int .i64 r.listen, .string r.host, .string r.path, .int .i64 r.cluster]
def Rl.val (r : Rl) : Value := .agg #[.int .i64 r.listen, .string r.host, .string r.path, .int .i64 r.cluster]

def fitB (n : Int) (h p : ByteArray) (r : Rl) : Bool := (r.listen == n) && matchB r.host h && underB p r.path
def btB (a b : Rl) : Bool := betterB a.host a.path b.host b.path
def rlAt (l : List Rl) (i : Nat) : Rl := l.getD i Rl.none
theorem rlAt_get {l : List Rl} {i : Nat} (h : i < l.length) : rlAt l i = l[i] := by simp [rlAt, h]
theorem rlAt_mem {l : List Rl} {k : Nat} (h : k < l.length) : rlAt l k ∈ l := by rw [rlAt_get h]; exact List.getElem_mem h

/-! Better is by two numbers. -/
theorem bt_iff (a b : Rl) : btB a b = true ↔ weightI b.host < weightI a.host ∨ weightI a.host = weightI b.host ∧ b.path.size < a.path.size := by
  unfold btB betterB
  simp [Bool.or_eq_true, Bool.and_eq_true]
theorem bt_no {a b : Rl} (h : btB a b = false) : ¬ (weightI b.host < weightI a.host ∨ weightI a.host = weightI b.host ∧ b.path.size < a.path.size) := fun e => by
  rw [(bt_iff a b).2 e] at h
  cases h
theorem bt_irrefl (a : Rl) : btB a a = false := by
  rw [Bool.eq_false_iff]
  intro h
  have := (bt_iff a a).1 h
  omega
theorem bt_trans {a b c : Rl} (h : btB a b = true) (k : btB b c = true) : btB a c = true := by
  have h := (bt_iff _ _).1 h
  have k := (bt_iff _ _).1 k
  exact (bt_iff _ _).2 (by omega)
/-- What is better than another one is better than all that are no better than that one. -/
theorem bt_over {a b c : Rl} (h : btB a b = true) (k : btB c b = false) : btB a c = true := by
  have h := (bt_iff _ _).1 h
  have k := bt_no k
  exact (bt_iff _ _).2 (by omega)
theorem bt_asym {a b : Rl} (h : btB a b = true) : btB b a = false := by
  rw [Bool.eq_false_iff]
  intro k
  have := bt_trans h k
  rw [bt_irrefl] at this
  cases this

/-! The best one, as it is looked for. -/
section
variable (l : List Rl) (f : Rl → Bool)
def fitF (k : Nat) : List (Fin l.length) := ((List.finRange l.length).take k).filter fun i => f l[i]
def stepF (b : Option (Fin l.length)) (x : Fin l.length) : Option (Fin l.length) :=
  match b with
  | none => some x
  | some y => bif btB l[x] l[y] then some x else some y
def bestF (ys : List (Fin l.length)) : Option (Fin l.length) := ys.foldl (stepF l) none
def bestO : Option (Fin l.length) := bestF l (fitF l f l.length)
end
def numO {n : Nat} : Option (Fin n) → Int
  | none => 0
  | some x => (x.1 : Int)
def errO {n : Nat} : Option (Fin n) → Int
  | none => 5
  | some _ => 0

section
variable {l : List Rl} {f : Rl → Bool}
theorem fitF_zero : fitF l f 0 = [] := by simp [fitF]
theorem fitF_succ {k : Nat} (h : k < l.length) : fitF l f (k + 1) = fitF l f k ++ (bif f l[k] then [⟨k, h⟩] else []) := by
  have e : (List.finRange l.length).take (k + 1) = (List.finRange l.length).take k ++ [⟨k, h⟩] := by
    rw [List.take_succ_eq_append_getElem (by simpa using h)]
    simp
  unfold fitF
  rw [e, List.filter_append]
  congr 1
theorem fitF_len (k : Nat) : (fitF l f k).length ≤ k := by
  unfold fitF
  refine Nat.le_trans (List.length_filter_le _ _) ?_
  rw [List.length_take]
  exact Nat.min_le_left _ _
theorem fitF_pre {k : Nat} (h : k ≤ l.length) : fitF l f k <+: fitF l f l.length := by
  unfold fitF
  refine List.IsPrefix.filter _ ?_
  rw [List.prefix_take_iff]
  exact ⟨List.take_prefix _ _, by rw [List.length_take]; simp; omega⟩
theorem bestF_snoc (ys : List (Fin l.length)) (x : Fin l.length) : bestF l (ys ++ [x]) = stepF l (bestF l ys) x := by simp [bestF]

/-- What is said of the best one of the first k. -/
def IsBest (l : List Rl) (f : Rl → Bool) (k : Nat) : Option (Fin l.length) → Prop
  | none => ∀ i : Fin l.length, i.1 < k → f l[i] = false
  | some x => x.1 < k ∧ f l[x] = true ∧ (∀ i : Fin l.length, i.1 < k → f l[i] = true → btB l[i] l[x] = false) ∧ ∀ i : Fin l.length, i.1 < x.1 → f l[i] = true → btB l[x] l[i] = true

theorem best_first (k : Nat) (h : k ≤ l.length) : IsBest l f k (bestF l (fitF l f k)) := by
  induction k with
  | zero =>
    rw [fitF_zero]
    exact fun i hi => by omega
  | succ k ih =>
    have ih := ih (by omega)
    have hk : k < l.length := by omega
    rw [fitF_succ hk]
    have lt : ∀ i : Fin l.length, i.1 < k + 1 → i.1 < k ∨ i = ⟨k, hk⟩ := fun i hi => by
      rcases Nat.lt_or_ge i.1 k with h | h
      · exact .inl h
      · exact .inr (Fin.ext (by show i.1 = k; omega))
    rcases hf : f l[k] with _ | _
    · rw [cond_false, List.append_nil]
      generalize bestF l (fitF l f k) = o at ih ⊢
      cases o with
      | none =>
        intro i hi
        rcases lt i hi with h | rfl
        · exact ih i h
        · exact hf
      | some x =>
        refine ⟨by have := ih.1; omega, ih.2.1, fun i hi hfi => ?_, ih.2.2.2⟩
        rcases lt i hi with h | rfl
        · exact ih.2.2.1 i h hfi
        · have hfi' : f l[k] = true := hfi
          rw [hf] at hfi'; cases hfi'
    · rw [cond_true, bestF_snoc]
      generalize bestF l (fitF l f k) = o at ih ⊢
      cases o with
      | none =>
        refine ⟨Nat.lt_succ_self k, hf, fun i hi hfi => ?_, fun i hi hfi => ?_⟩
        · rcases lt i hi with h | rfl
          · rw [ih i h] at hfi; cases hfi
          · exact bt_irrefl _
        · rw [ih i hi] at hfi; cases hfi
      | some x =>
        obtain ⟨h1, h2, h3, h4⟩ := ih
        rcases hb : btB l[(⟨k, hk⟩ : Fin l.length)] l[x] with _ | _
        · have e : stepF l (some x) ⟨k, hk⟩ = some x := by simp only [stepF, hb, cond_false]
          rw [e]
          refine ⟨by omega, h2, fun i hi hfi => ?_, h4⟩
          rcases lt i hi with h | rfl
          · exact h3 i h hfi
          · exact hb
        · have e : stepF l (some x) ⟨k, hk⟩ = some ⟨k, hk⟩ := by simp only [stepF, hb, cond_true]
          rw [e]
          refine ⟨Nat.lt_succ_self k, hf, fun i hi hfi => ?_, fun i hi hfi => ?_⟩
          · rcases lt i hi with h | rfl
            · exact bt_asym (bt_over hb (h3 i h hfi))
            · exact bt_irrefl _
          · exact bt_over hb (h3 i hi hfi)
theorem best_is : IsBest l f l.length (bestO l f) := best_first l.length (Nat.le_refl _)
theorem best_one {a b : Option (Fin l.length)} (ha : IsBest l f l.length a) (hb : IsBest l f l.length b) : a = b := by
  cases a with
  | none =>
    cases b with
    | none => rfl
    | some y =>
      have := ha y y.2
      rw [hb.2.1] at this
      cases this
  | some x =>
    cases b with
    | none =>
      have := hb x x.2
      rw [ha.2.1] at this
      cases this
    | some y =>
      obtain ⟨_, a2, a3, a4⟩ := ha
      obtain ⟨_, b2, b3, b4⟩ := hb
      have h1 : ¬ x.1 < y.1 := fun h => by
        have := b4 x h a2
        rw [a3 y y.2 b2] at this
        cases this
      have h2 : ¬ y.1 < x.1 := fun h => by
        have := a4 y h b2
        rw [b3 x x.2 a2] at this
        cases this
      rw [show x = y from Fin.ext (by omega)]
theorem best_eq {a : Option (Fin l.length)} (ha : IsBest l f l.length a) : bestO l f = a := best_one best_is ha

/-! As the document has it: the first one that fits and is not beaten. -/
def beatB (l : List Rl) (f : Rl → Bool) (r : Rl) : Bool := l.any fun x => f x && btB x r
theorem beat_none {i : Nat} (hi : i < l.length) (h : ∀ j (hj : j < l.length), f l[j] = true → beatB l f l[j] = true) : bestO l f = none := by
  have hb := best_is (l := l) (f := f)
  generalize bestO l f = o at hb ⊢
  cases o with
  | none => rfl
  | some x =>
    obtain ⟨_, h2, h3, _⟩ := hb
    have := h x.1 x.2 h2
    unfold beatB at this
    rw [List.any_eq_true] at this
    obtain ⟨y, hy, hf⟩ := this
    obtain ⟨j, hj, rfl⟩ := List.getElem_of_mem hy
    rw [Bool.and_eq_true] at hf
    have h4 : btB l[j] l[x] = false := h3 ⟨j, hj⟩ hj hf.1
    have h5 : btB l[j] l[x] = true := hf.2
    rw [h4] at h5
    cases h5
theorem beat_none' (h : ∀ j (hj : j < l.length), f l[j] = true → beatB l f l[j] = true) : bestO l f = none := by
  rcases Nat.eq_zero_or_pos l.length with h0 | h0
  · exact best_eq fun i hi => by omega
  · exact beat_none h0 h
theorem beat_some {i : Nat} (hi : i < l.length) (h1 : f l[i] = true) (h2 : beatB l f l[i] = false) (h : ∀ j (hj : j < i), f l[j] = true → beatB l f l[j] = true) : bestO l f = some ⟨i, hi⟩ := by
  refine best_eq ⟨hi, h1, fun j hj hfj => ?_, fun j hj hfj => ?_⟩
  · rw [Bool.eq_false_iff]
    intro hb
    have : beatB l f l[i] = true := List.any_eq_true.2 ⟨_, List.getElem_mem j.2, by rw [Bool.and_eq_true]; exact ⟨hfj, hb⟩⟩
    rw [h2] at this
    cases this
  · -- the best one of all is not beaten, so it is not ahead of i; it is no better than i
    have hB := best_is (l := l) (f := f)
    have no : ∀ x : Fin l.length, f l[x] = true → btB l[x] l[i] = false := fun x hx => by
      rw [Bool.eq_false_iff]
      intro hb
      have : beatB l f l[i] = true := List.any_eq_true.2 ⟨_, List.getElem_mem x.2, by rw [Bool.and_eq_true]; exact ⟨hx, hb⟩⟩
      rw [h2] at this
      cases this
    have hjb := h j.1 hj hfj
    unfold beatB at hjb
    rw [List.any_eq_true] at hjb
    obtain ⟨y, hy, hfy⟩ := hjb
    obtain ⟨k, hk, rfl⟩ := List.getElem_of_mem hy
    rw [Bool.and_eq_true] at hfy
    obtain ⟨h7, h8⟩ := hfy
    have h9 : btB l[k] l[j] = true := h8
    have h10 : btB l[k] l[i] = false := no ⟨k, hk⟩ h7
    have g1 := (bt_iff l[k] l[j]).1 h9
    have g2 := bt_no h10
    exact (bt_iff l[i] l[j]).2 (by omega)
end

/-! Numbers and errors. -/
theorem numO_bd {n : Nat} (o : Option (Fin n)) : 0 ≤ numO o ∧ (numO o < n ∨ n = 0 ∧ numO o = 0) := by
  cases o with
  | none => simp [numO]; omega
  | some x => have := x.2; simp [numO]
end Go.Proofs.Ytknjdaokidcllaa

/- Rules in memory. -/
namespace Go.Proofs.Ytknjdaokidcllaa
open Go.RowKit Go.ChangeShapes Go.WideShapes
set_option linter.unusedVariables false
set_option linter.unusedSimpArgs false
set_option maxRecDepth 100000

/-- The slice value '.slice A n c' holds just these rules, and lies below block B. -/
structure RulesIn (w : World) (B : Nat) (A : Option Addr) (c : Nat) (l : List Rl) : Prop where
  rows : Rows4 w B A (l.map Rl.cells)
  le : l.length ≤ c
  lm : c ≤ maxLen

section
variable {w W w' : World} {B B' c k : Nat} {A : Option Addr} {l : List Rl}
theorem RulesIn.keep (h : RulesIn w B A c l) (hk : ∀ p : Addr, p.block < B → w'.cell? p = w.cell? p) : RulesIn w' B A c l := ⟨h.rows.keep hk, h.le, h.lm⟩
theorem RulesIn.more (h : RulesIn w B A c l) (hB : B ≤ B') : RulesIn w B' A c l := ⟨h.rows.more hB, h.le, h.lm⟩
theorem RulesIn.below (h : RulesIn w B A c l) (hb : Below B w w') : RulesIn w' B A c l := h.keep fun _ hp => hb.cell hp
theorem RulesIn.next (h : RulesIn w w.heap.size A c l) (hb : Below w.heap.size w W) : RulesIn W W.heap.size A c l := (h.below hb).more hb.size
theorem RulesIn.len (h : RulesIn w B A c l) : l.length ≤ maxLen := Nat.le_trans h.le h.lm
theorem RulesIn.ad (h : RulesIn w B A c l) (hk : k < l.length) : ∃ ad, A = some ad ∧ ad.block < B := by
  obtain ⟨ad, e, hb, _⟩ := h.rows (by rw [List.length_map]; omega)
  exact ⟨ad, e, hb⟩
/-- What a rule's cells hold, in any later world. -/
theorem RulesIn.at_ {ad : Addr} (h : RulesIn w B (some ad) c l) (hk : k < l.length) (hb : ∀ p : Addr, p.block < B → W.cell? p = w.cell? p) :
    Four W (ad.add (k * 4)) (.int .i64 l[k].listen) (.string l[k].host) (.string l[k].path) (.int .i64 l[k].cluster) := by
  obtain ⟨ad', e, _, hc⟩ := (h.keep hb).rows (by rw [List.length_map]; omega)
  cases e
  exact four_of (hc k l[k].cells (by rw [List.getElem?_map, List.getElem?_eq_getElem hk]; rfl)) rfl
end

/-- The rule lies in a block of its own. -/
def Box4 (W : World) (b : Nat) (r : Rl) : Prop := W.heap[b]? = some (.cells #[.int .i64 r.listen, .string r.host, .string r.path, .int .i64 r.cluster] 54 (0, 0))
theorem Box4.four {W : World} {b : Nat} {r : Rl} (h : Box4 W b r) : Four W ⟨b, 0, none⟩ (.int .i64 r.listen) (.string r.host) (.string r.path) (.int .i64 r.cluster) :=
  ⟨by rw [block_cell h]; rfl, by rw [block_cell h]; rfl, by rw [block_cell h]; rfl, by rw [block_cell h]; rfl⟩
theorem Box4.new (w : World) (r : Rl) : Box4 (w.alloc (.cells #[.int .i64 r.listen, .string r.host, .string r.path, .int .i64 r.cluster] 54)) w.heap.size r := one_alloc _ _
theorem Box4.lt {W : World} {b : Nat} {r : Rl} (h : Box4 W b r) : b < W.heap.size := block_lt h
theorem Box4.below {W W' : World} {b : Nat} {r : Rl} (h : Box4 W b r) (hb : Below W.heap.size W W') : Box4 W' b r := (hb.block b h.lt).trans h
end Go.Proofs.Ytknjdaokidcllaa

/- Rows of the call's own, of elements of four cells: what append makes of them. -/
namespace Go.Proofs.Ytknjdaokidcllaa
open Go.RowKit
set_option linter.unusedVariables false

/-- The slice v, made from block 'base' on, holds just these elements, of four cells each. -/
def Own4 (E base : Nat) (w : World) (v : Value) (rs : List (List Value)) : Prop := (∀ r ∈ rs, r.length = 4) ∧ w.ownsRow base E 4 v rs.length rs.flatten

theorem len_flat {l : List (List Value)} (h : ∀ r ∈ l, r.length = 4) : l.flatten.length = l.length * 4 := by
  induction l with
  | nil => rfl
  | cons a l ih =>
    rw [List.flatten_cons, List.length_append, ih fun r hr => h r (List.mem_cons_of_mem _ hr), h a (List.mem_cons_self ..), List.length_cons]
    omega

section
variable {P : Program} {w w' : World} {E base : Nat} {v : Value} {rs : List (List Value)}
theorem Own4.slice (h : Own4 E base w v rs) : ∃ A c, v = .slice A rs.length c ∧ rs.length ≤ c ∧ c ≤ maxLen := by
  rcases h.2.2 with ⟨rfl, hn⟩ | ⟨g, cap, cur, rfl, _, _, h1, h2, _⟩
  · exact ⟨none, 0, by rw [hn], by omega, by simp [maxLen]⟩
  · exact ⟨_, _, rfl, h1, h2⟩
theorem Own4.rows {A : Option Addr} {n c : Nat} (h : Own4 E base w (.slice A n c) rs) : Rows4 w w.heap.size A rs := fun hn => by
  rcases h.2.2 with ⟨hv, h0⟩ | ⟨g, cap, cur, hv, _, hh, h1, h2, h3, h4⟩
  · omega
  · injection hv with hA
    subst hA
    refine ⟨_, rfl, block_lt hh, fun i r hr j u hu => ?_⟩
    rw [Addr.add_lit, Nat.zero_add, block_cell hh]
    have hj : j < 4 := by
      rw [← h.1 r (List.mem_of_getElem? hr)]
      exact (List.getElem?_eq_some_iff.1 hu).1
    have hf := (flat4 h.1 hr hj).trans hu
    rw [← h4] at hf
    have hlt : i * 4 + j < rs.length * 4 := by
      have := (List.getElem?_eq_some_iff.1 hr).1
      omega
    rw [List.getElem?_take_of_lt hlt] at hf
    simpa using hf
theorem Own4.lt (h : Own4 E base w v rs) : ∀ k, v.ownBlock = some k → base ≤ k ∧ k < w.heap.size := World.ownsRow.lt h.2
theorem Own4.kept {row : Option Nat} (h : Own4 E base w v rs) (g : w.grownBy w' row) (hne : v.ownBlock = none ∨ v.ownBlock ≠ row) : Own4 E base w' v rs := ⟨h.1, World.ownsRow.kept h.2 g hne⟩
theorem Own4.kept0 (h : Own4 E base w v rs) (g : w.grownBy w' none) : Own4 E base w' v rs := h.kept g (by cases v.ownBlock <;> simp)
theorem Own4.alloc (h : Own4 E base w v rs) (o : Obj) : Own4 E base (w.alloc o) v rs := h.kept0 (World.grownBy_alloc _ _ _)
theorem Own4.empty (hb : base ≤ w.heap.size) : Own4 E base (w.alloc (.cells #[] E)) (.slice (some ⟨w.heap.size, 0, none⟩) 0 0) [] :=
  ⟨by simp, World.ownsRow_made w #[] 0 hb (by simp [maxLen]) (by simp)⟩
theorem Own4.nil : Own4 E base w (.slice none 0 0) [] := ⟨by simp, World.ownsRow_nil _ _ _ _⟩
theorem Own4.apart {g T : Nat} {cs : Array Value} (h : Own4 E base w v rs) (hg : w.heap[g]? = some (.cells cs T (0, 0))) (hT : E ≠ T) : v.ownBlock ≠ some g := by
  rcases h.2.2 with ⟨rfl, _⟩ | ⟨g', cap, cur, rfl, _, hh, _⟩
  · simp [Value.ownBlock]
  · intro he
    have e : g' = g := by simpa [Value.ownBlock] using he
    subst e
    have := hh.symm.trans hg
    simp at this
    exact hT this.2

/-- An element more: what was made in a new block of its own is appended. -/
theorem wpList_append_one4 {ops : Array Oper} {rest : List Oper} {o : Oper} {a : Act} {Q : Exit → Act → World → Prop} (hgd : o.guard = none) (s x : Operand) (t : TypeId)
    (ho : o.op = .call { callee := .builtin .append, args := #[s, x], argTypes := #[t, t] })
    (i : TypeInfo) (z : Value) (bytes : Nat) (ht : P.underlying t = some (.slice E)) (hi : P.info? E = some i) (hz : i.zero = some z)
    (hsize : i.size = 4) (hby : i.bytes = bytes) (hzs : z.cells.size = 4) (hs : a.eval s = v) (w : World) (u0 u1 u2 u3 : Value) (h1 : ∀ u ∈ [u0, u1, u2, u3], u.oneCell' = true) (hown : Own4 E base w v rs)
    (hx : a.eval x = .slice (some ⟨w.heap.size, 0, none⟩) 1 1)
    (h63 : rs.length + 1 ≤ maxLen) (hbytes : (rs.length + 1) * bytes ≤ 140737488355328) (hbase : base ≤ w.heap.size)
    (h : ∀ v' w', Own4 E base w' v' (rs ++ [[u0, u1, u2, u3]]) → w.grownBy w' v.ownBlock → (v'.ownBlock = v.ownBlock ∨ ∃ k, v'.ownBlock = some k ∧ w.heap.size ≤ k) → wpList P ops Q rest (a.put o.dst v') w') :
    wpList P ops Q (o :: rest) a (w.alloc (.cells #[u0, u1, u2, u3] E)) := by
  refine wpList_plain hgd fun _ hK => ?_
  obtain ⟨v', w', hrun, h2, h3, _, h5⟩ := run_append_own_at (P := P) (w.alloc (.cells #[u0, u1, u2, u3] E)) base t o.type E i z 4 bytes ht hi hz hsize hby hzs (by omega) v rs.length rs.flatten (hown.2.kept (World.grownBy_alloc _ _ none) (by cases v.ownBlock <;> simp)) ⟨w.heap.size, 0, none⟩ 1 1 [u0, u1, u2, u3] rfl
    (fun j y hy => by
      rw [Addr.add_lit, World.cell?_alloc_new w #[u0, u1, u2, u3] E (0 + j), Nat.zero_add]
      simpa using hy) h1 h63 hbytes (by rw [World.size_alloc]; omega)
  unfold Oper.wp execOp
  simp only [ho, resolve, invoke, builtin, Sem.run_bind, Sem.run_pure, Result.andThen_ok, List.map_toArray, List.map_cons, List.map_nil, hs, hx, hrun]
  refine hK _ _ (h v' w' ⟨fun r hr => ?_, by simpa using h2⟩ (grownBy_trans (World.grownBy_alloc _ _ _) h3) ?_)
  · rcases List.mem_append.1 hr with hr | hr
    · exact hown.1 r hr
    · simp at hr; subst hr; rfl
  · rcases h5 with h5 | h5
    · exact .inl h5
    · exact .inr ⟨_, h5, by simp⟩

/-- A slice that was there is appended whole. -/
theorem wpList_append_all4 {ops : Array Oper} {rest : List Oper} {o : Oper} {a : Act} {Q : Exit → Act → World → Prop} (hgd : o.guard = none) (s x : Operand) (t : TypeId)
    (ho : o.op = .call { callee := .builtin .append, args := #[s, x], argTypes := #[t, t] })
    (i : TypeInfo) (z : Value) (bytes : Nat) (ht : P.underlying t = some (.slice E)) (hi : P.info? E = some i) (hz : i.zero = some z)
    (hsize : i.size = 4) (hby : i.bytes = bytes) (hzs : z.cells.size = 4) (hs : a.eval s = v) (w : World) (hown : Own4 E base w v rs)
    {B : Nat} {A : Option Addr} {c : Nat} {ys : List (List Value)} (hy4 : ∀ r ∈ ys, r.length = 4) (h0 : 0 < ys.length) (hx : a.eval x = .slice A ys.length c) (hr : Rows4 w B A ys) (h1 : ∀ r ∈ ys, ∀ u ∈ r, u.oneCell' = true)
    (h63 : rs.length + ys.length ≤ maxLen) (hbytes : (rs.length + ys.length) * bytes ≤ 140737488355328) (hbase : base ≤ w.heap.size)
    (h : ∀ v' w', Own4 E base w' v' (rs ++ ys) → w.grownBy w' v.ownBlock → (v'.ownBlock = v.ownBlock ∨ ∃ k, v'.ownBlock = some k ∧ w.heap.size ≤ k) → wpList P ops Q rest (a.put o.dst v') w') :
    wpList P ops Q (o :: rest) a w := by
  refine wpList_plain hgd fun _ hK => ?_
  obtain ⟨ad, rfl, _, hc⟩ := hr h0
  obtain ⟨v', w', hrun, h2, h3, _, h5⟩ := run_append_own_at (P := P) w base t o.type E i z 4 bytes ht hi hz hsize hby hzs (by omega) v rs.length rs.flatten hown.2 ad ys.length c ys.flatten (len_flat hy4)
    (fun j u hu => by
      have hj : j < ys.length * 4 := by rw [← len_flat hy4]; exact (List.getElem?_eq_some_iff.1 hu).1
      have hi : j / 4 < ys.length := by omega
      have e := flat4 (i := j / 4) hy4 (List.getElem?_eq_getElem hi) (j := j % 4) (by omega)
      have ej : j / 4 * 4 + j % 4 = j := by omega
      rw [ej] at e
      have := hc (j / 4) _ (List.getElem?_eq_getElem hi) (j % 4) u (by rw [← e]; exact hu)
      rwa [ej] at this)
    (fun u hu => by
      obtain ⟨r, hr, hur⟩ := List.mem_flatten.1 hu
      exact h1 r hr u hur) h63 hbytes hbase
  unfold Oper.wp execOp
  simp only [ho, resolve, invoke, builtin, Sem.run_bind, Sem.run_pure, Result.andThen_ok, List.map_toArray, List.map_cons, List.map_nil, hs, hx, hrun]
  refine hK _ _ (h v' w' ⟨fun r hr => ?_, by rw [List.length_append, List.flatten_append]; exact h2⟩ h3 ?_)
  · rcases List.mem_append.1 hr with hr | hr
    · exact hown.1 r hr
    · exact hy4 r hr
  · rcases h5 with h5 | h5
    · exact .inl h5
    · exact .inr ⟨_, h5, Nat.le_refl _⟩
end
end Go.Proofs.Ytknjdaokidcllaa

/- Rules that a call puts in a row of its own. -/
namespace Go.Proofs.Ytknjdaokidcllaa
open Go.RowKit
set_option linter.unusedVariables false
set_option linter.unusedSimpArgs false
set_option maxRecDepth 100000

theorem rule_info : (Try.prog.info? 54).map (fun i => (i.zero, i.size, i.bytes)) = some (some (.agg #[.int .i64 0, .string ⟨#[]⟩, .string ⟨#[]⟩, .int .i64 0]), 4, 48) := by kernel_rfl

section
variable {P : Program} {E base : Nat} {v : Value} {rs : List (List Value)}
/-- A slice that was there, or an empty one, is appended whole. -/
theorem wpList_append_any4 {ops : Array Oper} {rest : List Oper} {o : Oper} {a : Act} {Q : Exit → Act → World → Prop} (hgd : o.guard = none) (s x : Operand) (t : TypeId)
    (ho : o.op = .call { callee := .builtin .append, args := #[s, x], argTypes := #[t, t] })
    (i : TypeInfo) (z : Value) (bytes : Nat) (ht : P.underlying t = some (.slice E)) (hi : P.info? E = some i) (hz : i.zero = some z)
    (hsize : i.size = 4) (hby : i.bytes = bytes) (hzs : z.cells.size = 4) (hs : a.eval s = v) (w : World) (hown : Own4 E base w v rs)
    {B : Nat} {A : Option Addr} {c : Nat} {ys : List (List Value)} (hy4 : ∀ r ∈ ys, r.length = 4) (hx : a.eval x = .slice A ys.length c) (hr : Rows4 w B A ys) (h1 : ∀ r ∈ ys, ∀ u ∈ r, u.oneCell' = true)
    (h63 : rs.length + ys.length ≤ maxLen) (hbytes : (rs.length + ys.length) * bytes ≤ 140737488355328) (hbase : base ≤ w.heap.size)
    (h : ∀ v' w', Own4 E base w' v' (rs ++ ys) → w.grownBy w' v.ownBlock → (v'.ownBlock = v.ownBlock ∨ ∃ k, v'.ownBlock = some k ∧ w.heap.size ≤ k) → wpList P ops Q rest (a.put o.dst v') w') :
    wpList P ops Q (o :: rest) a w := by
  by_cases h0 : 0 < ys.length
  · exact wpList_append_all4 hgd s x t ho i z bytes ht hi hz hsize hby hzs hs w hown hy4 h0 hx hr h1 h63 hbytes hbase h
  · obtain rfl : ys = [] := List.eq_nil_of_length_eq_zero (by omega)
    refine wpList_plain hgd fun _ hK => ?_
    rcases A with _ | ad
    · have hrun : (Builtin.append_ #[t, t] o.type #[v, .slice none 0 c]).run P w = .ok v w := by
        rcases hown.2.2 with ⟨rfl, hn⟩ | ⟨g, cap, cur, rfl, _, _, hnc, _⟩
        · simp [Builtin.append_, run_underlying ht, sizeOf, typeInfo, hi, Builtin.lenOf, Builtin.firstCells]
        · simp [Builtin.append_, run_underlying ht, sizeOf, typeInfo, hi, Builtin.lenOf, Builtin.firstCells, hnc, storeCells]
      unfold Oper.wp execOp
      simp only [ho, resolve, invoke, builtin, Sem.run_bind, Sem.run_pure, Result.andThen_ok, List.map_toArray, List.map_cons, List.map_nil, hs, hx, hrun, List.length_nil]
      exact hK _ _ (h v w (by simpa using hown) (World.grownBy.refl w _) (.inl rfl))
    · obtain ⟨v', w', hrun, h2, h3, _, h5⟩ := run_append_own_at (P := P) w base t o.type E i z 4 bytes ht hi hz hsize hby hzs (by omega) v rs.length rs.flatten hown.2 ad 0 c [] rfl
        (fun j u hu => by simp at hu) (fun u hu => by cases hu) (by simpa using h63) (by simpa using hbytes) hbase
      unfold Oper.wp execOp
      simp only [ho, resolve, invoke, builtin, Sem.run_bind, Sem.run_pure, Result.andThen_ok, List.map_toArray, List.map_cons, List.map_nil, hs, hx, hrun, List.length_nil]
      refine hK _ _ (h v' w' ⟨fun r hr => hown.1 r (by simpa using hr), by simpa using h2⟩ h3 ?_)
      rcases h5 with h5 | h5
      · exact .inl h5
      · exact .inr ⟨_, h5, Nat.le_refl _⟩
end

theorem cells4 (l : List Rl) : ∀ r ∈ l.map Rl.cells, r.length = 4 := fun r hr => by
  obtain ⟨x, _, rfl⟩ := List.mem_map.1 hr
  rfl
theorem cells1 (l : List Rl) : ∀ r ∈ l.map Rl.cells, ∀ u ∈ r, u.oneCell' = true := fun r hr => by
  obtain ⟨x, _, rfl⟩ := List.mem_map.1 hr
  intro u hu
  simp [Rl.cells] at hu
  rcases hu with rfl | rfl | rfl | rfl <;> rfl

/-- The row v, made since wb, holds just these rules. -/
structure MadeR (wb wr : World) (v : Value) (l : List Rl) : Prop where
  B : Below wb.heap.size wb wr
  own : Own4 54 wb.heap.size wr v (l.map Rl.cells)
section
variable {wb wr w' : World} {v v' : Value} {l m : List Rl}
theorem MadeR.below (h : MadeR wb wr v l) (k : Below wr.heap.size wr w') : MadeR wb w' v l := ⟨below_next h.B k, h.own.kept0 (grownBy_below k)⟩
theorem MadeR.grown (h : MadeR wb wr v l) (g : wr.grownBy w' v.ownBlock) (o : Own4 54 wb.heap.size w' v' (l.map Rl.cells ++ m.map Rl.cells)) : MadeR wb w' v' (l ++ m) :=
  ⟨h.B.trans (below_grownBy g h.B.size fun k hk => (h.own.lt k hk).1), by rw [List.map_append]; exact o⟩
theorem MadeR.start {w : World} (h : Below wb.heap.size wb w) : MadeR wb (w.alloc (.cells #[] 54)) (.slice (some ⟨w.heap.size, 0, none⟩) 0 0) [] := ⟨below_alloc h (Nat.le_refl _), Own4.empty h.size⟩
theorem MadeR.rules (h : MadeR wb wr v l) : ∃ A c, v = .slice A l.length c ∧ RulesIn wr wr.heap.size A c l := by
  obtain ⟨A, c, e, h1, h2⟩ := h.own.slice
  subst e
  rw [List.length_map] at h1
  exact ⟨A, c, by rw [List.length_map], h.own.rows, h1, h2⟩
end
end Go.Proofs.Ytknjdaokidcllaa

/- Configurations, as plain data, and what may be said of them: no word of the program. -/
namespace Go.Proofs.Ytknjdaokidcllaa
open Go.RowKit
set_option linter.unusedVariables false
set_option linter.unusedSimpArgs false

structure Rt where
  listen : ByteArray
  host : ByteArray
  path : ByteArray
  cluster : ByteArray
structure Cl where
  name : ByteArray
  policy : Int
  slots : Int
  ha : Option Addr
  hn : Nat
  hc : Nat

def Rt.none : Rt := ⟨⟨#[]⟩, ⟨#[]⟩, ⟨#[]⟩, ⟨#[]⟩⟩
def Cl.none : Cl := ⟨⟨#[]⟩, 0, 0, Option.none, 0, 0⟩
def Rt.cells (r : Rt) : List Value := [.string r.listen, .string r.host, .string r.path, .string r.cluster]
def Cl.cells (c : Cl) : List Value := [.string c.name, .int .i64 c.policy, .int .i64 c.slots, .slice c.ha c.hn c.hc]

/-- Two texts are one. -/
def eqB (a b : ByteArray) : Bool := a.toList == b.toList

/-! What is asked of a part. -/
def unlessI (b : Bool) (e : Int) : Int := bif b then 0 else e
def withinB (n m : Int) : Bool := decide (1 ≤ n) && decide (n ≤ m)
def lAt (ls : List ByteArray) (i : Nat) : ByteArray := ls.getD i ⟨#[]⟩
def cAt (cs : List Cl) (i : Nat) : Cl := cs.getD i Cl.none
def rAt (rs : List Rt) (i : Nat) : Rt := rs.getD i Rt.none
def hasL (ls : List ByteArray) (s : ByteArray) : Bool := ls.any fun x => eqB s x
def hasC (cs : List Cl) (s : ByteArray) : Bool := cs.any fun x => eqB x.name s
def alikeB (o r : Rt) : Bool := (eqB o.listen r.listen && eqB o.host r.host) && eqB o.path r.path
def hasR (rs : List Rt) (r : Rt) : Bool := rs.any fun o => alikeB o r

def lName (ls : List ByteArray) (i : Nat) : Int := unlessI (nameB (lAt ls i)) 3
def lOnce (ls : List ByteArray) (i : Nat) : Int := unlessI (!hasL (ls.take i) (lAt ls i)) 4
def cName (cs : List Cl) (i : Nat) : Int := unlessI (nameB (cAt cs i).name) 3
def cOnce (cs : List Cl) (i : Nat) : Int := unlessI (!hasC (cs.take i) (cAt cs i).name) 4
def cPolicy (cs : List Cl) (i : Nat) : Int := unlessI ((cAt cs i).policy == 1 || (cAt cs i).policy == 2) 9
def cSlots (cs : List Cl) (i : Nat) : Int := unlessI (withinB (cAt cs i).slots 4) 10
def cHealth (cs : List Cl) (i : Nat) : Int := unlessI (withinB (cAt cs i).hn 4) 6
def rListen (ls : List ByteArray) (rs : List Rt) (i : Nat) : Int := unlessI (hasL ls (rAt rs i).listen) 5
def rHost (rs : List Rt) (i : Nat) : Int := unlessI (patternB (rAt rs i).host) 7
def rPath (rs : List Rt) (i : Nat) : Int := unlessI (pathB (rAt rs i).path) 8
def rCluster (cs : List Cl) (rs : List Rt) (i : Nat) : Int := unlessI (hasC cs (rAt rs i).cluster) 5
def rOnce (rs : List Rt) (i : Nat) : Int := unlessI (!hasR (rs.take i) (rAt rs i)) 4

/-! The first error of one part, and of all. -/
def pickI : List Int → Int
  | [] => 0
  | e :: l => bif e == 0 then pickI l else e
def firstI (E : Nat → Int) : Nat → Nat → Int × Int
  | _, 0 => (0, 0)
  | i, k + 1 => bif E i == 0 then firstI E (i + 1) k else (E i, (i : Int))
def asksL (ls : List ByteArray) : List (Nat → Int) := [lName ls, lOnce ls]
def asksC (cs : List Cl) : List (Nat → Int) := [cName cs, cOnce cs, cPolicy cs, cSlots cs, cHealth cs]
def asksR (ls : List ByteArray) (rs : List Rt) (cs : List Cl) : List (Nat → Int) := [rListen ls rs, rHost rs, rPath rs, rCluster cs rs, rOnce rs]
def errI (asks : List (Nat → Int)) (i : Nat) : Int := pickI (asks.map (· i))
def kindI3 (asks : List (Nat → Int)) (n : Nat) : Int × Int := firstI (errI asks) 0 n
def thenI (a b : Int × Int) : Int × Int := bif a.1 == 0 then b else a
def fitsB (ls : List ByteArray) (rs : List Rt) (cs : List Cl) : Bool := (withinB ls.length 4 && withinB rs.length 8) && withinB cs.length 4
def checkI (ls : List ByteArray) (rs : List Rt) (cs : List Cl) : Int × Int :=
  bif fitsB ls rs cs then thenI (kindI3 (asksL ls) ls.length) (thenI (kindI3 (asksC cs) cs.length) (kindI3 (asksR ls rs cs) rs.length)) else (6, 0)

theorem unlessI_zero {b : Bool} {e : Int} (h : e ≠ 0) : unlessI b e = 0 ↔ b = true := by cases b <;> simp [unlessI, h]

theorem pickI_zero (l : List Int) : pickI l = 0 ↔ ∀ x ∈ l, x = 0 := by
  induction l with
  | nil => simp [pickI]
  | cons e l ih =>
    by_cases h : e = 0
    · subst h; simp [pickI, ih]
    · have : (e == 0) = false := by simpa using h
      simp [pickI, this, h]
theorem pickI_at {l : List Int} {q : Nat} (hq : q < l.length) (h0 : ∀ t (ht : t < l.length), t < q → l[t] = 0) (h : l[q] ≠ 0) : pickI l = l[q] := by
  induction l generalizing q with
  | nil => simp at hq
  | cons e l ih =>
    cases q with
    | zero =>
      have : (e == 0) = false := by simpa using h
      simp [pickI, this]
    | succ q =>
      have e0 : e = 0 := h0 0 (by simp) (by omega)
      subst e0
      simp only [pickI, beq_self_eq_true, cond_true, List.getElem_cons_succ]
      exact ih (by simpa using hq) (fun t ht htq => h0 (t + 1) (by simpa using ht) (by omega)) (by simpa using h)

theorem firstI_none {E : Nat → Int} (i k : Nat) (h : ∀ j, i ≤ j → j < i + k → E j = 0) : firstI E i k = (0, 0) := by
  induction k generalizing i with
  | zero => rfl
  | succ k ih =>
    have := h i (Nat.le_refl _) (by omega)
    simp only [firstI, this, beq_self_eq_true, cond_true]
    exact ih (i + 1) fun j h1 h2 => h j (by omega) (by omega)
theorem firstI_hit {E : Nat → Int} (i k q : Nat) (hq : i ≤ q) (hk : q < i + k) (h : ∀ j, i ≤ j → j < q → E j = 0) (hE : E q ≠ 0) : firstI E i k = (E q, (q : Int)) := by
  induction k generalizing i with
  | zero => omega
  | succ k ih =>
    by_cases e : i = q
    · subst e
      have : (E i == 0) = false := by simpa using hE
      simp [firstI, this]
    · have := h i (Nat.le_refl _) (by omega)
      simp only [firstI, this, beq_self_eq_true, cond_true]
      exact ih (i + 1) (by omega) (by omega) fun j h1 h2 => h j (by omega) h2
theorem firstI_ok {E : Nat → Int} (i k : Nat) : (firstI E i k).1 = 0 ↔ ∀ j, i ≤ j → j < i + k → E j = 0 := by
  induction k generalizing i with
  | zero => exact ⟨fun _ j h1 h2 => by omega, fun _ => rfl⟩
  | succ k ih =>
    by_cases h : E i = 0
    · simp only [firstI, h, beq_self_eq_true, cond_true, ih (i + 1)]
      constructor
      · intro hj j h1 h2
        by_cases e : j = i
        · subst e; exact h
        · exact hj j (by omega) (by omega)
      · exact fun hj j h1 h2 => hj j (by omega) (by omega)
    · have hb : (E i == 0) = false := by simpa using h
      simp only [firstI, hb, cond_false]
      exact ⟨fun h' => absurd h' h, fun h' => h' i (Nat.le_refl _) (by omega)⟩
theorem firstI_zero {E : Nat → Int} (i k : Nat) (h : (firstI E i k).1 = 0) : firstI E i k = (0, 0) := firstI_none i k ((firstI_ok i k).1 h)

theorem kind_none {asks : List (Nat → Int)} {n : Nat} (h : ∀ j, j < n → errI asks j = 0) : kindI3 asks n = (0, 0) := firstI_none 0 n fun j _ hj => h j (by omega)
theorem kind_hit {asks : List (Nat → Int)} {n q : Nat} (hq : q < n) (h : ∀ j, j < q → errI asks j = 0) (hE : errI asks q ≠ 0) : kindI3 asks n = (errI asks q, (q : Int)) :=
  firstI_hit 0 n q (Nat.zero_le _) (by omega) (fun j _ hj => h j hj) hE
theorem kind_ok {asks : List (Nat → Int)} {n : Nat} : (kindI3 asks n).1 = 0 ↔ ∀ j, j < n → errI asks j = 0 :=
  (firstI_ok 0 n).trans ⟨fun h j hj => h j (Nat.zero_le _) (by omega), fun h j _ hj => h j (by omega)⟩
theorem kind_zero {asks : List (Nat → Int)} {n : Nat} (h : (kindI3 asks n).1 = 0) : kindI3 asks n = (0, 0) := firstI_zero 0 n h
theorem errI_zero {asks : List (Nat → Int)} {j : Nat} : errI asks j = 0 ↔ ∀ a ∈ asks, a j = 0 := by
  unfold errI
  rw [pickI_zero]
  simp
theorem thenI_ok {a b : Int × Int} : (thenI a b).1 = 0 ↔ a.1 = 0 ∧ b.1 = 0 := by
  unfold thenI
  by_cases h : a.1 = 0
  · simp [h]
  · have hb : (a.1 == 0) = false := by simpa using h
    rw [hb]
    simp [h]

section
variable {α : Type} {p : α → Bool} {xs : List α} {k : Nat}
end
theorem lAt_get {ls : List ByteArray} {i : Nat} (h : i < ls.length) : lAt ls i = ls[i] := by rw [lAt, List.getD, List.getElem?_eq_getElem h]; rfl
theorem cAt_get {ls : List Cl} {i : Nat} (h : i < ls.length) : cAt ls i = ls[i] := by rw [cAt, List.getD, List.getElem?_eq_getElem h]; rfl
theorem rAt_get {ls : List Rt} {i : Nat} (h : i < ls.length) : rAt ls i = ls[i] := by rw [rAt, List.getD, List.getElem?_eq_getElem h]; rfl

/-! Too much to be looked at. -/
def bigC (x : Cl) : Bool := decide (50 < (x.hn : Int)) || decide (100 < (x.name.size : Int))
def bigR (r : Rt) : Bool := decide (100 < (r.host.size : Int)) || decide (100 < (r.path.size : Int))
def big3 (ls : List ByteArray) (rs : List Rt) (cs : List Cl) : Bool := (decide (50 < (ls.length : Int)) || decide (50 < (rs.length : Int))) || decide (50 < (cs.length : Int))
def bigB (ls : List ByteArray) (rs : List Rt) (cs : List Cl) : Bool := (big3 ls rs cs || cs.any bigC) || rs.any bigR
theorem big_host {ls : List ByteArray} {rs : List Rt} {cs : List Cl} (h : bigB ls rs cs = false) {r : Rt} (hr : r ∈ rs) : r.host.size ≤ 100 := by
  unfold bigB at h
  simp only [Bool.or_eq_false_iff] at h
  have := List.any_eq_false.1 h.2 r hr
  simp only [bigR, Bool.or_eq_true, decide_eq_true_eq, not_or] at this
  omega
end Go.Proofs.Ytknjdaokidcllaa

/- A configuration in memory. -/
namespace Go.Proofs.Ytknjdaokidcllaa
open Go.RowKit Go.ChangeShapes Go.WideShapes
set_option linter.unusedVariables false


section
variable {w w' : World} {B B' : Nat} {A : Option Addr} {rs : List (List Value)}
end

/-- A configuration's three lists, and where they lie. -/
structure Cfg where
  la : Option Addr
  lc : Nat
  ls : List ByteArray
  ra : Option Addr
  rc : Nat
  rs : List Rt
  ca : Option Addr
  cc : Nat
  cs : List Cl
def Cfg.val (c : Cfg) : Value := .agg #[.slice c.la c.ls.length c.lc, .slice c.ra c.rs.length c.rc, .slice c.ca c.cs.length c.cc]
def Cl.wf (c : Cl) : Prop := (Lit.int .i64 c.policy).wf = true ∧ (Lit.int .i64 c.slots).wf = true ∧ c.hn ≤ maxLen
/-- It lies below block B. -/
structure CfgIn (w : World) (B : Nat) (c : Cfg) : Prop where
  pl : Reads w B c.la (c.ls.map Value.string)
  pr : Rows4 w B c.ra (c.rs.map Rt.cells)
  pc : Rows4 w B c.ca (c.cs.map Cl.cells)
  ll : c.ls.length ≤ c.lc
  rl : c.rs.length ≤ c.rc
  cl : c.cs.length ≤ c.cc
  lm : c.lc ≤ maxLen
  rm : c.rc ≤ maxLen
  cm : c.cc ≤ maxLen
  wf : ∀ x ∈ c.cs, x.wf

section
variable {w w' : World} {B B' : Nat} {c : Cfg}
theorem CfgIn.keep (h : CfgIn w B c) (hk : ∀ p : Addr, p.block < B → w'.cell? p = w.cell? p) : CfgIn w' B c :=
  ⟨h.pl.keep hk, h.pr.keep hk, h.pc.keep hk, h.ll, h.rl, h.cl, h.lm, h.rm, h.cm, h.wf⟩
theorem CfgIn.more (h : CfgIn w B c) (hB : B ≤ B') : CfgIn w B' c := ⟨h.pl.more hB, h.pr.more hB, h.pc.more hB, h.ll, h.rl, h.cl, h.lm, h.rm, h.cm, h.wf⟩
theorem CfgIn.below (h : CfgIn w B c) (hb : Below B w w') : CfgIn w' B c := h.keep fun _ hp => hb.cell hp
theorem CfgIn.listen {k : Nat} (h : CfgIn w B c) (hk : k < c.ls.length) : ∃ ad, c.la = some ad ∧ ad.block < B ∧ w.cell? (ad.add k) = some (.string (lAt c.ls k)) := by
  obtain ⟨ad, e, hb, hc⟩ := h.pl.str hk
  refine ⟨ad, e, hb, ?_⟩
  rw [hc, lAt, List.getD, List.getElem?_eq_getElem hk]
  rfl
theorem CfgIn.cluster {k : Nat} (h : CfgIn w B c) (hk : k < c.cs.length) : ∃ ad, c.ca = some ad ∧ ad.block < B ∧ ∀ j v, (cAt c.cs k).cells[j]? = some v → w.cell? (ad.add (k * 4 + j)) = some v := by
  obtain ⟨ad, e, hb, hc⟩ := h.pc (by rw [List.length_map]; omega)
  refine ⟨ad, e, hb, hc k _ ?_⟩
  rw [List.getElem?_map, cAt, List.getD, List.getElem?_eq_getElem hk]
  rfl
theorem CfgIn.route {k : Nat} (h : CfgIn w B c) (hk : k < c.rs.length) : ∃ ad, c.ra = some ad ∧ ad.block < B ∧ ∀ j v, (rAt c.rs k).cells[j]? = some v → w.cell? (ad.add (k * 4 + j)) = some v := by
  obtain ⟨ad, e, hb, hc⟩ := h.pr (by rw [List.length_map]; omega)
  refine ⟨ad, e, hb, hc k _ ?_⟩
  rw [List.getElem?_map, rAt, List.getD, List.getElem?_eq_getElem hk]
  rfl
end



section
variable {w W : World} {B k : Nat} {c : Cfg}
theorem CfgIn.listenAt (h : CfgIn w B c) (hk : k < c.ls.length) (hb : Below B w W) : ∃ ad, c.la = some ad ∧ W.cell? (ad.add k) = some (.string (lAt c.ls k)) := by
  obtain ⟨ad, e, _, hc⟩ := (h.below hb).listen hk
  exact ⟨ad, e, hc⟩
theorem CfgIn.clusterAt (h : CfgIn w B c) (hk : k < c.cs.length) (hb : Below B w W) :
    ∃ ad, c.ca = some ad ∧ Four W (ad.add (k * 4)) (.string (cAt c.cs k).name) (.int .i64 (cAt c.cs k).policy) (.int .i64 (cAt c.cs k).slots) (.slice (cAt c.cs k).ha (cAt c.cs k).hn (cAt c.cs k).hc) := by
  obtain ⟨ad, e, _, hc⟩ := (h.below hb).cluster hk
  exact ⟨ad, e, four_of hc rfl⟩
theorem CfgIn.routeAt (h : CfgIn w B c) (hk : k < c.rs.length) (hb : Below B w W) :
    ∃ ad, c.ra = some ad ∧ Four W (ad.add (k * 4)) (.string (rAt c.rs k).listen) (.string (rAt c.rs k).host) (.string (rAt c.rs k).path) (.string (rAt c.rs k).cluster) := by
  obtain ⟨ad, e, _, hc⟩ := (h.below hb).route hk
  exact ⟨ad, e, four_of hc rfl⟩
end

/-- The call answers n, and nothing that was there has turned. -/
def TellsI (w : World) (n : Int) (e : Ending) (w' : World) : Prop := e = .returned (.int .i64 n) ∧ Below w.heap.size w w'
theorem TellsI.of {w w' : World} {b c : Int} {e : Ending} (h : TellsI w b e w') (hc : b = c) : TellsI w c e w' := hc ▸ h
end Go.Proofs.Ytknjdaokidcllaa
