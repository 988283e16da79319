/- Rows of the call's own, of elements of one cell: what append makes of them. -/
import Derived.Test.YtmjdamcbdclgpaaPtr
import Derived.Test.YtmjdamcbdclgpaaArgs
import Derived.Maps.AppendAt
import Derived.RegionTactic
import Derived.OwnWalk
import Derived.Test.YtmjdamcbdclgpaaNsay
import Derived.Test.YtmjdamcbdclgpaaRows
import Derived.ProofKit
import Derived.Below
import Derived.Test.YtmjdamcbdclgpaaNparts
import Derived.Test.YtmjdamcbdclgpaaNbyte
import Derived.Test.YtmjdamcbdclgpaaNhost
import Derived.Test.YtmjdamcbdclgpaaFlat
import Derived.DataElems
namespace Go.Proofs.Ytmjdamcbdclgpaa
open Go.RowKit
set_option linter.unusedVariables false

/-- The slice v, made from block 'base' on, holds just xs. -/
def Own (E base : Nat) (w : World) (v : Value) (xs : List Value) : Prop := w.ownsRow base E 1 v xs.length xs

section
variable {P : Program} {w w' : World} {E base : Nat} {v : Value} {xs : List Value}
theorem Own.slice (h : Own E base w v xs) : ∃ A c, v = .slice A xs.length c := by
  rcases h.2 with ⟨rfl, hn⟩ | ⟨g, cap, cur, rfl, _⟩
  · exact ⟨none, 0, by rw [hn]⟩
  · exact ⟨_, _, rfl⟩
theorem Own.reads {A : Option Addr} {n c : Nat} (h : Own E base w (.slice A n c) xs) : Reads w w.heap.size A xs := by
  have hn : n = xs.length := by
    obtain ⟨A', c', e⟩ := h.slice
    injection e
  subst hn
  exact Reads.of_own h
theorem Own.lt (h : Own E base w v xs) : ∀ k, v.ownBlock = some k → base ≤ k ∧ k < w.heap.size := World.ownsRow.lt h
theorem Own.kept {row : Option Nat} (h : Own E base w v xs) (g : w.grownBy w' row) (hne : v.ownBlock = none ∨ v.ownBlock ≠ row) : Own E base w' v xs := World.ownsRow.kept h g hne
theorem Own.kept0 (h : Own E base w v xs) (g : w.grownBy w' none) : Own E base w' v xs := h.kept g (by cases v.ownBlock <;> simp)
theorem Own.alloc (h : Own E base w v xs) (o : Obj) : Own E base (w.alloc o) v xs := h.kept0 (World.grownBy_alloc _ _ _)
theorem Own.empty (hb : base ≤ w.heap.size) : Own E base (w.alloc (.cells #[] E)) (.slice (some ⟨w.heap.size, 0, none⟩) 0 0) [] :=
  World.ownsRow_made w #[] 0 hb (by simp [maxLen]) (by simp)
theorem Own.one (hb : base ≤ w.heap.size) (u : Value) : Own E base (w.alloc (.cells #[u] E)) (.slice (some ⟨w.heap.size, 0, none⟩) 1 1) [u] :=
  ⟨rfl, .inr ⟨w.heap.size, 1, #[u], rfl, hb, heap_alloc_new w _, by simp, by simp [maxLen], rfl, rfl⟩⟩
theorem Own.nil : Own E base w (.slice none 0 0) [] := World.ownsRow_nil _ _ _ _
theorem Own.ne_two {g T : Nat} {x y : Value} (h : Own E base w v xs) (hg : w.heap[g]? = some (.cells #[x, y] T (0, 0))) (hT : E ≠ T) : v.ownBlock ≠ some g := by
  rcases h.2 with ⟨rfl, _⟩ | ⟨g', cap, cur, rfl, _, hh, _⟩
  · simp [Value.ownBlock]
  · intro he
    have e : g' = g := by simpa [Value.ownBlock] using he
    subst e
    have := hh.symm.trans hg
    simp at this
    exact hT this.2

end
theorem own_apart {P : Program} {w : World} {E base g T : Nat} {v : Value} {xs : List Value} {cs : Array Value} (h : Own E base w v xs) (hg : w.heap[g]? = some (.cells cs T (0, 0))) (hT : E ≠ T) : v.ownBlock ≠ some g := by
  rcases h.2 with ⟨rfl, _⟩ | ⟨g', cap, cur, rfl, _, hh, _⟩
  · simp [Value.ownBlock]
  · intro he
    have e : g' = g := by simpa [Value.ownBlock] using he
    subst e
    have := hh.symm.trans hg
    simp at this
    exact hT this.2
theorem own_form {w : World} {b E s n : Nat} {v : Value} {xs : List Value} (h : w.ownsRow b E s v n xs) : ∃ A m c, v = .slice A m c := by
  rcases h.2 with ⟨rfl, _⟩ | ⟨g, cap, cur, rfl, _⟩
  · exact ⟨_, _, _, rfl⟩
  · exact ⟨_, _, _, rfl⟩

section
variable {P : Program} {w w' : World} {E base : Nat} {v : Value} {xs : List Value}
/-- An element more: what was made in a new block of its own is appended. -/
theorem wpList_append_one {ops : Array Oper} {rest : List Oper} {o : Oper} {a : Act} {Q : Exit → Act → World → Prop} (hgd : o.guard = none) (s x : Operand) (t : TypeId)
    (ho : o.op = .call { callee := .builtin .append, args := #[s, x], argTypes := #[t, t] })
    (i : TypeInfo) (z : Value) (bytes : Nat) (ht : P.underlying t = some (.slice E)) (hi : P.info? E = some i) (hz : i.zero = some z)
    (hsize : i.size = 1) (hby : i.bytes = bytes) (hzs : z.cells.size = 1) (hs : a.eval s = v) (w : World) (u : Value) (h1 : u.oneCell' = true) (hown : Own E base w v xs)
    (hx : a.eval x = .slice (some ⟨w.heap.size, 0, none⟩) 1 1)
    (h63 : xs.length + 1 ≤ maxLen) (hbytes : (xs.length + 1) * bytes ≤ 140737488355328) (hbase : base ≤ w.heap.size)
    (h : ∀ v' w', Own E base w' v' (xs ++ [u]) → w.grownBy w' v.ownBlock → (v'.ownBlock = v.ownBlock ∨ ∃ k, v'.ownBlock = some k ∧ w.heap.size ≤ k) → wpList P ops Q rest (a.put o.dst v') w') :
    wpList P ops Q (o :: rest) a (w.alloc (.cells #[u] E)) := by
  refine wpList_plain hgd fun _ hK => ?_
  obtain ⟨v', w', hrun, h2, h3, _, h5⟩ := run_append_own_at (P := P) (w.alloc (.cells #[u] E)) base t o.type E i z 1 bytes ht hi hz hsize hby hzs (by omega) v xs.length xs (hown.alloc _) ⟨w.heap.size, 0, none⟩ 1 1 [u] rfl
    (fun j y hy => by
      have hj : j = 0 := by
        have := (List.getElem?_eq_some_iff.1 hy).1
        simp at this
        exact this
      subst hj
      simp at hy
      subst hy
      exact World.cell?_alloc_new w #[u] E 0) (by simpa using h1) h63 hbytes (by rw [World.size_alloc]; omega)
  unfold Oper.wp execOp
  simp only [ho, resolve, invoke, builtin, Sem.run_bind, Sem.run_pure, Result.andThen_ok, List.map_toArray, List.map_cons, List.map_nil, hs, hx, hrun]
  refine hK _ _ (h v' w' (by simpa [Own] using h2) (grownBy_trans (World.grownBy_alloc _ _ _) h3) ?_)
  rcases h5 with h5 | h5
  · exact .inl h5
  · exact .inr ⟨_, h5, by simp⟩

/-- A slice that was there is appended whole. -/
theorem wpList_append_all {ops : Array Oper} {rest : List Oper} {o : Oper} {a : Act} {Q : Exit → Act → World → Prop} (hgd : o.guard = none) (s x : Operand) (t : TypeId)
    (ho : o.op = .call { callee := .builtin .append, args := #[s, x], argTypes := #[t, t] })
    (i : TypeInfo) (z : Value) (bytes : Nat) (ht : P.underlying t = some (.slice E)) (hi : P.info? E = some i) (hz : i.zero = some z)
    (hsize : i.size = 1) (hby : i.bytes = bytes) (hzs : z.cells.size = 1) (hs : a.eval s = v) (w : World) (hown : Own E base w v xs)
    {B : Nat} {A : Option Addr} {c : Nat} {ys : List Value} (hx : a.eval x = .slice A ys.length c) (hr : Reads w B A ys) (h1 : ∀ u ∈ ys, u.oneCell' = true)
    (h63 : xs.length + ys.length ≤ maxLen) (hbytes : (xs.length + ys.length) * bytes ≤ 140737488355328) (hbase : base ≤ w.heap.size)
    (h : ∀ v' w', Own E base w' v' (xs ++ ys) → w.grownBy w' v.ownBlock → (v'.ownBlock = v.ownBlock ∨ ∃ k, v'.ownBlock = some k ∧ w.heap.size ≤ k) → wpList P ops Q rest (a.put o.dst v') w') :
    wpList P ops Q (o :: rest) a w := by
  refine wpList_plain hgd fun _ hK => ?_
  by_cases h0 : ys.length = 0 ∧ A = none
  · obtain ⟨h0, rfl⟩ := h0
    have hy : ys = [] := List.eq_nil_of_length_eq_zero h0
    subst hy
    have hrun : (Builtin.append_ #[t, t] o.type #[v, .slice none 0 c]).run P w = .ok v w := by
      rcases hown.2 with ⟨rfl, hn⟩ | ⟨g, cap, cur, rfl, _, _, hnc, _⟩
      · simp [Builtin.append_, run_underlying ht, sizeOf, typeInfo, hi, Builtin.lenOf, Builtin.firstCells]
      · simp [Builtin.append_, run_underlying ht, sizeOf, typeInfo, hi, Builtin.lenOf, Builtin.firstCells, hnc, storeCells]
    unfold Oper.wp execOp
    simp only [ho, resolve, invoke, builtin, Sem.run_bind, Sem.run_pure, Result.andThen_ok, List.map_toArray, List.map_cons, List.map_nil, hs, hx, hrun, List.length_nil]
    exact hK _ _ (h v w (by simpa using hown) (World.grownBy.refl w _) (.inl rfl))
  · obtain ⟨ad, rfl, hc⟩ : ∃ ad, A = some ad ∧ ∀ j u, ys[j]? = some u → w.cell? (ad.add j) = some u := by
      rcases A with _ | ad
      · have hp : 0 < ys.length := by
          rcases Nat.eq_zero_or_pos ys.length with h | h
          · exact absurd ⟨h, rfl⟩ h0
          · exact h
        obtain ⟨ad, e, _⟩ := hr hp
        cases e
      · refine ⟨ad, rfl, fun j u hu => ?_⟩
        have hp : 0 < ys.length := Nat.lt_of_le_of_lt (Nat.zero_le _) (List.getElem?_eq_some_iff.1 hu).1
        obtain ⟨ad', e, _, hc⟩ := hr hp
        injection e with e
        subst e
        exact hc j u hu
    obtain ⟨v', w', hrun, h2, h3, _, h5⟩ := run_append_own_at (P := P) w base t o.type E i z 1 bytes ht hi hz hsize hby hzs (by omega) v xs.length xs hown ad ys.length c ys (by simp) hc h1 h63 hbytes hbase
    unfold Oper.wp execOp
    simp only [ho, resolve, invoke, builtin, Sem.run_bind, Sem.run_pure, Result.andThen_ok, List.map_toArray, List.map_cons, List.map_nil, hs, hx, hrun]
    refine hK _ _ (h v' w' (by simpa [Own] using h2) h3 ?_)
    rcases h5 with h5 | h5
    · exact .inl h5
    · exact .inr ⟨_, h5, Nat.le_refl _⟩
end
end Go.Proofs.Ytmjdamcbdclgpaa

/- Rows of texts that a call made: what a call that answers one says. -/
namespace Go.Proofs.Ytmjdamcbdclgpaa
open Go.RowKit
set_option linter.unusedVariables false
set_option linter.unusedSimpArgs false
set_option maxRecDepth 100000

theorem str_info : (Try.prog.info? 9).map (fun i => (i.zero, i.size, i.bytes)) = some (some (.string ⟨#[]⟩), 1, 16) := by kernel_rfl

/-- The call answers a row of its own of just these texts; nothing that was there has turned. -/
def RowOf (w : World) (xs : List ByteArray) (e : Ending) (w' : World) : Prop :=
  ∃ v, e = .returned v ∧ Go.Proofs.Ytmjdamcbdclgpaa.Own 9 w.heap.size w' v (xs.map Value.string) ∧ Below w.heap.size w w'

theorem ownsRow_less {W : World} {b b' : Nat} {e : TypeId} {size : Nat} {v : Value} {n : Nat} {xs : List Value} (h : W.ownsRow b e size v n xs) (hb : b' ≤ b) : W.ownsRow b' e size v n xs := by
  obtain ⟨h1, h2⟩ := h
  refine ⟨h1, ?_⟩
  rcases h2 with h2 | ⟨g, cap, cur, hv, hg, r⟩
  · exact Or.inl h2
  · exact Or.inr ⟨g, cap, cur, hv, by omega, r⟩
end Go.Proofs.Ytmjdamcbdclgpaa

/- The document's own Parts. -/
namespace Go.Proofs.Ytmjdamcbdclgpaa
open Go.RowKit
set_option linter.unusedVariables false
set_option linter.unusedSimpArgs false
set_option maxRecDepth 100000

/-- A row of the call's own, made since w. -/
def Mine (w wi : World) (v : Value) (xs : List ByteArray) : Prop := w.grownBy wi none ∧ Go.Proofs.Ytmjdamcbdclgpaa.Own 9 w.heap.size wi v (xs.map Value.string)
theorem Mine.app {w wi wj : World} {v v' : Value} {xs ys : List ByteArray} (h : Mine w wi v xs) (ho : Go.Proofs.Ytmjdamcbdclgpaa.Own 9 w.heap.size wj v' (ys.map Value.string)) (g : wi.grownBy wj v.ownBlock) : Mine w wj v' ys := by
  refine ⟨?_, ho⟩
  rcases ho' : v.ownBlock with _ | k
  · rw [ho'] at g; exact grownBy_trans h.1 g
  · rw [ho'] at g; exact grownBy_over h.1 g (h.2.lt k ho').1
theorem Mine.row {w w' : World} {v : Value} {xs : List ByteArray} (h : Mine w w' v xs) : RowOf w xs (.returned v) w' :=
  ⟨v, rfl, h.2, (Below.refl _ _).grown h.1 (Nat.le_refl _) (fun k e => by cases e)⟩

def RpartsAt (w : World) (s : ByteArray) (b : Int) (out at_ i : Value) (wr : World) : Prop :=
  ∃ k : Nat, k ≤ s.size ∧ i = .int .i64 k ∧ at_ = .int .i64 (cuts s b k).2 ∧ Mine w wr out (cuts s b k).1

theorem rparts_is (s : ByteArray) (b : Int) (w : World) (h : s.size ≤ 2000) : Calls Try.prog 81 #[.string s, .int .u8 b] w (RowOf w (partsB s b)) := by
  obtain ⟨i0, hi0, hz0, hz1, hz2⟩ := info_parts str_info
  have HI := Lib.hid hi0
  have HZ0 := Lib.hid hz0
  have HZ1 := Lib.hid hz1
  have HZ2 := Lib.hid hz2
  clear hi0 hz0 hz1 hz2
  have S : Mine w (w.alloc (.cells #[] 9)) (.slice (some ⟨w.heap.size, 0, none⟩) 0 0) [] := ⟨World.grownBy_alloc _ _ _, Own.empty (Nat.le_refl _)⟩
  go_enter Try.func81, Try.ntmps81
  go_wp2_with fail
  go_loopw [5, 6, 7] (fun out at_ i wr => RpartsAt w s b out at_ i wr) (fun _ _ i _ => s.size - (intOf i).toNat)
  case atStart => exact ⟨0, by omega, rfl, rfl, S⟩
  case round =>
    obtain ⟨k, hk, rfl, rfl, S⟩ := hrel
    have hat := cuts_at s b k
    have hcc := cuts_count s b k
    by_cases hlt : k < s.size
    · by_cases hb : (s[k].toNat : Int) = b
      · have hn1 := cuts_hit hlt hb
        have HN := Lib.hid hn1
        have t1 : ((s[k].toNat : Int) == b) = true := by simp [hb]
        clear hb hn1
        go_wp2_with (at_builtin; refine wpList_append_one rfl (.tmp 20) (.tmp 25) 22 rfl i0 (.string ⟨#[]⟩) 16 Try.underlying22 HI.out HZ0.out HZ1.out HZ2.out rfl rfl _ (.string (s.extract (cuts s b k).2 k)) rfl S.2 rfl (by simp [maxLen]; omega) (by simp; omega) S.1.size ?_; intro out' w4 ho hg hb4; have S4 := S.app (ys := (cuts s b k).1 ++ [s.extract (cuts s b k).2 k]) (by simpa using ho) hg)
        go_roundw
        case rel => exact ⟨k + 1, by omega, by go_num, by rw [HN.out]; go_num, by rw [HN.out]; exact S4⟩
        case measure => simp [intOf]; omega
      · have hn1 := cuts_miss hlt hb
        have HN := Lib.hid hn1
        have t1 : ((s[k].toNat : Int) == b) = false := by simp [hb]
        clear hb hn1
        go_wp2_with fail
        go_roundw
        case rel => exact ⟨k + 1, by omega, by go_num, by rw [HN.out], by rw [HN.out]; exact S⟩
        case measure => simp [intOf]; omega
    · obtain rfl : k = s.size := by omega
      go_wp2_with (at_builtin; refine wpList_append_one rfl (.tmp 29) (.tmp 33) 22 rfl i0 (.string ⟨#[]⟩) 16 Try.underlying22 HI.out HZ0.out HZ1.out HZ2.out rfl rfl _ (.string (s.extract (cuts s b s.size).2 s.size)) rfl S.2 rfl (by simp [maxLen]; omega) (by simp; omega) S.1.size ?_; intro out' w4 ho hg hb4; have S4 := S.app (ys := partsB s b) (by simpa [partsB] using ho) hg)
      go_ret
      exact S4.row

theorem grownBy_drewN (w : World) (n : Nat) (r : Option Nat) : w.grownBy (w.drewN n) r := ⟨rfl, rfl, rfl, Nat.le_refl _, fun _ _ _ => rfl⟩
end Go.Proofs.Ytmjdamcbdclgpaa

/- The document's own Name and Path. -/
namespace Go.Proofs.Ytmjdamcbdclgpaa
open Go.RowKit
set_option linter.unusedVariables false
set_option linter.unusedSimpArgs false
set_option maxRecDepth 100000

theorem lowI_word {n : Int} (h : lowI n = true) : wordI n = true := by simp [wordI, h]
theorem slashI_path {n : Int} (h : slashI n = true) : pathI n = true := by simp [pathI, h]

theorem rname_not (s : ByteArray) (w : World) (h : s.size = 0 ∨ 16 < s.size) :
    Calls Try.prog 55 #[.string s] w fun e w' => e = .returned (.bool false) ∧ w = w' := by
  rcases h with h | h
  · have h1 : decide ((s.size : Int) < 1) = true := by simp; omega
    have H := Lib.hid h
    clear h
    go_enter Try.func55, Try.ntmps55
    go_wp2
    go_ret
    exact ⟨rfl, rfl⟩
  · have h1 : decide ((s.size : Int) < 1) = false := by simp; omega
    have h2 : decide ((16 : Int) < (s.size : Int)) = true := by simp; omega
    go_enter Try.func55, Try.ntmps55
    go_wp2
    go_ret
    exact ⟨rfl, rfl⟩

theorem rname_first (s : ByteArray) (w : World) (h : 0 < s.size) (hM : s.size ≤ 16) (hf : lowI (s[0].toNat : Int) = false) :
    Calls Try.prog 55 #[.string s] w fun e w' => e = .returned (.bool false) ∧ w = w' := by
  have h1 : decide ((s.size : Int) < 1) = false := by simp; omega
  have h2 : decide ((16 : Int) < (s.size : Int)) = false := by simp; omega
  have hc := fun w => low_is (s[0].toNat : Int) w (by omega) (by have := s[0].toNat_lt; omega)
  rw [hf] at hc
  have HF := Lib.hid hf
  clear hf
  go_enter Try.func55, Try.ntmps55
  go_wp2_with (go_at_call 67; refine (hc _).mono ?_; rintro e w' ⟨rfl, rfl⟩)
  go_ret
  exact ⟨rfl, rfl⟩

def seenR (s : ByteArray) (i : Value) : Prop := ∃ k : Nat, k ≤ s.size ∧ i = .int .i64 k ∧ ∀ j (hj : j < s.size), j < k → wordI (s[j].toNat : Int) = true

theorem rname_runs (s : ByteArray) (w : World) (h : 0 < s.size) (hM : s.size ≤ 16) (hf : lowI (s[0].toNat : Int) = true) :
    Calls Try.prog 55 #[.string s] w fun e w' => e = .returned (.bool (nameB s)) ∧ w = w' := by
  have h1 : decide ((s.size : Int) < 1) = false := by simp; omega
  have h2 : decide ((16 : Int) < (s.size : Int)) = false := by simp; omega
  have hc := fun w => low_is (s[0].toNat : Int) w (by omega) (by have := s[0].toNat_lt; omega)
  rw [hf] at hc
  have HF := Lib.hid hf
  clear hf
  go_enter Try.func55, Try.ntmps55
  go_wp2_with (go_at_call 67; refine (hc _).mono ?_; rintro e w' ⟨rfl, rfl⟩)
  clear hc h1 h2
  go_loop [3] (fun i => seenR s i) (fun i => s.size - (intOf i).toNat)
  case atStart => exact ⟨0, by omega, rfl, fun j _ h0 => by omega⟩
  case round =>
    obtain ⟨k, hk, rfl, hseen⟩ := hrel
    have HS := Lib.hid hseen
    clear hseen
    by_cases hlt : k < s.size
    · have hcg := fun w => word_is (s[k].toNat : Int) w (by omega) (by have := s[k].toNat_lt; omega)
      obtain ⟨b, hb⟩ : ∃ b, wordI (s[k].toNat : Int) = b := ⟨_, rfl⟩
      rw [hb] at hcg
      have HB := Lib.hid hb
      clear hb
      cases b with
      | false =>
        have h0 : 0 < k := by
          rcases Nat.eq_zero_or_pos k with rfl | h0
          · exact absurd (lowI_word HF.out) (by rw [HB.out]; exact Bool.false_ne_true)
          · exact h0
        go_wp2_with (go_at_call 68; refine (hcg _).mono ?_; rintro e w' ⟨rfl, rfl⟩)
        go_ret
        exact ⟨ret_bool (kindB_next hlt h0 HB.out).symm, rfl⟩
      | true =>
        go_wp2_with (go_at_call 68; refine (hcg _).mono ?_; rintro e w' ⟨rfl, rfl⟩)
        go_round
        case rel => exact ⟨k + 1, by omega, by go_num, fun j hj h0 => by
          by_cases e : j = k
          · subst e; exact HB.out
          · exact HS.out j hj (by omega)⟩
        case measure => simp [intOf]; omega
    · go_wp2
      go_ret
      exact ⟨ret_bool (kindB_yes h hM HF.out fun j hj h0 => HS.out j hj (by omega)).symm, rfl⟩

theorem rname_is (s : ByteArray) (w : World) : Calls Try.prog 55 #[.string s] w fun e w' => e = .returned (.bool (nameB s)) ∧ w = w' := by
  by_cases h0 : s.size = 0
  · exact (rname_not s w (.inl h0)).mono fun _ _ h => by rw [nameB, kindB_empty h0]; exact h
  · by_cases h1 : 16 < s.size
    · exact (rname_not s w (.inr h1)).mono fun _ _ h => by rw [nameB, kindB_long h1]; exact h
    · have h2 : 0 < s.size := by omega
      rcases hf : lowI (s[0].toNat : Int) with _ | _
      · exact (rname_first s w h2 (by omega) hf).mono fun _ _ h => by rw [nameB, kindB_first h2 hf]; exact h
      · exact rname_runs s w h2 (by omega) hf

/-! Path. -/
theorem rpath_not (s : ByteArray) (w : World) (h : s.size = 0 ∨ 32 < s.size) :
    Calls Try.prog 57 #[.string s] w fun e w' => e = .returned (.bool false) ∧ w = w' := by
  rcases h with h | h
  · have h1 : decide ((s.size : Int) < 1) = true := by simp; omega
    have H := Lib.hid h
    clear h
    go_enter Try.func57, Try.ntmps57
    go_wp2
    go_ret
    exact ⟨rfl, rfl⟩
  · have h1 : decide ((s.size : Int) < 1) = false := by simp; omega
    have h2 : decide ((32 : Int) < (s.size : Int)) = true := by simp; omega
    go_enter Try.func57, Try.ntmps57
    go_wp2
    go_ret
    exact ⟨rfl, rfl⟩

theorem slashI_no {n : Int} (h : slashI n = false) : (n != 47) = true := by simpa [slashI] using h
theorem slashI_yes {n : Int} (h : slashI n = true) : (n != 47) = false := by simpa [slashI] using h

theorem rpath_first (s : ByteArray) (w : World) (h : 0 < s.size) (hM : s.size ≤ 32) (hf : slashI (s[0].toNat : Int) = false) :
    Calls Try.prog 57 #[.string s] w fun e w' => e = .returned (.bool false) ∧ w = w' := by
  have h1 : decide ((s.size : Int) < 1) = false := by simp; omega
  have h2 : decide ((32 : Int) < (s.size : Int)) = false := by simp; omega
  have h3 := slashI_no hf
  clear hf
  go_enter Try.func57, Try.ntmps57
  go_wp2
  go_ret
  exact ⟨rfl, rfl⟩

def seenQ (s : ByteArray) (i : Value) : Prop := ∃ k : Nat, k ≤ s.size ∧ i = .int .i64 k ∧ ∀ j (hj : j < s.size), j < k → pathI (s[j].toNat : Int) = true

theorem rpath_runs (s : ByteArray) (w : World) (h : 0 < s.size) (hM : s.size ≤ 32) (hf : slashI (s[0].toNat : Int) = true) :
    Calls Try.prog 57 #[.string s] w fun e w' => e = .returned (.bool (pathB s)) ∧ w = w' := by
  have h1 : decide ((s.size : Int) < 1) = false := by simp; omega
  have h2 : decide ((32 : Int) < (s.size : Int)) = false := by simp; omega
  have h3 := slashI_yes hf
  have HF := Lib.hid hf
  clear hf
  go_enter Try.func57, Try.ntmps57
  go_wp2
  clear h3 h1 h2
  go_loop [3] (fun i => seenQ s i) (fun i => s.size - (intOf i).toNat)
  case atStart => exact ⟨0, by omega, rfl, fun j _ h0 => by omega⟩
  case round =>
    obtain ⟨k, hk, rfl, hseen⟩ := hrel
    have HS := Lib.hid hseen
    clear hseen
    by_cases hlt : k < s.size
    · have hcg := fun w => word_is (s[k].toNat : Int) w (by omega) (by have := s[k].toNat_lt; omega)
      obtain ⟨b, hb⟩ : ∃ b, wordI (s[k].toNat : Int) = b := ⟨_, rfl⟩
      obtain ⟨c, hc⟩ : ∃ c, slashI (s[k].toNat : Int) = c := ⟨_, rfl⟩
      rw [hb] at hcg
      have HP : Hid (pathI (s[k].toNat : Int) = (b || c)) := Lib.hid (by rw [pathI, hb, hc])
      have HC := Lib.hid hc
      clear hb hc
      cases b with
      | false =>
        cases c with
        | false =>
          have h0 : 0 < k := by
            rcases Nat.eq_zero_or_pos k with rfl | h0
            · exact absurd (slashI_path HF.out) (by rw [HP.out]; exact Bool.false_ne_true)
            · exact h0
          have h4 := slashI_no HC.out
          go_wp2_with (go_at_call 68; refine (hcg _).mono ?_; rintro e w' ⟨rfl, rfl⟩)
          go_ret
          exact ⟨ret_bool (kindB_next hlt h0 HP.out).symm, rfl⟩
        | true =>
          have h4 := slashI_yes HC.out
          go_wp2_with (go_at_call 68; refine (hcg _).mono ?_; rintro e w' ⟨rfl, rfl⟩)
          go_round
          case rel => exact ⟨k + 1, by omega, by go_num, fun j hj h0 => by
            by_cases e : j = k
            · subst e; exact HP.out
            · exact HS.out j hj (by omega)⟩
          case measure => simp [intOf]; omega
      | true =>
        go_wp2_with (go_at_call 68; refine (hcg _).mono ?_; rintro e w' ⟨rfl, rfl⟩)
        go_round
        case rel => exact ⟨k + 1, by omega, by go_num, fun j hj h0 => by
          by_cases e : j = k
          · subst e; exact HP.out
          · exact HS.out j hj (by omega)⟩
        case measure => simp [intOf]; omega
    · go_wp2
      go_ret
      exact ⟨ret_bool (kindB_yes h hM HF.out fun j hj h0 => HS.out j hj (by omega)).symm, rfl⟩

theorem rpath_is (s : ByteArray) (w : World) : Calls Try.prog 57 #[.string s] w fun e w' => e = .returned (.bool (pathB s)) ∧ w = w' := by
  by_cases h0 : s.size = 0
  · exact (rpath_not s w (.inl h0)).mono fun _ _ h => by rw [pathB, kindB_empty h0]; exact h
  · by_cases h1 : 32 < s.size
    · exact (rpath_not s w (.inr h1)).mono fun _ _ h => by rw [pathB, kindB_long h1]; exact h
    · have h2 : 0 < s.size := by omega
      rcases hf : slashI (s[0].toNat : Int) with _ | _
      · exact (rpath_first s w h2 (by omega) hf).mono fun _ _ h => by rw [pathB, kindB_first h2 hf]; exact h
      · exact rpath_runs s w h2 (by omega) hf
end Go.Proofs.Ytmjdamcbdclgpaa

/- The document's own Host. -/
namespace Go.Proofs.Ytmjdamcbdclgpaa
open Go.RowKit
set_option linter.unusedVariables false
set_option linter.unusedSimpArgs false
set_option maxRecDepth 100000

theorem map_string_length (xs : List ByteArray) : (xs.map Value.string).length = xs.length := List.length_map ..

theorem rhost_is (s : ByteArray) (w : World) (h : s.size ≤ 2000) : Calls Try.prog 69 #[.string s] w (Says w (hostB s)) := by
  have hlen := partsB_count s 46
  go_enter Try.func69, Try.ntmps69
  go_wp2_with fail
  refine (rparts_is s 46 w h).mono ?_
  rintro e w1 ⟨v, rfl, ho, hb⟩
  obtain ⟨A, c, rfl⟩ := ho.slice
  rw [map_string_length]
  have hr := Lib.hid ho.reads
  obtain ⟨xs, hxs⟩ : ∃ xs, partsB s 46 = xs := ⟨_, rfl⟩
  rw [hxs] at hr hlen ⊢
  have HX := Lib.hid hxs
  clear hxs ho
  go_wp2_with fail
  go_loop [4] (fun i => ∃ k : Nat, k ≤ xs.length ∧ i = .int .i64 k ∧ ∀ y ∈ xs.take k, nameB y = true) (fun i => xs.length - (intOf i).toNat)
  case atStart => exact ⟨0, by omega, rfl, fun y hy => by simp at hy⟩
  case round =>
    obtain ⟨k, hk, rfl, hp⟩ := hrel
    have HP := Lib.hid hp
    clear hp
    by_cases hlt : k < xs.length
    · obtain ⟨ad, rfl, _, hc⟩ := hr.out.str hlt
      have ht : xs.take (k + 1) = xs.take k ++ [xs[k]] := List.take_succ_eq_append_getElem hlt
      have HT := Lib.hid ht
      have HM := Lib.hid (List.getElem_mem hlt)
      clear ht
      generalize xs[k] = z at hc HT HM
      have hN := rname_is z w1
      obtain ⟨c, hc'⟩ : ∃ c, nameB z = c := ⟨_, rfl⟩
      rw [hc'] at hN
      have HC := Lib.hid hc'
      clear hc'
      cases c with
      | false =>
        go_wp2_with fail
        refine hN.mono ?_
        rintro e w' ⟨rfl, rfl⟩
        go_wp2_with fail
        go_ret
        refine ⟨ret_bool ?_, hb⟩
        rw [hostB, HX.out]
        symm
        rw [Bool.and_eq_false_iff]
        refine .inr ?_
        rw [Bool.eq_false_iff]
        intro ha
        have := List.all_eq_true.1 ha z HM.out
        rw [HC.out] at this
        cases this
      | true =>
        go_wp2_with fail
        refine hN.mono ?_
        rintro e w' ⟨rfl, rfl⟩
        go_wp2_with fail
        go_round
        case rel => exact ⟨k + 1, by omega, by go_num, fun y hy => by
          rw [HT.out] at hy
          rcases List.mem_append.1 hy with hy | hy
          · exact HP.out y hy
          · simp at hy; subst hy; exact HC.out⟩
        case measure => simp [intOf]; omega
    · obtain rfl : k = xs.length := by omega
      have hq : xs.all nameB = true := by
        rw [List.all_eq_true]; intro y hy; exact HP.out y (by rw [List.take_length]; exact hy)
      have HQ := Lib.hid hq
      clear hq
      go_wp2_with fail
      go_ret
      refine ⟨ret_bool ?_, hb⟩
      rw [hostB, HX.out, HQ.out, Bool.and_true]
      first | rfl | (congr 1; apply propext; omega)
end Go.Proofs.Ytmjdamcbdclgpaa

/- The document's own Same. -/
namespace Go.Proofs.Ytmjdamcbdclgpaa
open Go.RowKit
set_option linter.unusedVariables false
set_option linter.unusedSimpArgs false
set_option maxRecDepth 100000

theorem toList_inj {a b : ByteArray} (h : a.toList = b.toList) : a = b := by
  rw [ByteArray.toList_eq, ByteArray.toList_eq] at h
  exact Go.WideShapes.bytes_inj h

/-- Of equal rows Same answers true. -/
theorem same_yes (A A' : Option Addr) (c c' : Nat) (xs : List ByteArray) (w : World) (hl : xs.length ≤ maxLen)
    (hx : Hid (Reads w w.heap.size A (xs.map Value.string))) (hy : Hid (Reads w w.heap.size A' (xs.map Value.string))) :
    Calls Try.prog 12 #[.slice A xs.length c, .slice A' xs.length c'] w (Says w true) := by
  unfold maxLen at hl
  go_enter Try.func12, Try.ntmps12
  go_wp2_with fail
  go_loopw [5] (fun i wr => ∃ k : Nat, k ≤ xs.length ∧ i = .int .i64 k ∧ ∃ n, wr = w.drewN n) (fun i _ => xs.length - (intOf i).toNat)
  case atStart => exact ⟨0, by omega, rfl, 0, rfl⟩
  case round =>
    obtain ⟨k, hk, rfl, n, rfl⟩ := hrel
    by_cases hlt : k < xs.length
    · obtain ⟨ad, rfl, _, hc⟩ := hx.out.str hlt
      obtain ⟨ad', rfl, _, hc'⟩ := hy.out.str hlt
      generalize xs[k] = z at hc hc'
      go_wp2_with fail
      go_quiet (fail)
      go_wp2_with fail
      go_roundw
      case rel => exact ⟨k + 1, by omega, by go_num, _, rfl⟩
      case measure => simp [intOf]; omega
    · go_wp2_with fail
      go_ret
      exact ⟨rfl, below_drewN (Below.refl _ _) _⟩
end Go.Proofs.Ytmjdamcbdclgpaa

/- Patterns: what a pattern of a tail is of, and which texts are patterns, by the program and by the document. -/
namespace Go.Proofs.Ytmjdamcbdclgpaa
open Go.RowKit
set_option linter.unusedVariables false
set_option linter.unusedSimpArgs false
set_option maxRecDepth 100000

/-- Does a text begin with these two bytes? -/
def tailB (s : ByteArray) : Bool := decide (2 ≤ s.size) && ((s.extract 0 2).toList == [42, 46])
def trimB (s : ByteArray) : ByteArray := bif tailB s then s.extract 2 s.size else s
def patternB (s : ByteArray) : Bool := (s.toList == [42]) || hostB (trimB s)

theorem hasPrefix_is (s : ByteArray) (w : World) : Calls Try.prog 86 #[.string s, .string ⟨#[42, 46]⟩] w fun e w' => e = .returned (.bool (tailB s)) ∧ w = w' := by
  by_cases h : 2 ≤ s.size
  · have h1 : decide ((2 : Int) ≤ (s.size : Int)) = true := by simp; omega
    have h2 : decide (2 ≤ s.size) = true := decide_eq_true h
    unfold tailB
    rw [h2, Bool.true_and]
    clear h2
    obtain ⟨t, ht⟩ : ∃ t, s.extract 0 2 = t := ⟨_, rfl⟩
    rw [ht]
    go_enter Try.func86, Try.ntmps86
    go_wp2
    go_ret
    exact ⟨rfl, rfl⟩
  · have h1 : decide ((2 : Int) ≤ (s.size : Int)) = false := by simp; omega
    have h2 : decide (2 ≤ s.size) = false := decide_eq_false h
    unfold tailB
    rw [h2, Bool.false_and]
    clear h2
    go_enter Try.func86, Try.ntmps86
    go_wp2
    go_ret
    exact ⟨rfl, rfl⟩

theorem tail_size {s : ByteArray} (h : tailB s = true) : 2 ≤ s.size := by
  unfold tailB at h
  rw [Bool.and_eq_true] at h
  exact of_decide_eq_true h.1

theorem trimLite_is (s : ByteArray) (w : World) : Calls Try.prog 84 #[.string s, .string ⟨#[42, 46]⟩] w fun e w' => e = .returned (.string (trimB s)) ∧ w = w' := by
  have hp := hasPrefix_is s w
  obtain ⟨c, hc⟩ : ∃ c, tailB s = c := ⟨_, rfl⟩
  rw [hc] at hp
  unfold trimB
  rw [hc]
  cases c with
  | true =>
    have h2 := tail_size hc
    clear hc
    go_enter Try.func84, Try.ntmps84
    go_wp2_with fail
    refine hp.mono ?_
    rintro e w' ⟨rfl, rfl⟩
    go_wp2_with fail
    go_ret
    exact ⟨rfl, rfl⟩
  | false =>
    clear hc
    go_enter Try.func84, Try.ntmps84
    go_wp2_with fail
    refine hp.mono ?_
    rintro e w' ⟨rfl, rfl⟩
    go_wp2_with fail
    go_ret
    exact ⟨rfl, rfl⟩

theorem trim_is (s : ByteArray) (w : World) : Calls Try.prog 77 #[.string s, .string ⟨#[42, 46]⟩] w fun e w' => e = .returned (.string (trimB s)) ∧ w = w' := by
  obtain ⟨t, ht⟩ : ∃ t, trimB s = t := ⟨_, rfl⟩
  have hp := trimLite_is s w
  rw [ht] at hp ⊢
  clear ht
  go_enter Try.func77, Try.ntmps77
  go_wp2_with fail
  refine hp.mono ?_
  rintro e w' ⟨rfl, rfl⟩
  go_wp2_with fail
  go_ret
  exact ⟨rfl, rfl⟩

theorem pattern_is (s : ByteArray) (w : World) : Calls Try.prog 63 #[.string s] w (Says w (patternB s)) := by
  obtain ⟨c, hc⟩ : ∃ c, (s.toList == [42]) = c := ⟨_, rfl⟩
  unfold patternB
  rw [hc]
  cases c with
  | true =>
    rw [Bool.true_or]
    go_enter Try.func63, Try.ntmps63
    go_wp2_with fail
    go_ret
    exact ⟨rfl, Below.refl _ _⟩
  | false =>
    rw [Bool.false_or]
    have ht := trim_is s w
    generalize trimB s = t at ht ⊢
    have hh := host_is t w
    generalize hostB t = d at hh ⊢
    go_enter Try.func63, Try.ntmps63
    go_wp2_with fail
    refine ht.mono ?_
    rintro e w' ⟨rfl, rfl⟩
    go_wp2_with fail
    refine hh.mono ?_
    rintro e w1 ⟨rfl, hb⟩
    go_wp2_with fail
    go_ret
    exact ⟨rfl, hb⟩

/-! The document's own. -/
theorem size_list (s : ByteArray) : s.data.toList.length = s.size := by simp
theorem toList_data (s : ByteArray) : s.toList = s.data.toList := ByteArray.toList_eq s
theorem hostB_empty {s : ByteArray} (h : s.size = 0) : hostB s = false := by
  rw [hostB_list]
  have : s.data.toList = [] := List.eq_nil_of_length_eq_zero (by rw [size_list]; exact h)
  rw [this]; rfl
theorem extract_list (s : ByteArray) (a b : Nat) : (s.extract a b).data.toList = (s.data.toList.take b).drop a := by
  rw [ByteArray.data_extract, Array.toList_extract, List.extract_eq_take_drop, List.drop_take]

theorem pattern_tail {s : ByteArray} (h : tailB s = true) (h2 : 2 < s.size) : patternB s = hostB (s.extract 2 s.size) := by
  rw [patternB, trimB, h, cond_true]
  have : (s.toList == [42]) = false := by
    rw [beq_eq_false_iff_ne]
    intro e
    rw [toList_data] at e
    have := size_list s
    rw [e] at this
    simp at this; omega
  rw [this, Bool.false_or]
theorem pattern_plain {s : ByteArray} (h : tailB s = false ∨ s.size ≤ 2) : patternB s = ((s.toList == [42]) || hostB s) := by
  rcases hc : tailB s with _ | _
  · rw [patternB, trimB, hc, cond_false]
  · have h2 := tail_size hc
    have h3 : s.size = 2 := by
      rcases h with h | h
      · rw [hc] at h; cases h
      · omega
    have he : (s.extract 2 s.size).size = 0 := by simp; omega
    rw [patternB, trimB, hc, cond_true, hostB_empty he]
    have hs : s.data.toList = [42, 46] := by
      unfold tailB at hc
      rw [Bool.and_eq_true, beq_iff_eq, toList_data, extract_list] at hc
      have := hc.2
      rwa [List.drop_zero, List.take_of_length_le (by rw [size_list]; omega)] at this
    have hh : hostB s = false := by rw [hostB_list, hs]; rfl
    rw [hh]

theorem rpattern_is (s : ByteArray) (w : World) (h : s.size ≤ 2000) : Calls Try.prog 56 #[.string s] w (Says w (patternB s)) := by
  by_cases h2 : 2 < s.size
  · have h1 : decide ((2 : Int) < (s.size : Int)) = true := by simp; omega
    have h3 : (s.extract 2 s.size).size ≤ 2000 := by simp; omega
    obtain ⟨c, hc⟩ : ∃ c, ((s.extract 0 2).toList == [42, 46]) = c := ⟨_, rfl⟩
    have ht : tailB s = c := by rw [tailB, hc, decide_eq_true (by omega), Bool.true_and]
    cases c with
    | true =>
      rw [pattern_tail ht h2]
      clear ht
      obtain ⟨t, het⟩ : ∃ t, s.extract 2 s.size = t := ⟨_, rfl⟩
      have hh := rhost_is (s.extract 2 s.size) w h3
      rw [het] at hh ⊢
      generalize hostB t = d at hh ⊢
      clear h3
      go_enter Try.func56, Try.ntmps56
      go_wp2_with fail
      refine hh.mono ?_
      rintro e w1 ⟨rfl, hb⟩
      go_wp2_with fail
      go_ret
      exact ⟨rfl, hb⟩
    | false =>
      rw [pattern_plain (.inl ht)]
      clear ht h3
      have hh := rhost_is s w h
      generalize hostB s = d at hh ⊢
      obtain ⟨q, hq⟩ : ∃ q, (s.toList == [42]) = q := ⟨_, rfl⟩
      rw [hq]
      cases q with
      | true =>
        rw [Bool.true_or]
        go_enter Try.func56, Try.ntmps56
        go_wp2_with fail
        go_ret
        exact ⟨rfl, Below.refl _ _⟩
      | false =>
        rw [Bool.false_or]
        go_enter Try.func56, Try.ntmps56
        go_wp2_with fail
        refine hh.mono ?_
        rintro e w1 ⟨rfl, hb⟩
        go_wp2_with fail
        go_ret
        exact ⟨rfl, hb⟩
  · have h1 : decide ((2 : Int) < (s.size : Int)) = false := by simp; omega
    rw [pattern_plain (.inr (by omega))]
    have hh := rhost_is s w h
    generalize hostB s = d at hh ⊢
    obtain ⟨q, hq⟩ : ∃ q, (s.toList == [42]) = q := ⟨_, rfl⟩
    rw [hq]
    cases q with
    | true =>
      rw [Bool.true_or]
      go_enter Try.func56, Try.ntmps56
      go_wp2_with fail
      go_ret
      exact ⟨rfl, Below.refl _ _⟩
    | false =>
      rw [Bool.false_or]
      go_enter Try.func56, Try.ntmps56
      go_wp2_with fail
      refine hh.mono ?_
      rintro e w1 ⟨rfl, hb⟩
      go_wp2_with fail
      go_ret
      exact ⟨rfl, hb⟩
end Go.Proofs.Ytmjdamcbdclgpaa

/- Rows of the call's own, of elements of four cells: what append makes of them. -/
namespace Go.Proofs.Ytmjdamcbdclgpaa
open Go.RowKit
set_option linter.unusedVariables false

/-- The slice v, made from block 'base' on, holds just these elements, of four cells each. -/
def Own4 (E base : Nat) (w : World) (v : Value) (rs : List (List Value)) : Prop := (∀ r ∈ rs, r.length = 4) ∧ w.ownsRow base E 4 v rs.length rs.flatten

theorem len_flat {l : List (List Value)} (h : ∀ r ∈ l, r.length = 4) : l.flatten.length = l.length * 4 := by
  induction l with
  | nil => rfl
  | cons a l ih =>
    rw [List.flatten_cons, List.length_append, ih fun r hr => h r (List.mem_cons_of_mem _ hr), h a (List.mem_cons_self ..), List.length_cons]
    omega

section
variable {P : Program} {w w' : World} {E base : Nat} {v : Value} {rs : List (List Value)}
theorem Own4.slice (h : Own4 E base w v rs) : ∃ A c, v = .slice A rs.length c ∧ rs.length ≤ c ∧ c ≤ maxLen := by
  rcases h.2.2 with ⟨rfl, hn⟩ | ⟨g, cap, cur, rfl, _, _, h1, h2, _⟩
  · exact ⟨none, 0, by rw [hn], by omega, by simp [maxLen]⟩
  · exact ⟨_, _, rfl, h1, h2⟩
theorem Own4.rows {A : Option Addr} {n c : Nat} (h : Own4 E base w (.slice A n c) rs) : Rows4 w w.heap.size A rs := fun hn => by
  rcases h.2.2 with ⟨hv, h0⟩ | ⟨g, cap, cur, hv, _, hh, h1, h2, h3, h4⟩
  · omega
  · injection hv with hA
    subst hA
    refine ⟨_, rfl, block_lt hh, fun i r hr j u hu => ?_⟩
    rw [Addr.add_lit, Nat.zero_add, block_cell hh]
    have hj : j < 4 := by
      rw [← h.1 r (List.mem_of_getElem? hr)]
      exact (List.getElem?_eq_some_iff.1 hu).1
    have hf := (flat4 h.1 hr hj).trans hu
    rw [← h4] at hf
    have hlt : i * 4 + j < rs.length * 4 := by
      have := (List.getElem?_eq_some_iff.1 hr).1
      omega
    rw [List.getElem?_take_of_lt hlt] at hf
    simpa using hf
theorem Own4.lt (h : Own4 E base w v rs) : ∀ k, v.ownBlock = some k → base ≤ k ∧ k < w.heap.size := World.ownsRow.lt h.2
theorem Own4.kept {row : Option Nat} (h : Own4 E base w v rs) (g : w.grownBy w' row) (hne : v.ownBlock = none ∨ v.ownBlock ≠ row) : Own4 E base w' v rs := ⟨h.1, World.ownsRow.kept h.2 g hne⟩
theorem Own4.kept0 (h : Own4 E base w v rs) (g : w.grownBy w' none) : Own4 E base w' v rs := h.kept g (by cases v.ownBlock <;> simp)
theorem Own4.alloc (h : Own4 E base w v rs) (o : Obj) : Own4 E base (w.alloc o) v rs := h.kept0 (World.grownBy_alloc _ _ _)
theorem Own4.empty (hb : base ≤ w.heap.size) : Own4 E base (w.alloc (.cells #[] E)) (.slice (some ⟨w.heap.size, 0, none⟩) 0 0) [] :=
  ⟨by simp, World.ownsRow_made w #[] 0 hb (by simp [maxLen]) (by simp)⟩
theorem Own4.nil : Own4 E base w (.slice none 0 0) [] := ⟨by simp, World.ownsRow_nil _ _ _ _⟩
theorem Own4.apart {g T : Nat} {cs : Array Value} (h : Own4 E base w v rs) (hg : w.heap[g]? = some (.cells cs T (0, 0))) (hT : E ≠ T) : v.ownBlock ≠ some g := by
  rcases h.2.2 with ⟨rfl, _⟩ | ⟨g', cap, cur, rfl, _, hh, _⟩
  · simp [Value.ownBlock]
  · intro he
    have e : g' = g := by simpa [Value.ownBlock] using he
    subst e
    have := hh.symm.trans hg
    simp at this
    exact hT this.2

/-- An element more: what was made in a new block of its own is appended. -/
theorem wpList_append_one4 {ops : Array Oper} {rest : List Oper} {o : Oper} {a : Act} {Q : Exit → Act → World → Prop} (hgd : o.guard = none) (s x : Operand) (t : TypeId)
    (ho : o.op = .call { callee := .builtin .append, args := #[s, x], argTypes := #[t, t] })
    (i : TypeInfo) (z : Value) (bytes : Nat) (ht : P.underlying t = some (.slice E)) (hi : P.info? E = some i) (hz : i.zero = some z)
    (hsize : i.size = 4) (hby : i.bytes = bytes) (hzs : z.cells.size = 4) (hs : a.eval s = v) (w : World) (u0 u1 u2 u3 : Value) (h1 : ∀ u ∈ [u0, u1, u2, u3], u.oneCell' = true) (hown : Own4 E base w v rs)
    (hx : a.eval x = .slice (some ⟨w.heap.size, 0, none⟩) 1 1)
    (h63 : rs.length + 1 ≤ maxLen) (hbytes : (rs.length + 1) * bytes ≤ 140737488355328) (hbase : base ≤ w.heap.size)
    (h : ∀ v' w', Own4 E base w' v' (rs ++ [[u0, u1, u2, u3]]) → w.grownBy w' v.ownBlock → (v'.ownBlock = v.ownBlock ∨ ∃ k, v'.ownBlock = some k ∧ w.heap.size ≤ k) → wpList P ops Q rest (a.put o.dst v') w') :
    wpList P ops Q (o :: rest) a (w.alloc (.cells #[u0, u1, u2, u3] E)) := by
  refine wpList_plain hgd fun _ hK => ?_
  obtain ⟨v', w', hrun, h2, h3, _, h5⟩ := run_append_own_at (P := P) (w.alloc (.cells #[u0, u1, u2, u3] E)) base t o.type E i z 4 bytes ht hi hz hsize hby hzs (by omega) v rs.length rs.flatten (hown.2.kept (World.grownBy_alloc _ _ none) (by cases v.ownBlock <;> simp)) ⟨w.heap.size, 0, none⟩ 1 1 [u0, u1, u2, u3] rfl
    (fun j y hy => by
      rw [Addr.add_lit, World.cell?_alloc_new w #[u0, u1, u2, u3] E (0 + j), Nat.zero_add]
      simpa using hy) h1 h63 hbytes (by rw [World.size_alloc]; omega)
  unfold Oper.wp execOp
  simp only [ho, resolve, invoke, builtin, Sem.run_bind, Sem.run_pure, Result.andThen_ok, List.map_toArray, List.map_cons, List.map_nil, hs, hx, hrun]
  refine hK _ _ (h v' w' ⟨fun r hr => ?_, by simpa using h2⟩ (grownBy_trans (World.grownBy_alloc _ _ _) h3) ?_)
  · rcases List.mem_append.1 hr with hr | hr
    · exact hown.1 r hr
    · simp at hr; subst hr; rfl
  · rcases h5 with h5 | h5
    · exact .inl h5
    · exact .inr ⟨_, h5, by simp⟩

/-- A slice that was there is appended whole. -/
theorem wpList_append_all4 {ops : Array Oper} {rest : List Oper} {o : Oper} {a : Act} {Q : Exit → Act → World → Prop} (hgd : o.guard = none) (s x : Operand) (t : TypeId)
    (ho : o.op = .call { callee := .builtin .append, args := #[s, x], argTypes := #[t, t] })
    (i : TypeInfo) (z : Value) (bytes : Nat) (ht : P.underlying t = some (.slice E)) (hi : P.info? E = some i) (hz : i.zero = some z)
    (hsize : i.size = 4) (hby : i.bytes = bytes) (hzs : z.cells.size = 4) (hs : a.eval s = v) (w : World) (hown : Own4 E base w v rs)
    {B : Nat} {A : Option Addr} {c : Nat} {ys : List (List Value)} (hy4 : ∀ r ∈ ys, r.length = 4) (h0 : 0 < ys.length) (hx : a.eval x = .slice A ys.length c) (hr : Rows4 w B A ys) (h1 : ∀ r ∈ ys, ∀ u ∈ r, u.oneCell' = true)
    (h63 : rs.length + ys.length ≤ maxLen) (hbytes : (rs.length + ys.length) * bytes ≤ 140737488355328) (hbase : base ≤ w.heap.size)
    (h : ∀ v' w', Own4 E base w' v' (rs ++ ys) → w.grownBy w' v.ownBlock → (v'.ownBlock = v.ownBlock ∨ ∃ k, v'.ownBlock = some k ∧ w.heap.size ≤ k) → wpList P ops Q rest (a.put o.dst v') w') :
    wpList P ops Q (o :: rest) a w := by
  refine wpList_plain hgd fun _ hK => ?_
  obtain ⟨ad, rfl, _, hc⟩ := hr h0
  obtain ⟨v', w', hrun, h2, h3, _, h5⟩ := run_append_own_at (P := P) w base t o.type E i z 4 bytes ht hi hz hsize hby hzs (by omega) v rs.length rs.flatten hown.2 ad ys.length c ys.flatten (len_flat hy4)
    (fun j u hu => by
      have hj : j < ys.length * 4 := by rw [← len_flat hy4]; exact (List.getElem?_eq_some_iff.1 hu).1
      have hi : j / 4 < ys.length := by omega
      have e := flat4 (i := j / 4) hy4 (List.getElem?_eq_getElem hi) (j := j % 4) (by omega)
      have ej : j / 4 * 4 + j % 4 = j := by omega
      rw [ej] at e
      have := hc (j / 4) _ (List.getElem?_eq_getElem hi) (j % 4) u (by rw [← e]; exact hu)
      rwa [ej] at this)
    (fun u hu => by
      obtain ⟨r, hr, hur⟩ := List.mem_flatten.1 hu
      exact h1 r hr u hur) h63 hbytes hbase
  unfold Oper.wp execOp
  simp only [ho, resolve, invoke, builtin, Sem.run_bind, Sem.run_pure, Result.andThen_ok, List.map_toArray, List.map_cons, List.map_nil, hs, hx, hrun]
  refine hK _ _ (h v' w' ⟨fun r hr => ?_, by rw [List.length_append, List.flatten_append]; exact h2⟩ h3 ?_)
  · rcases List.mem_append.1 hr with hr | hr
    · exact hown.1 r hr
    · exact hy4 r hr
  · rcases h5 with h5 | h5
    · exact .inl h5
    · exact .inr ⟨_, h5, Nat.le_refl _⟩
end
end Go.Proofs.Ytmjdamcbdclgpaa

/- Configurations, as plain data, and what may be said of them: no word of the program. -/
namespace Go.Proofs.Ytmjdamcbdclgpaa
open Go.RowKit
set_option linter.unusedVariables false
set_option linter.unusedSimpArgs false

structure Rt where
  listen : ByteArray
  host : ByteArray
  path : ByteArray
  cluster : ByteArray
structure Cl where
  name : ByteArray
  policy : Int
  slots : Int
  ha : Option Addr
  hn : Nat
  hc : Nat

def Rt.none : Rt := ⟨⟨#[]⟩, ⟨#[]⟩, ⟨#[]⟩, ⟨#[]⟩⟩
def Cl.none : Cl := ⟨⟨#[]⟩, 0, 0, Option.none, 0, 0⟩
def Rt.cells (r : Rt) : List Value := [.string r.listen, .string r.host, .string r.path, .string r.cluster]
def Cl.cells (c : Cl) : List Value := [.string c.name, .int .i64 c.policy, .int .i64 c.slots, .slice c.ha c.hn c.hc]

/-- Two texts are one. -/
def eqB (a b : ByteArray) : Bool := a.toList == b.toList

/-! What is asked of a part. -/
def unlessI (b : Bool) (e : Int) : Int := bif b then 0 else e
def withinB (n m : Int) : Bool := decide (1 ≤ n) && decide (n ≤ m)
def lAt (ls : List ByteArray) (i : Nat) : ByteArray := ls.getD i ⟨#[]⟩
def cAt (cs : List Cl) (i : Nat) : Cl := cs.getD i Cl.none
def rAt (rs : List Rt) (i : Nat) : Rt := rs.getD i Rt.none
def hasL (ls : List ByteArray) (s : ByteArray) : Bool := ls.any fun x => eqB s x
def hasC (cs : List Cl) (s : ByteArray) : Bool := cs.any fun x => eqB x.name s
def alikeB (o r : Rt) : Bool := (eqB o.listen r.listen && eqB o.host r.host) && eqB o.path r.path
def hasR (rs : List Rt) (r : Rt) : Bool := rs.any fun o => alikeB o r

def lName (ls : List ByteArray) (i : Nat) : Int := unlessI (nameB (lAt ls i)) 3
def lOnce (ls : List ByteArray) (i : Nat) : Int := unlessI (!hasL (ls.take i) (lAt ls i)) 4
def cName (cs : List Cl) (i : Nat) : Int := unlessI (nameB (cAt cs i).name) 3
def cOnce (cs : List Cl) (i : Nat) : Int := unlessI (!hasC (cs.take i) (cAt cs i).name) 4
def cPolicy (cs : List Cl) (i : Nat) : Int := unlessI ((cAt cs i).policy == 1 || (cAt cs i).policy == 2) 9
def cSlots (cs : List Cl) (i : Nat) : Int := unlessI (withinB (cAt cs i).slots 4) 10
def cHealth (cs : List Cl) (i : Nat) : Int := unlessI (withinB (cAt cs i).hn 4) 6
def rListen (ls : List ByteArray) (rs : List Rt) (i : Nat) : Int := unlessI (hasL ls (rAt rs i).listen) 5
def rHost (rs : List Rt) (i : Nat) : Int := unlessI (patternB (rAt rs i).host) 7
def rPath (rs : List Rt) (i : Nat) : Int := unlessI (pathB (rAt rs i).path) 8
def rCluster (cs : List Cl) (rs : List Rt) (i : Nat) : Int := unlessI (hasC cs (rAt rs i).cluster) 5
def rOnce (rs : List Rt) (i : Nat) : Int := unlessI (!hasR (rs.take i) (rAt rs i)) 4

/-! The first error of one part, and of all. -/
def pickI : List Int → Int
  | [] => 0
  | e :: l => bif e == 0 then pickI l else e
def firstI (E : Nat → Int) : Nat → Nat → Int × Int
  | _, 0 => (0, 0)
  | i, k + 1 => bif E i == 0 then firstI E (i + 1) k else (E i, (i : Int))
def asksL (ls : List ByteArray) : List (Nat → Int) := [lName ls, lOnce ls]
def asksC (cs : List Cl) : List (Nat → Int) := [cName cs, cOnce cs, cPolicy cs, cSlots cs, cHealth cs]
def asksR (ls : List ByteArray) (rs : List Rt) (cs : List Cl) : List (Nat → Int) := [rListen ls rs, rHost rs, rPath rs, rCluster cs rs, rOnce rs]
def errI (asks : List (Nat → Int)) (i : Nat) : Int := pickI (asks.map (· i))
def kindI3 (asks : List (Nat → Int)) (n : Nat) : Int × Int := firstI (errI asks) 0 n
def thenI (a b : Int × Int) : Int × Int := bif a.1 == 0 then b else a
def fitsB (ls : List ByteArray) (rs : List Rt) (cs : List Cl) : Bool := (withinB ls.length 4 && withinB rs.length 8) && withinB cs.length 4
def checkI (ls : List ByteArray) (rs : List Rt) (cs : List Cl) : Int × Int :=
  bif fitsB ls rs cs then thenI (kindI3 (asksL ls) ls.length) (thenI (kindI3 (asksC cs) cs.length) (kindI3 (asksR ls rs cs) rs.length)) else (6, 0)

theorem unlessI_zero {b : Bool} {e : Int} (h : e ≠ 0) : unlessI b e = 0 ↔ b = true := by cases b <;> simp [unlessI, h]

theorem pickI_zero (l : List Int) : pickI l = 0 ↔ ∀ x ∈ l, x = 0 := by
  induction l with
  | nil => simp [pickI]
  | cons e l ih =>
    by_cases h : e = 0
    · subst h; simp [pickI, ih]
    · have : (e == 0) = false := by simpa using h
      simp [pickI, this, h]
theorem pickI_at {l : List Int} {q : Nat} (hq : q < l.length) (h0 : ∀ t (ht : t < l.length), t < q → l[t] = 0) (h : l[q] ≠ 0) : pickI l = l[q] := by
  induction l generalizing q with
  | nil => simp at hq
  | cons e l ih =>
    cases q with
    | zero =>
      have : (e == 0) = false := by simpa using h
      simp [pickI, this]
    | succ q =>
      have e0 : e = 0 := h0 0 (by simp) (by omega)
      subst e0
      simp only [pickI, beq_self_eq_true, cond_true, List.getElem_cons_succ]
      exact ih (by simpa using hq) (fun t ht htq => h0 (t + 1) (by simpa using ht) (by omega)) (by simpa using h)

theorem firstI_none {E : Nat → Int} (i k : Nat) (h : ∀ j, i ≤ j → j < i + k → E j = 0) : firstI E i k = (0, 0) := by
  induction k generalizing i with
  | zero => rfl
  | succ k ih =>
    have := h i (Nat.le_refl _) (by omega)
    simp only [firstI, this, beq_self_eq_true, cond_true]
    exact ih (i + 1) fun j h1 h2 => h j (by omega) (by omega)
theorem firstI_hit {E : Nat → Int} (i k q : Nat) (hq : i ≤ q) (hk : q < i + k) (h : ∀ j, i ≤ j → j < q → E j = 0) (hE : E q ≠ 0) : firstI E i k = (E q, (q : Int)) := by
  induction k generalizing i with
  | zero => omega
  | succ k ih =>
    by_cases e : i = q
    · subst e
      have : (E i == 0) = false := by simpa using hE
      simp [firstI, this]
    · have := h i (Nat.le_refl _) (by omega)
      simp only [firstI, this, beq_self_eq_true, cond_true]
      exact ih (i + 1) (by omega) (by omega) fun j h1 h2 => h j (by omega) h2
theorem firstI_ok {E : Nat → Int} (i k : Nat) : (firstI E i k).1 = 0 ↔ ∀ j, i ≤ j → j < i + k → E j = 0 := by
  induction k generalizing i with
  | zero => exact ⟨fun _ j h1 h2 => by omega, fun _ => rfl⟩
  | succ k ih =>
    by_cases h : E i = 0
    · simp only [firstI, h, beq_self_eq_true, cond_true, ih (i + 1)]
      constructor
      · intro hj j h1 h2
        by_cases e : j = i
        · subst e; exact h
        · exact hj j (by omega) (by omega)
      · exact fun hj j h1 h2 => hj j (by omega) (by omega)
    · have hb : (E i == 0) = false := by simpa using h
      simp only [firstI, hb, cond_false]
      exact ⟨fun h' => absurd h' h, fun h' => h' i (Nat.le_refl _) (by omega)⟩
theorem firstI_zero {E : Nat → Int} (i k : Nat) (h : (firstI E i k).1 = 0) : firstI E i k = (0, 0) := firstI_none i k ((firstI_ok i k).1 h)

theorem kind_none {asks : List (Nat → Int)} {n : Nat} (h : ∀ j, j < n → errI asks j = 0) : kindI3 asks n = (0, 0) := firstI_none 0 n fun j _ hj => h j (by omega)
theorem kind_hit {asks : List (Nat → Int)} {n q : Nat} (hq : q < n) (h : ∀ j, j < q → errI asks j = 0) (hE : errI asks q ≠ 0) : kindI3 asks n = (errI asks q, (q : Int)) :=
  firstI_hit 0 n q (Nat.zero_le _) (by omega) (fun j _ hj => h j hj) hE
theorem kind_ok {asks : List (Nat → Int)} {n : Nat} : (kindI3 asks n).1 = 0 ↔ ∀ j, j < n → errI asks j = 0 :=
  (firstI_ok 0 n).trans ⟨fun h j hj => h j (Nat.zero_le _) (by omega), fun h j _ hj => h j (by omega)⟩
theorem kind_zero {asks : List (Nat → Int)} {n : Nat} (h : (kindI3 asks n).1 = 0) : kindI3 asks n = (0, 0) := firstI_zero 0 n h
theorem errI_zero {asks : List (Nat → Int)} {j : Nat} : errI asks j = 0 ↔ ∀ a ∈ asks, a j = 0 := by
  unfold errI
  rw [pickI_zero]
  simp
theorem thenI_ok {a b : Int × Int} : (thenI a b).1 = 0 ↔ a.1 = 0 ∧ b.1 = 0 := by
  unfold thenI
  by_cases h : a.1 = 0
  · simp [h]
  · have hb : (a.1 == 0) = false := by simpa using h
    rw [hb]
    simp [h]

section
variable {α : Type} {p : α → Bool} {xs : List α} {k : Nat}
end
theorem lAt_get {ls : List ByteArray} {i : Nat} (h : i < ls.length) : lAt ls i = ls[i] := by rw [lAt, List.getD, List.getElem?_eq_getElem h]; rfl
theorem cAt_get {ls : List Cl} {i : Nat} (h : i < ls.length) : cAt ls i = ls[i] := by rw [cAt, List.getD, List.getElem?_eq_getElem h]; rfl
theorem rAt_get {ls : List Rt} {i : Nat} (h : i < ls.length) : rAt ls i = ls[i] := by rw [rAt, List.getD, List.getElem?_eq_getElem h]; rfl

/-! Too much to be looked at. -/
def bigC (x : Cl) : Bool := decide (50 < (x.hn : Int)) || decide (100 < (x.name.size : Int))
def bigR (r : Rt) : Bool := decide (100 < (r.host.size : Int)) || decide (100 < (r.path.size : Int))
def big3 (ls : List ByteArray) (rs : List Rt) (cs : List Cl) : Bool := (decide (50 < (ls.length : Int)) || decide (50 < (rs.length : Int))) || decide (50 < (cs.length : Int))
def bigB (ls : List ByteArray) (rs : List Rt) (cs : List Cl) : Bool := (big3 ls rs cs || cs.any bigC) || rs.any bigR
theorem big_host {ls : List ByteArray} {rs : List Rt} {cs : List Cl} (h : bigB ls rs cs = false) {r : Rt} (hr : r ∈ rs) : r.host.size ≤ 100 := by
  unfold bigB at h
  simp only [Bool.or_eq_false_iff] at h
  have := List.any_eq_false.1 h.2 r hr
  simp only [bigR, Bool.or_eq_true, decide_eq_true_eq, not_or] at this
  omega
end Go.Proofs.Ytmjdamcbdclgpaa

/- A configuration in memory. -/
namespace Go.Proofs.Ytmjdamcbdclgpaa
open Go.RowKit Go.ChangeShapes Go.WideShapes
set_option linter.unusedVariables false


section
variable {w w' : World} {B B' : Nat} {A : Option Addr} {rs : List (List Value)}
end

/-- A configuration's three lists, and where they lie. -/
structure Cfg where
  la : Option Addr
  lc : Nat
  ls : List ByteArray
  ra : Option Addr
  rc : Nat
  rs : List Rt
  ca : Option Addr
  cc : Nat
  cs : List Cl
def Cfg.val (c : Cfg) : Value := .agg #[.slice c.la c.ls.length c.lc, .slice c.ra c.rs.length c.rc, .slice c.ca c.cs.length c.cc]
def Cl.wf (c : Cl) : Prop := (Lit.int .i64 c.policy).wf = true ∧ (Lit.int .i64 c.slots).wf = true ∧ c.hn ≤ maxLen
/-- It lies below block B. -/
structure CfgIn (w : World) (B : Nat) (c : Cfg) : Prop where
  pl : Reads w B c.la (c.ls.map Value.string)
  pr : Rows4 w B c.ra (c.rs.map Rt.cells)
  pc : Rows4 w B c.ca (c.cs.map Cl.cells)
  ll : c.ls.length ≤ c.lc
  rl : c.rs.length ≤ c.rc
  cl : c.cs.length ≤ c.cc
  lm : c.lc ≤ maxLen
  rm : c.rc ≤ maxLen
  cm : c.cc ≤ maxLen
  wf : ∀ x ∈ c.cs, x.wf

section
variable {w w' : World} {B B' : Nat} {c : Cfg}
theorem CfgIn.keep (h : CfgIn w B c) (hk : ∀ p : Addr, p.block < B → w'.cell? p = w.cell? p) : CfgIn w' B c :=
  ⟨h.pl.keep hk, h.pr.keep hk, h.pc.keep hk, h.ll, h.rl, h.cl, h.lm, h.rm, h.cm, h.wf⟩
theorem CfgIn.more (h : CfgIn w B c) (hB : B ≤ B') : CfgIn w B' c := ⟨h.pl.more hB, h.pr.more hB, h.pc.more hB, h.ll, h.rl, h.cl, h.lm, h.rm, h.cm, h.wf⟩
theorem CfgIn.below (h : CfgIn w B c) (hb : Below B w w') : CfgIn w' B c := h.keep fun _ hp => hb.cell hp
theorem CfgIn.listen {k : Nat} (h : CfgIn w B c) (hk : k < c.ls.length) : ∃ ad, c.la = some ad ∧ ad.block < B ∧ w.cell? (ad.add k) = some (.string (lAt c.ls k)) := by
  obtain ⟨ad, e, hb, hc⟩ := h.pl.str hk
  refine ⟨ad, e, hb, ?_⟩
  rw [hc, lAt, List.getD, List.getElem?_eq_getElem hk]
  rfl
theorem CfgIn.cluster {k : Nat} (h : CfgIn w B c) (hk : k < c.cs.length) : ∃ ad, c.ca = some ad ∧ ad.block < B ∧ ∀ j v, (cAt c.cs k).cells[j]? = some v → w.cell? (ad.add (k * 4 + j)) = some v := by
  obtain ⟨ad, e, hb, hc⟩ := h.pc (by rw [List.length_map]; omega)
  refine ⟨ad, e, hb, hc k _ ?_⟩
  rw [List.getElem?_map, cAt, List.getD, List.getElem?_eq_getElem hk]
  rfl
theorem CfgIn.route {k : Nat} (h : CfgIn w B c) (hk : k < c.rs.length) : ∃ ad, c.ra = some ad ∧ ad.block < B ∧ ∀ j v, (rAt c.rs k).cells[j]? = some v → w.cell? (ad.add (k * 4 + j)) = some v := by
  obtain ⟨ad, e, hb, hc⟩ := h.pr (by rw [List.length_map]; omega)
  refine ⟨ad, e, hb, hc k _ ?_⟩
  rw [List.getElem?_map, rAt, List.getD, List.getElem?_eq_getElem hk]
  rfl
end



section
variable {w W : World} {B k : Nat} {c : Cfg}
theorem CfgIn.listenAt (h : CfgIn w B c) (hk : k < c.ls.length) (hb : Below B w W) : ∃ ad, c.la = some ad ∧ W.cell? (ad.add k) = some (.string (lAt c.ls k)) := by
  obtain ⟨ad, e, _, hc⟩ := (h.below hb).listen hk
  exact ⟨ad, e, hc⟩
theorem CfgIn.clusterAt (h : CfgIn w B c) (hk : k < c.cs.length) (hb : Below B w W) :
    ∃ ad, c.ca = some ad ∧ Four W (ad.add (k * 4)) (.string (cAt c.cs k).name) (.int .i64 (cAt c.cs k).policy) (.int .i64 (cAt c.cs k).slots) (.slice (cAt c.cs k).ha (cAt c.cs k).hn (cAt c.cs k).hc) := by
  obtain ⟨ad, e, _, hc⟩ := (h.below hb).cluster hk
  exact ⟨ad, e, four_of hc rfl⟩
theorem CfgIn.routeAt (h : CfgIn w B c) (hk : k < c.rs.length) (hb : Below B w W) :
    ∃ ad, c.ra = some ad ∧ Four W (ad.add (k * 4)) (.string (rAt c.rs k).listen) (.string (rAt c.rs k).host) (.string (rAt c.rs k).path) (.string (rAt c.rs k).cluster) := by
  obtain ⟨ad, e, _, hc⟩ := (h.below hb).route hk
  exact ⟨ad, e, four_of hc rfl⟩
end

/-- The call answers n, and nothing that was there has turned. -/
def TellsI (w : World) (n : Int) (e : Ending) (w' : World) : Prop := e = .returned (.int .i64 n) ∧ Below w.heap.size w w'
theorem TellsI.of {w w' : World} {b c : Int} {e : Ending} (h : TellsI w b e w') (hc : b = c) : TellsI w c e w' := hc ▸ h
end Go.Proofs.Ytmjdamcbdclgpaa
