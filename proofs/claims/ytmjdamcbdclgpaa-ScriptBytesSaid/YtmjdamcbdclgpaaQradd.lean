/- The document's names of a script. -/
import Derived.Test.YtmjdamcbdclgpaaQrbig
import Derived.Test.YtmjdamcbdclgpaaQrbytes
import Derived.Test.YtmjdamcbdclgpaaM1
import Derived.Test.YtmjdamcbdclgpaaM2
namespace Go.Proofs.Ytmjdamcbdclgpaa
open Go.RowKit
set_option linter.unusedVariables false
set_option linter.unusedSimpArgs false
set_option maxRecDepth 100000

theorem addL_next {out l : List ByteArray} {k : Nat} (h : k < l.length) : addL out (l.take (k + 1)) = bif hasL (addL out (l.take k)) l[k] then addL out (l.take k) else addL out (l.take k) ++ [l[k]] := by
  unfold addL
  rw [foldl_take _ _ h]
/-- The call answers a row of its own, that goes on from the one that it was given. -/
def Added (base : Nat) (w : World) (xs : List ByteArray) (e : Ending) (w' : World) : Prop := ∃ v, e = .returned v ∧ Own 9 base w' v (xs.map Value.string) ∧ Below base w w'

set_option maxHeartbeats 4000000 in
theorem radd_is (base : Nat) (v : Value) (xs : List ByteArray) (A : Option Addr) (c : Nat) (ls : List ByteArray) (w : World) (hown : Own 9 base w v (xs.map Value.string)) (hb : base ≤ w.heap.size) (hr : Reads w base A (ls.map Value.string)) (hn : xs.length + ls.length ≤ 100000) :
    Calls Try.prog 29 #[v, .slice A ls.length c] w (Added base w (addL xs ls)) := by
  obtain ⟨ib, hib, hb0, hb1, hb2⟩ := info_parts str_info
  have IB := Lib.hid (⟨hib, hb0, hb1, hb2⟩ : _ ∧ _ ∧ _ ∧ _)
  clear hib hb0 hb1 hb2
  have HR := Lib.hid hr
  clear hr
  go_enter Try.func29, Try.ntmps29
  go_wp2_with fail
  go_loopw [0, 5] (fun out i wr => ∃ k : Nat, k ≤ ls.length ∧ i = .int .i64 k ∧ Own 9 base wr out ((addL xs (ls.take k)).map Value.string) ∧ Below base w wr) (fun _ i _ => ls.length - (intOf i).toNat)
  case atStart => exact ⟨0, Nat.zero_le _, rfl, hown, Below.refl _ _⟩
  case round =>
    clear hown
    obtain ⟨k, hk, rfl, ho, B⟩ := hrel
    by_cases hlt : k < ls.length
    · obtain ⟨ad, rfl, _, f0⟩ := (HR.out.below B).str hlt
      have hnext := addL_next (out := xs) hlt
      have hlen := addL_len xs (ls.take k)
      rw [List.length_take] at hlen
      obtain ⟨x, hx⟩ : ∃ x, ls[k] = x := ⟨_, rfl⟩
      rw [hx] at f0 hnext
      obtain ⟨A4, n4, c4, hv⟩ := own_form ho
      subst hv
      obtain ⟨A5, c5, hv⟩ := Own.slice ho
      rw [List.length_map] at hv
      cases hv
      have hle := own_le ho
      obtain ⟨ys, hys⟩ : ∃ ys, addL xs (ls.take k) = ys := ⟨_, rfl⟩
      rw [hys] at ho hlen hle hnext
      have hq := rListen_is A4 c4 wr.heap.size ys x wr (Own.reads ho) hle.1 hle.2
      have HNX := Lib.hid hnext
      have HO := Lib.hid ho
      have BB := Lib.hid B
      have hsz := B.size
      clear hnext hx ho B hle
      cases hh : hasL ys x with
      | true =>
        rw [hh] at hq
        have HF : Hid (addL xs (ls.take (k + 1)) = ys) := Lib.hid (by rw [HNX.out, hh]; rfl)
        clear hh
        go_wp2_with fail
        refine hq.mono ?_
        rintro e wx ⟨r, rfl, _, hr2, rfl⟩
        have hr3 : decide (r < 0) = false := hr2
        clear hr2 hq
        go_wp2_with fail
        go_roundw
        case rel => exact ⟨k + 1, by omega, by go_num, by rw [HF.out]; exact HO.out, BB.out⟩
        case measure => simp [intOf]; omega
      | false =>
        rw [hh] at hq
        have HF : Hid (addL xs (ls.take (k + 1)) = ys ++ [x]) := Lib.hid (by rw [HNX.out, hh]; rfl)
        clear hh
        go_wp2_with fail
        refine hq.mono ?_
        rintro e wx ⟨r, rfl, _, hr2, rfl⟩
        have hr3 : decide (r < 0) = true := hr2
        clear hr2 hq
        go_wp2_with (at_builtin; refine wpList_append_one rfl (.tmp 19) (.tmp 24) 22 rfl ib (.string ⟨#[]⟩) 16 Try.underlying22 IB.out.1 IB.out.2.1 IB.out.2.2.1 IB.out.2.2.2 rfl rfl _ (.string x) rfl HO.out rfl (by rw [List.length_map]; simp [maxLen]; omega) (by rw [List.length_map]; omega) (by omega) ?_; intro out' w4 ho hg hb4; have HO4 : Hid (Own 9 base w4 out' ((addL xs (ls.take (k + 1))).map Value.string)) := Lib.hid (by rw [HF.out, List.map_append]; exact ho); have B4 := Lib.hid (BB.out.trans (below_grownBy hg (Nat.le_trans hb BB.out.size) fun q hq => (HO.out.lt q hq).1)); clear ho hg hb4)
        go_roundw
        case rel => exact ⟨k + 1, by omega, by go_num, HO4.out, B4.out⟩
        case measure => simp [intOf]; omega
    · obtain rfl : k = ls.length := by omega
      rw [List.take_length] at ho
      go_wp2_with fail
      go_ret
      exact ⟨_, rfl, ho, B⟩

/-- Not too much: what the walks need of a script that is looked at. -/
structure FewQ (s : Scr) : Prop where
  f : bigB s.first.ls s.first.rs s.first.cs = false
  t : s.ts.length ≤ 20
  p : s.ps.length ≤ 5000
  o : ∀ t ∈ s.ts, t.os.length ≤ 40 ∧ ∀ o ∈ t.os, bigO o = false
theorem bigQ_no {s : Scr} (h : bigQ s = false) : FewQ s := by
  unfold bigQ at h
  simp only [Bool.or_eq_false_iff, decide_eq_false_iff_not] at h
  obtain ⟨⟨⟨h1, h2⟩, h3⟩, h4⟩ := h
  refine ⟨h1, by omega, by omega, fun t ht => ?_⟩
  have h5 := List.any_eq_false.1 h4 t ht
  unfold bigT at h5
  simp only [Bool.or_eq_true, decide_eq_true_eq, not_or] at h5
  exact ⟨by omega, fun o ho => by simpa using List.any_eq_false.1 (by simpa using h5.2) o ho⟩
theorem big_lists {ls : List ByteArray} {rs : List Rt} {cs : List Cl} (h : bigB ls rs cs = false) : ls.length ≤ 50 ∧ rs.length ≤ 50 ∧ cs.length ≤ 50 ∧ (∀ r ∈ rs, r.host.size ≤ 2000) ∧ ∀ x ∈ cs, x.hn ≤ 50 := by
  have hh : ∀ r ∈ rs, r.host.size ≤ 100 := fun r hr => big_host h hr
  unfold bigB big3 at h
  simp only [Bool.or_eq_false_iff, decide_eq_false_iff_not] at h
  obtain ⟨⟨⟨⟨h1, h2⟩, h3⟩, h4⟩, _⟩ := h
  refine ⟨by omega, by omega, by omega, fun r hr => by have := hh r hr; omega, fun x hx => ?_⟩
  have := List.any_eq_false.1 h4 x hx
  unfold bigC at this
  simp only [Bool.or_eq_true, decide_eq_true_eq, not_or] at this
  omega
theorem opNames_len {out : List ByteArray} {o : Opn} (h : bigO o = false) : (opNames out o).length ≤ out.length + 50 := by
  unfold bigO at h
  simp only [Bool.or_eq_false_iff] at h
  have := (big_lists h.1.1).1
  have := addL_len out o.cfg.ls
  unfold opNames
  cases ((o.kind == 3) && ((checkI o.cfg.ls o.cfg.rs o.cfg.cs).1 == 0))
  · rw [cond_false]; omega
  · rw [cond_true]; omega
theorem thrNames_len {os : List Opn} {out : List ByteArray} (h : ∀ o ∈ os, bigO o = false) : (os.foldl opNames out).length ≤ out.length + 50 * os.length := by
  induction os generalizing out with
  | nil => simp
  | cons o os ih =>
    have h1 := ih (out := opNames out o) fun x hx => h x (List.mem_cons_of_mem _ hx)
    have h2 := opNames_len (out := out) (h o (List.mem_cons_self ..))
    rw [List.foldl_cons, List.length_cons]
    omega
theorem scrNames_len {ts : List Thr} {out : List ByteArray} (h : ∀ t ∈ ts, t.os.length ≤ 40 ∧ ∀ o ∈ t.os, bigO o = false) : (ts.foldl thrNames out).length ≤ out.length + 2000 * ts.length := by
  induction ts generalizing out with
  | nil => simp
  | cons t ts ih =>
    obtain ⟨h1, h2⟩ := h t (List.mem_cons_self ..)
    have h3 := ih (out := thrNames out t) fun x hx => h x (List.mem_cons_of_mem _ hx)
    have h4 := thrNames_len (out := out) h2
    rw [List.foldl_cons, List.length_cons]
    unfold thrNames at h3 ⊢
    omega
end Go.Proofs.Ytmjdamcbdclgpaa
