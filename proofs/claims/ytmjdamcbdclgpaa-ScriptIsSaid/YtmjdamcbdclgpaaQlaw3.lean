/- The walk of ScriptIs, over what the program's four calls say. -/
import Derived.Test.YtmjdamcbdclgpaaQlaw1
import Derived.Deep.RegionHeld3
namespace Go.Proofs.Ytmjdamcbdclgpaa
open Go.RowKit
set_option linter.unusedVariables false
set_option linter.unusedSimpArgs false
set_option maxRecDepth 100000

def Five (b : Nat) (s : Scr) (W : World) : Prop :=
  W.cell? ⟨b, 0, none⟩ = some (.slice s.first.la s.first.ls.length s.first.lc) ∧ W.cell? ⟨b, 1, none⟩ = some (.slice s.first.ra s.first.rs.length s.first.rc) ∧ W.cell? ⟨b, 2, none⟩ = some (.slice s.first.ca s.first.cs.length s.first.cc) ∧ W.cell? ⟨b, 3, none⟩ = some (.slice s.ta s.ts.length s.tc) ∧ W.cell? ⟨b, 4, none⟩ = some (.slice s.pa s.ps.length s.pc)
theorem few_host {s : Scr} (h : FewQ s) : ∀ r ∈ s.first.rs, r.host.size ≤ 2000 := (big_lists h.f).2.2.2.1
theorem few_names {s : Scr} (h : FewQ s) : (scrNames s).length ≤ 40050 := by
  have h1 := scrNames_len (ts := s.ts) (out := addL [] s.first.ls) h.o
  have h2 := addL_len [] s.first.ls
  have h3 := (big_lists h.f).1
  have h4 := h.t
  unfold scrNames
  simp at h2
  omega

set_option maxHeartbeats 8000000 in
theorem scriptIs_walk (K : Words8) (s : Scr) (w : World) (h : ScrIn w w.heap.size s) :
    Calls Try.prog 3 #[s.val] w fun e w' => e = .returned (.bool true) ∧ Below w.heap.size w w' := by
  have HK := Lib.hid K
  clear K
  obtain ⟨w0, hw0⟩ : ∃ w0, w.alloc (.cells #[.slice s.first.la s.first.ls.length s.first.lc, .slice s.first.ra s.first.rs.length s.first.rc, .slice s.first.ca s.first.cs.length s.first.cc, .slice s.ta s.ts.length s.tc, .slice s.pa s.ps.length s.pc] 30) = w0 := ⟨_, rfl⟩
  have B0 : Below w.heap.size w w0 := by rw [← hw0]; exact boxed _ _
  have hbx := scr_box w (.slice s.first.la s.first.ls.length s.first.lc) (.slice s.first.ra s.first.rs.length s.first.rc) (.slice s.first.ca s.first.cs.length s.first.cc) (.slice s.ta s.ts.length s.tc) (.slice s.pa s.ps.length s.pc) 30
  rw [hw0] at hbx
  have hk := rbig8_is s w0 (h.next B0)
  obtain ⟨b, hb⟩ : ∃ b, bigQ s = b := ⟨_, rfl⟩
  rw [hb] at hk
  obtain ⟨f0, f1, f2, f3, f4⟩ := hbx w0 (Below.refl _ _)
  have HI := Lib.hid (h.next B0)
  have HBX := Lib.hid hbx
  have BB := Lib.hid B0
  have HBQ := Lib.hid hb
  clear h B0 hbx hb
  unfold Scr.val at hk ⊢
  go_enter Try.func3, Try.ntmps3
  go_wp2_with fail
  refine hk.mono ?_
  rintro e W1 ⟨rfl, k1⟩
  clear f0 f1 f2 f3 f4 hk hw0
  cases b with
  | true =>
    go_wp2_with fail
    go_ret
    exact ⟨rfl, below_next BB.out k1⟩
  | false =>
  have FEW := Lib.hid (bigQ_no HBQ.out)
  have kB := k1
  have SIX := HBX
  have HIs := Lib.hid fun W' (hW : Below w0.heap.size w0 W') => HK.out.is s W' (HI.out.next hW) FEW.out
  have HRs := Lib.hid fun W' (hW : Below w0.heap.size w0 W') => ris_is s W' (HI.out.next hW) (few_host FEW.out)
  have HNa := Lib.hid fun W' (hW : Below w0.heap.size w0 W') => HK.out.names s W' (HI.out.next hW) FEW.out
  have HRn := Lib.hid fun W' (hW : Below w0.heap.size w0 W') => rnames_is s W' (HI.out.next hW) FEW.out
  have HLN := Lib.hid (few_names FEW.out)
  obtain ⟨r, hr⟩ : ∃ r, scrOk s = r := ⟨_, rfl⟩
  rw [hr] at HIs HRs
  obtain ⟨ns, hns⟩ : ∃ ns, scrNames s = ns := ⟨_, rfl⟩
  rw [hns] at HNa HRn HLN
  have rr : (r == r) = true := by cases r <;> rfl
  unfold Scr.val at HIs HRs HNa HRn
  clear hr hns k1
  go_wp2_with fail
  replace kB := below_drew kB
  have cK := SIX.out _ kB
  go_region_held3 (fun wk => wk.cell? ⟨w.heap.size, 0, none⟩ = some (.slice s.first.la s.first.ls.length s.first.lc) ∧ wk.cell? ⟨w.heap.size, 1, none⟩ = some (.slice s.first.ra s.first.rs.length s.first.rc) ∧ wk.cell? ⟨w.heap.size, 2, none⟩ = some (.slice s.first.ca s.first.cs.length s.first.cc) ∧ wk.cell? ⟨w.heap.size, 3, none⟩ = some (.slice s.ta s.ts.length s.tc) ∧ wk.cell? ⟨w.heap.size, 4, none⟩ = some (.slice s.pa s.ps.length s.pc)) (exact cK)
    (first
      | (go_at_call 9; ((with_reducible refine (written_is HK.out _).mono ?_); rintro e wx ⟨rfl, kk⟩; replace kB := kB.trans (kk.mono kB.size); clear kk; replace cK := SIX.out _ kB))
      | (go_at_call 10; ((with_reducible refine (HIs.out _ kB).mono ?_); rintro e wx ⟨rfl, kk⟩; replace kB := kB.trans (kk.mono kB.size); clear kk; replace cK := SIX.out _ kB))
      | (go_at_call 11; ((with_reducible refine (HRs.out _ kB).mono ?_); rintro e wx ⟨rfl, kk⟩; replace kB := kB.trans (kk.mono kB.size); clear kk; replace cK := SIX.out _ kB))
      | (go_at_call 13; ((with_reducible refine (HNa.out _ kB).mono ?_); rintro e wx ⟨A1, c1, rfl, s1, _, _, kk⟩; replace kB := kB.trans (kk.mono kB.size); clear kk; replace cK := SIX.out _ kB))
      | (go_at_call 14; ((with_reducible refine (HRn.out _ kB).mono ?_); rintro e wx ⟨A2, c2, rfl, s2, _, _, kk⟩; have hS := same_yes A1 A2 c1 c2 ns _ (by have := HLN.out; simp [maxLen]; omega) (Lib.hid ((s1.below kk).more kk.size)) (Lib.hid s2); replace kB := kB.trans (kk.mono kB.size); clear kk s1 s2; replace cK := SIX.out _ kB))
      | (go_at_call 12; ((with_reducible refine hS.mono ?_); rintro e wx ⟨rfl, kk⟩; replace kB := kB.trans (kk.mono kB.size); clear kk; replace cK := SIX.out _ kB)))
  clear cK
  have B9 := below_next BB.out kB
  go_wp2_with fail
  go_ret
  exact ⟨rfl, B9⟩
end Go.Proofs.Ytmjdamcbdclgpaa
