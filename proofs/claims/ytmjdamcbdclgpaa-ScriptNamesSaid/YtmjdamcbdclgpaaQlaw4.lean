/- The walk of ScriptNames, over what the program's four calls say. -/
import Derived.Test.YtmjdamcbdclgpaaQuniq
import Derived.Test.YtmjdamcbdclgpaaCmain2
import Derived.Deep.RegionWith
namespace Go.Proofs.Ytmjdamcbdclgpaa
open Go.RowKit
set_option linter.unusedVariables false
set_option linter.unusedSimpArgs false
set_option maxRecDepth 100000

set_option maxHeartbeats 8000000 in
theorem scriptNames_walk (K : Words8) (s : Scr) (w : World) (h : ScrIn w w.heap.size s) :
    Calls Try.prog 6 #[s.val] w fun e w' => e = .returned (.bool true) ∧ Below w.heap.size w w' := by
  have HK := Lib.hid K
  clear K
  obtain ⟨w0, hw0⟩ : ∃ w0, w.alloc (.cells #[.slice s.first.la s.first.ls.length s.first.lc, .slice s.first.ra s.first.rs.length s.first.rc, .slice s.first.ca s.first.cs.length s.first.cc, .slice s.ta s.ts.length s.tc, .slice s.pa s.ps.length s.pc] 30) = w0 := ⟨_, rfl⟩
  have B0 : Below w.heap.size w w0 := by rw [← hw0]; exact boxed _ _
  have hbx := scr_box w (.slice s.first.la s.first.ls.length s.first.lc) (.slice s.first.ra s.first.rs.length s.first.rc) (.slice s.first.ca s.first.cs.length s.first.cc) (.slice s.ta s.ts.length s.tc) (.slice s.pa s.ps.length s.pc) 30
  rw [hw0] at hbx
  have hk := rbig8_is s w0 (h.next B0)
  obtain ⟨b, hb⟩ : ∃ b, bigQ s = b := ⟨_, rfl⟩
  rw [hb] at hk
  obtain ⟨f0, f1, f2, f3, f4⟩ := hbx w0 (Below.refl _ _)
  have HI := Lib.hid (h.next B0)
  have HBX := Lib.hid hbx
  have BB := Lib.hid B0
  have HBQ := Lib.hid hb
  clear h B0 hbx hb
  unfold Scr.val at hk ⊢
  go_enter Try.func6, Try.ntmps6
  go_wp2_with fail
  refine hk.mono ?_
  rintro e W1 ⟨rfl, k1⟩
  clear f0 f1 f2 f3 f4 hk hw0
  cases b with
  | true =>
    go_wp2_with fail
    go_ret
    exact ⟨rfl, below_next BB.out k1⟩
  | false =>
  have FEW := Lib.hid (bigQ_no HBQ.out)
  obtain ⟨f0, f1, f2, f3, f4⟩ := HBX.out W1 k1
  have hn := HK.out.names s W1 (HI.out.next k1) FEW.out
  have hfr := @names_front s
  have hokf := @ok_first s
  have HLN := Lib.hid (few_names FEW.out)
  have K1 := Lib.hid k1
  obtain ⟨r, hr⟩ : ∃ r, scrOk s = r := ⟨_, rfl⟩
  rw [hr] at hokf
  obtain ⟨ns, hns, hap⟩ : ∃ ns, scrNames s = ns ∧ ∀ i k (hk : k < i) (hi : i < ns.length), eqB ns[k] ns[i] = false := ⟨_, rfl, fun i k hk hi => by rw [eqB_comm]; exact names_apart hk hi⟩
  obtain ⟨p, hp⟩ : ∃ p, checkI s.first.ls s.first.rs s.first.cs = p := ⟨_, rfl⟩
  rw [hns] at hn HLN hfr
  rw [hp] at hfr hokf
  have HAP := Lib.hid hap
  have HFR := Lib.hid hfr
  have HOKF := Lib.hid hokf
  have HP := Lib.hid hp
  clear hns hap hfr hokf hp k1
  unfold Scr.val at hn
  go_wp2_with fail
  refine hn.mono ?_
  rintro e W2 ⟨A1, c1, rfl, s1, l1, l2, k2⟩
  have K2 := Lib.hid (K1.out.trans (k2.mono K1.out.size))
  have S1 := Lib.hid s1
  have m1 := Nat.le_trans l1 l2
  unfold maxLen at m1
  clear hn k2 s1 f0 f1 f2 f3 f4
  go_wp2_with fail
  go_loopg [4] ns.length (fun g i wr => ∃ k : Nat, k ≤ ns.length ∧ g = ns.length - k ∧ i = .int .i64 k ∧ ∃ n, wr = W2.drewN n)
  case atStart => exact ⟨0, Nat.zero_le _, rfl, rfl, 0, rfl⟩
  case round =>
    obtain ⟨i, hi, rfl, rfl, n, rfl⟩ := hrel
    by_cases hlt : i < ns.length
    · go_wp2_with fail
      go_loopg [5] i (fun g j wi => ∃ k : Nat, k ≤ i ∧ g = i - k ∧ j = .int .i64 k ∧ ∃ n, wi = W2.drewN n)
      case atStart => exact ⟨0, Nat.zero_le _, rfl, rfl, _, rfl⟩
      case round =>
        obtain ⟨k, hk, rfl, rfl, n', rfl⟩ := hrel
        by_cases hkl : k < i
        · obtain ⟨ad, e, _, x0⟩ := S1.out.str (show k < ns.length by omega)
          obtain ⟨ad', e', _, x1⟩ := S1.out.str hlt
          rw [e] at e'
          cases e'
          have hne := HAP.out i k hkl hlt
          unfold eqB at hne
          have hne' : ¬ ns[k].toList = ns[i].toList := by simpa using hne
          generalize ns[k] = a at x0 hne hne'
          generalize ns[i] = b at x1 hne hne'
          have HE := Lib.hid e
          rw [e]
          clear e
          go_wp2_with fail
          go_quiet (fail)
          go_wp2_with fail
          rw [← HE.out]
          go_roundg (i - (k + 1))
          case measure => omega
          case rel => exact ⟨k + 1, by omega, rfl, by go_num, _, rfl⟩
        · go_wp2_with fail
          go_roundg (ns.length - (i + 1))
          case measure => omega
          case rel => exact ⟨i + 1, by omega, rfl, by go_num, _, rfl⟩
    · have kD : Below w0.heap.size w0 (W2.drewN n) := below_drewN K2.out _
      obtain ⟨f0, f1, f2, f3, f4⟩ := HBX.out _ kD
      have hc := check_is s.first (W2.drewN n) (HI.out.next kD).fi
      rw [HP.out] at hc
      have HKD := Lib.hid kD
      have SD := Lib.hid (S1.out.below (below_drewN (Below.refl W2.heap.size W2) n))
      unfold Cfg.val at hc
      clear kD
      go_wp2_with fail
      refine hc.mono ?_
      rintro e W3 ⟨rfl, k3⟩
      have kB := Lib.hid (below_drew (HKD.out.trans (k3.mono HKD.out.size)))
      have cK := HBX.out _ kB.out
      have S3 := Lib.hid ((SD.out.below (k3.mono (by show W2.heap.size ≤ (W2.drewN n).heap.size; exact Nat.le_refl _))))
      have HSZ : Hid (W2.heap.size ≤ W3.heap.size) := Lib.hid k3.size
      clear hc f0 f1 f2 f3 f4 k3
      by_cases hp0 : p.1 = 0
      · have t1 : (p.1 == 0) = true := by rw [hp0]; rfl
        obtain ⟨hle, htk⟩ := HFR.out hp0
        have t2 : decide ((ns.length : Int) < (s.first.ls.length : Int)) = false := by rw [decide_eq_false_iff_not]; omega
        have hle2 : s.first.ls.length ≤ c1 := by omega
        have hS := same_yes A1 s.first.la c1 s.first.lc s.first.ls W3.drew (by have := HLN.out; simp [maxLen]; omega) (Lib.hid (by
          have := (S3.out.take s.first.ls.length).more (show W2.heap.size ≤ W3.drew.heap.size from HSZ.out)
          rw [← List.map_take, htk] at this
          exact fun hn => this hn)) (Lib.hid ((HI.out.next kB.out).fi.pl))
        go_wp2_with fail
        refine wp_region_held_drew (S := (fun wk => wk.cell? ⟨w.heap.size, 0, none⟩ = some (.slice s.first.la s.first.ls.length s.first.lc) ∧ wk.cell? ⟨w.heap.size, 1, none⟩ = some (.slice s.first.ra s.first.rs.length s.first.rc) ∧ wk.cell? ⟨w.heap.size, 2, none⟩ = some (.slice s.first.ca s.first.cs.length s.first.cc) ∧ wk.cell? ⟨w.heap.size, 3, none⟩ = some (.slice s.ta s.ts.length s.tc) ∧ wk.cell? ⟨w.heap.size, 4, none⟩ = some (.slice s.pa s.ps.length s.pc))) (by kernel_rfl) cK (fun _ => ?_)
        refine wpAnyH_take (i := 0) (oi := { dst := some 38, op := _, type := _, pos := _, after := _, guard := _ }) (v := .int .i64 p.1) rfl (by kernel_rfl) (by kernel_rfl) (by kernel_rfl) (fun _ _ _ h => h) (Or.inl ⟨by rfl, fun wk hk => by obtain ⟨q1, q2, q3, q4, q5⟩ := hk; go_simp⟩) cK ?_
        simp only [Act.put, List.setIfInBounds_toArray, List.set_cons_zero, List.set_cons_succ]
        refine wpAnyH_take (i := 1) (oi := { dst := some 39, op := _, type := _, pos := _, after := _, guard := _ }) (v := .bool true) rfl (by kernel_rfl) (by kernel_rfl) (by kernel_rfl) (fun _ _ _ h => h) (Or.inl ⟨by rfl, fun wk hk => by obtain ⟨q1, q2, q3, q4, q5⟩ := hk; go_simp⟩) cK ?_
        simp only [Act.put, List.setIfInBounds_toArray, List.set_cons_zero, List.set_cons_succ]
        refine wpAnyH_take (i := 2) (oi := { dst := some 40, op := _, type := _, pos := _, after := _, guard := _ }) (v := .bool true) rfl (by kernel_rfl) (by kernel_rfl) (by kernel_rfl) (fun _ _ _ h => h) (Or.inl ⟨by rfl, fun wk hk => by obtain ⟨q1, q2, q3, q4, q5⟩ := hk; go_simp⟩) cK ?_
        simp only [Act.put, List.setIfInBounds_toArray, List.set_cons_zero, List.set_cons_succ]
        refine wpAnyH_take (i := 3) (oi := { dst := some 41, op := _, type := _, pos := _, after := _, guard := _ }) (v := .slice A1 ns.length c1) rfl (by kernel_rfl) (by kernel_rfl) (by kernel_rfl) (fun _ _ _ h => h) (Or.inl ⟨by rfl, fun wk hk => by obtain ⟨q1, q2, q3, q4, q5⟩ := hk; go_simp⟩) cK ?_
        simp only [Act.put, List.setIfInBounds_toArray, List.set_cons_zero, List.set_cons_succ]
        refine wpAnyH_take (i := 4) (oi := { dst := some 42, op := _, type := _, pos := _, after := _, guard := _ }) (v := .int .i64 ns.length) rfl (by kernel_rfl) (by kernel_rfl) (by kernel_rfl) (fun _ _ _ h => h) (Or.inl ⟨by rfl, fun wk hk => by obtain ⟨q1, q2, q3, q4, q5⟩ := hk; go_simp⟩) cK ?_
        simp only [Act.put, List.setIfInBounds_toArray, List.set_cons_zero, List.set_cons_succ]
        refine wpAnyH_take (i := 5) (oi := { dst := some 43, op := _, type := _, pos := _, after := _, guard := _ }) (v := .pointer (some ⟨w.heap.size, 0, none⟩)) rfl (by kernel_rfl) (by kernel_rfl) (by kernel_rfl) (fun _ _ _ h => h) (Or.inl ⟨by rfl, fun wk hk => by obtain ⟨q1, q2, q3, q4, q5⟩ := hk; go_simp⟩) cK ?_
        simp only [Act.put, List.setIfInBounds_toArray, List.set_cons_zero, List.set_cons_succ]
        refine wpAnyH_take (i := 6) (oi := { dst := some 44, op := _, type := _, pos := _, after := _, guard := _ }) (v := .pointer (some ⟨w.heap.size, 0, none⟩)) rfl (by kernel_rfl) (by kernel_rfl) (by kernel_rfl) (fun _ _ _ h => h) (Or.inl ⟨by rfl, fun wk hk => by obtain ⟨q1, q2, q3, q4, q5⟩ := hk; go_simp⟩) cK ?_
        simp only [Act.put, List.setIfInBounds_toArray, List.set_cons_zero, List.set_cons_succ]
        refine wpAnyH_take (i := 7) (oi := { dst := some 45, op := _, type := _, pos := _, after := _, guard := _ }) (v := .slice s.first.la s.first.ls.length s.first.lc) rfl (by kernel_rfl) (by kernel_rfl) (by kernel_rfl) (fun _ _ _ h => h) (Or.inl ⟨by rfl, fun wk hk => by obtain ⟨q1, q2, q3, q4, q5⟩ := hk; go_simp⟩) cK ?_
        simp only [Act.put, List.setIfInBounds_toArray, List.set_cons_zero, List.set_cons_succ]
        refine wpAnyH_take (i := 8) (oi := { dst := some 46, op := _, type := _, pos := _, after := _, guard := _ }) (v := .int .i64 s.first.ls.length) rfl (by kernel_rfl) (by kernel_rfl) (by kernel_rfl) (fun _ _ _ h => h) (Or.inl ⟨by rfl, fun wk hk => by obtain ⟨q1, q2, q3, q4, q5⟩ := hk; go_simp⟩) cK ?_
        simp only [Act.put, List.setIfInBounds_toArray, List.set_cons_zero, List.set_cons_succ]
        refine wpAnyH_take (i := 9) (oi := { dst := some 47, op := _, type := _, pos := _, after := _, guard := _ }) (v := .bool false) rfl (by kernel_rfl) (by kernel_rfl) (by kernel_rfl) (fun _ _ _ h => h) (Or.inl ⟨by rfl, fun wk hk => by obtain ⟨q1, q2, q3, q4, q5⟩ := hk; go_simp⟩) cK ?_
        simp only [Act.put, List.setIfInBounds_toArray, List.set_cons_zero, List.set_cons_succ]
        refine wpAnyH_take (i := 10) (oi := { dst := some 48, op := _, type := _, pos := _, after := _, guard := _ }) (v := .bool false) rfl (by kernel_rfl) (by kernel_rfl) (by kernel_rfl) (fun _ _ _ h => h) (Or.inl ⟨by rfl, fun wk hk => by obtain ⟨q1, q2, q3, q4, q5⟩ := hk; go_simp⟩) cK ?_
        simp only [Act.put, List.setIfInBounds_toArray, List.set_cons_zero, List.set_cons_succ]
        refine wpAnyH_take (i := 11) (oi := { dst := some 49, op := _, type := _, pos := _, after := _, guard := _ }) (v := .slice A1 ns.length c1) rfl (by kernel_rfl) (by kernel_rfl) (by kernel_rfl) (fun _ _ _ h => h) (Or.inl ⟨by rfl, fun wk hk => by obtain ⟨q1, q2, q3, q4, q5⟩ := hk; go_simp⟩) cK ?_
        simp only [Act.put, List.setIfInBounds_toArray, List.set_cons_zero, List.set_cons_succ]
        refine wpAnyH_take (i := 12) (oi := { dst := some 50, op := _, type := _, pos := _, after := _, guard := _ }) (v := .pointer (some ⟨w.heap.size, 0, none⟩)) rfl (by kernel_rfl) (by kernel_rfl) (by kernel_rfl) (fun _ _ _ h => h) (Or.inl ⟨by rfl, fun wk hk => by obtain ⟨q1, q2, q3, q4, q5⟩ := hk; go_simp⟩) cK ?_
        simp only [Act.put, List.setIfInBounds_toArray, List.set_cons_zero, List.set_cons_succ]
        refine wpAnyH_take (i := 13) (oi := { dst := some 51, op := _, type := _, pos := _, after := _, guard := _ }) (v := .pointer (some ⟨w.heap.size, 0, none⟩)) rfl (by kernel_rfl) (by kernel_rfl) (by kernel_rfl) (fun _ _ _ h => h) (Or.inl ⟨by rfl, fun wk hk => by obtain ⟨q1, q2, q3, q4, q5⟩ := hk; go_simp⟩) cK ?_
        simp only [Act.put, List.setIfInBounds_toArray, List.set_cons_zero, List.set_cons_succ]
        refine wpAnyH_take (i := 14) (oi := { dst := some 52, op := _, type := _, pos := _, after := _, guard := _ }) (v := .slice s.first.la s.first.ls.length s.first.lc) rfl (by kernel_rfl) (by kernel_rfl) (by kernel_rfl) (fun _ _ _ h => h) (Or.inl ⟨by rfl, fun wk hk => by obtain ⟨q1, q2, q3, q4, q5⟩ := hk; go_simp⟩) cK ?_
        simp only [Act.put, List.setIfInBounds_toArray, List.set_cons_zero, List.set_cons_succ]
        refine wpAnyH_take (i := 15) (oi := { dst := some 53, op := _, type := _, pos := _, after := _, guard := _ }) (v := .int .i64 s.first.ls.length) rfl (by kernel_rfl) (by kernel_rfl) (by kernel_rfl) (fun _ _ _ h => h) (Or.inl ⟨by rfl, fun wk hk => by obtain ⟨q1, q2, q3, q4, q5⟩ := hk; go_simp⟩) cK ?_
        simp only [Act.put, List.setIfInBounds_toArray, List.set_cons_zero, List.set_cons_succ]
        refine wpAnyH_take (i := 16) (oi := { dst := some 54, op := _, type := _, pos := _, after := _, guard := _ }) (v := .slice A1 s.first.ls.length c1) rfl (by kernel_rfl) (by kernel_rfl) (by kernel_rfl) (fun _ _ _ h => h) (Or.inl ⟨by rfl, fun wk hk => by obtain ⟨q1, q2, q3, q4, q5⟩ := hk; go_simp⟩) cK ?_
        simp only [Act.put, List.setIfInBounds_toArray, List.set_cons_zero, List.set_cons_succ]
        refine wpAnyH_take (i := 17) (oi := { dst := some 55, op := _, type := _, pos := _, after := _, guard := _ }) (v := .pointer (some ⟨w.heap.size, 0, none⟩)) rfl (by kernel_rfl) (by kernel_rfl) (by kernel_rfl) (fun _ _ _ h => h) (Or.inl ⟨by rfl, fun wk hk => by obtain ⟨q1, q2, q3, q4, q5⟩ := hk; go_simp⟩) cK ?_
        simp only [Act.put, List.setIfInBounds_toArray, List.set_cons_zero, List.set_cons_succ]
        refine wpAnyH_take (i := 18) (oi := { dst := some 56, op := _, type := _, pos := _, after := _, guard := _ }) (v := .pointer (some ⟨w.heap.size, 0, none⟩)) rfl (by kernel_rfl) (by kernel_rfl) (by kernel_rfl) (fun _ _ _ h => h) (Or.inl ⟨by rfl, fun wk hk => by obtain ⟨q1, q2, q3, q4, q5⟩ := hk; go_simp⟩) cK ?_
        simp only [Act.put, List.setIfInBounds_toArray, List.set_cons_zero, List.set_cons_succ]
        refine wpAnyH_take (i := 19) (oi := { dst := some 57, op := _, type := _, pos := _, after := _, guard := _ }) (v := .slice s.first.la s.first.ls.length s.first.lc) rfl (by kernel_rfl) (by kernel_rfl) (by kernel_rfl) (fun _ _ _ h => h) (Or.inl ⟨by rfl, fun wk hk => by obtain ⟨q1, q2, q3, q4, q5⟩ := hk; go_simp⟩) cK ?_
        simp only [Act.put, List.setIfInBounds_toArray, List.set_cons_zero, List.set_cons_succ]
        refine wpAnyH_ready (rs := [20]) (by kernel_rfl) (by simp) ?_
        refine (AllReadyH.cons rfl (fun K hK => ?_) AllReadyH.nil)
        go_simp
        refine hS.mono ?_
        rintro e wx ⟨rfl, kk⟩
        replace kB := Lib.hid (kB.out.trans (kk.mono kB.out.size))
        have cK2 := HBX.out _ kB.out
        refine hK.out _ _ cK2 (fun _ => ?_)
        clear hK K kk
        try simp only [Act.put, List.setIfInBounds_toArray, List.set_cons_zero, List.set_cons_succ]
        refine wpAnyH_take (i := 21) (oi := { dst := some 59, op := _, type := _, pos := _, after := _, guard := _ }) (v := .bool false) rfl (by kernel_rfl) (by kernel_rfl) (by kernel_rfl) (fun _ _ _ h => h) (Or.inl ⟨by rfl, fun wk hk => by obtain ⟨q1, q2, q3, q4, q5⟩ := hk; go_simp⟩) cK2 ?_
        simp only [Act.put, List.setIfInBounds_toArray, List.set_cons_zero, List.set_cons_succ]
        refine wpAnyH_take (i := 22) (oi := { dst := some 60, op := _, type := _, pos := _, after := _, guard := _ }) (v := .bool false) rfl (by kernel_rfl) (by kernel_rfl) (by kernel_rfl) (fun _ _ _ h => h) (Or.inl ⟨by rfl, fun wk hk => by obtain ⟨q1, q2, q3, q4, q5⟩ := hk; go_simp⟩) cK2 ?_
        simp only [Act.put, List.setIfInBounds_toArray, List.set_cons_zero, List.set_cons_succ]
        refine wpAnyH_take (i := 23) (oi := { dst := some 61, op := _, type := _, pos := _, after := _, guard := _ }) (v := .bool false) rfl (by kernel_rfl) (by kernel_rfl) (by kernel_rfl) (fun _ _ _ h => h) (Or.inl ⟨by rfl, fun wk hk => by obtain ⟨q1, q2, q3, q4, q5⟩ := hk; go_simp⟩) cK2 ?_
        simp only [Act.put, List.setIfInBounds_toArray, List.set_cons_zero, List.set_cons_succ]
        refine wpAnyH_done (by kernel_rfl) ?_ _
        go_wp2_with fail
        refine (written_is HK.out _).mono ?_
        rintro e W5 ⟨rfl, k5⟩
        have k6 := kB.out.trans (k5.mono kB.out.size)
        obtain ⟨f0, f1, f2, f3, f4⟩ := HBX.out W5 k6
        have hIs := HK.out.is s W5 (HI.out.next k6) FEW.out
        rw [hr] at hIs
        unfold Scr.val at hIs
        clear k5 cK cK2
        go_wp2_with fail
        refine hIs.mono ?_
        rintro e W6 ⟨rfl, k7⟩
        have B9 := below_next BB.out (k6.trans (k7.mono k6.size))
        clear hIs k7 f0 f1 f2 f3 f4
        cases r with
        | true =>
          go_wp2_with fail
          go_ret
          exact ⟨rfl, B9⟩
        | false =>
          go_wp2_with fail
          go_ret
          exact ⟨rfl, B9⟩
      · have t1 : (p.1 == 0) = false := by simpa using hp0
        have NOR : Hid (r = false) := Lib.hid (by
          cases r with
          | false => rfl
          | true => exact absurd (HOKF.out rfl) hp0)
        go_wp2_with fail
        refine wp_region_held_drew (S := (fun wk => wk.cell? ⟨w.heap.size, 0, none⟩ = some (.slice s.first.la s.first.ls.length s.first.lc) ∧ wk.cell? ⟨w.heap.size, 1, none⟩ = some (.slice s.first.ra s.first.rs.length s.first.rc) ∧ wk.cell? ⟨w.heap.size, 2, none⟩ = some (.slice s.first.ca s.first.cs.length s.first.cc) ∧ wk.cell? ⟨w.heap.size, 3, none⟩ = some (.slice s.ta s.ts.length s.tc) ∧ wk.cell? ⟨w.heap.size, 4, none⟩ = some (.slice s.pa s.ps.length s.pc))) (by kernel_rfl) cK (fun _ => ?_)
        refine wpAnyH_take (i := 0) (oi := { dst := some 38, op := _, type := _, pos := _, after := _, guard := _ }) (v := .int .i64 p.1) rfl (by kernel_rfl) (by kernel_rfl) (by kernel_rfl) (fun _ _ _ h => h) (Or.inl ⟨by rfl, fun wk hk => by obtain ⟨q1, q2, q3, q4, q5⟩ := hk; go_simp⟩) cK ?_
        simp only [Act.put, List.setIfInBounds_toArray, List.set_cons_zero, List.set_cons_succ]
        refine wpAnyH_take (i := 1) (oi := { dst := some 39, op := _, type := _, pos := _, after := _, guard := _ }) (v := .bool false) rfl (by kernel_rfl) (by kernel_rfl) (by kernel_rfl) (fun _ _ _ h => h) (Or.inl ⟨by rfl, fun wk hk => by obtain ⟨q1, q2, q3, q4, q5⟩ := hk; go_simp⟩) cK ?_
        simp only [Act.put, List.setIfInBounds_toArray, List.set_cons_zero, List.set_cons_succ]
        refine wpAnyH_take (i := 2) (oi := { dst := some 40, op := _, type := _, pos := _, after := _, guard := _ }) (v := .bool false) rfl (by kernel_rfl) (by kernel_rfl) (by kernel_rfl) (fun _ _ _ h => h) (Or.inl ⟨by rfl, fun wk hk => by obtain ⟨q1, q2, q3, q4, q5⟩ := hk; go_simp⟩) cK ?_
        simp only [Act.put, List.setIfInBounds_toArray, List.set_cons_zero, List.set_cons_succ]
        refine wpAnyH_take (i := 3) (oi := { dst := some 41, op := _, type := _, pos := _, after := _, guard := _ }) (v := undef) rfl (by kernel_rfl) (by kernel_rfl) (by kernel_rfl) (fun _ _ _ h => h) (Or.inr ⟨by rfl, rfl⟩) cK ?_
        simp only [Act.put, List.setIfInBounds_toArray, List.set_cons_zero, List.set_cons_succ]
        refine wpAnyH_take (i := 4) (oi := { dst := some 42, op := _, type := _, pos := _, after := _, guard := _ }) (v := undef) rfl (by kernel_rfl) (by kernel_rfl) (by kernel_rfl) (fun _ _ _ h => h) (Or.inr ⟨by rfl, rfl⟩) cK ?_
        simp only [Act.put, List.setIfInBounds_toArray, List.set_cons_zero, List.set_cons_succ]
        refine wpAnyH_take (i := 5) (oi := { dst := some 43, op := _, type := _, pos := _, after := _, guard := _ }) (v := undef) rfl (by kernel_rfl) (by kernel_rfl) (by kernel_rfl) (fun _ _ _ h => h) (Or.inr ⟨by rfl, rfl⟩) cK ?_
        simp only [Act.put, List.setIfInBounds_toArray, List.set_cons_zero, List.set_cons_succ]
        refine wpAnyH_take (i := 6) (oi := { dst := some 44, op := _, type := _, pos := _, after := _, guard := _ }) (v := undef) rfl (by kernel_rfl) (by kernel_rfl) (by kernel_rfl) (fun _ _ _ h => h) (Or.inr ⟨by rfl, rfl⟩) cK ?_
        simp only [Act.put, List.setIfInBounds_toArray, List.set_cons_zero, List.set_cons_succ]
        refine wpAnyH_take (i := 7) (oi := { dst := some 45, op := _, type := _, pos := _, after := _, guard := _ }) (v := undef) rfl (by kernel_rfl) (by kernel_rfl) (by kernel_rfl) (fun _ _ _ h => h) (Or.inr ⟨by rfl, rfl⟩) cK ?_
        simp only [Act.put, List.setIfInBounds_toArray, List.set_cons_zero, List.set_cons_succ]
        refine wpAnyH_take (i := 8) (oi := { dst := some 46, op := _, type := _, pos := _, after := _, guard := _ }) (v := undef) rfl (by kernel_rfl) (by kernel_rfl) (by kernel_rfl) (fun _ _ _ h => h) (Or.inr ⟨by rfl, rfl⟩) cK ?_
        simp only [Act.put, List.setIfInBounds_toArray, List.set_cons_zero, List.set_cons_succ]
        refine wpAnyH_take (i := 9) (oi := { dst := some 47, op := _, type := _, pos := _, after := _, guard := _ }) (v := undef) rfl (by kernel_rfl) (by kernel_rfl) (by kernel_rfl) (fun _ _ _ h => h) (Or.inr ⟨by rfl, rfl⟩) cK ?_
        simp only [Act.put, List.setIfInBounds_toArray, List.set_cons_zero, List.set_cons_succ]
        refine wpAnyH_take (i := 10) (oi := { dst := some 48, op := _, type := _, pos := _, after := _, guard := _ }) (v := undef) rfl (by kernel_rfl) (by kernel_rfl) (by kernel_rfl) (fun _ _ _ h => h) (Or.inr ⟨by rfl, rfl⟩) cK ?_
        simp only [Act.put, List.setIfInBounds_toArray, List.set_cons_zero, List.set_cons_succ]
        refine wpAnyH_take (i := 11) (oi := { dst := some 49, op := _, type := _, pos := _, after := _, guard := _ }) (v := undef) rfl (by kernel_rfl) (by kernel_rfl) (by kernel_rfl) (fun _ _ _ h => h) (Or.inr ⟨by rfl, rfl⟩) cK ?_
        simp only [Act.put, List.setIfInBounds_toArray, List.set_cons_zero, List.set_cons_succ]
        refine wpAnyH_take (i := 12) (oi := { dst := some 50, op := _, type := _, pos := _, after := _, guard := _ }) (v := undef) rfl (by kernel_rfl) (by kernel_rfl) (by kernel_rfl) (fun _ _ _ h => h) (Or.inr ⟨by rfl, rfl⟩) cK ?_
        simp only [Act.put, List.setIfInBounds_toArray, List.set_cons_zero, List.set_cons_succ]
        refine wpAnyH_take (i := 13) (oi := { dst := some 51, op := _, type := _, pos := _, after := _, guard := _ }) (v := undef) rfl (by kernel_rfl) (by kernel_rfl) (by kernel_rfl) (fun _ _ _ h => h) (Or.inr ⟨by rfl, rfl⟩) cK ?_
        simp only [Act.put, List.setIfInBounds_toArray, List.set_cons_zero, List.set_cons_succ]
        refine wpAnyH_take (i := 14) (oi := { dst := some 52, op := _, type := _, pos := _, after := _, guard := _ }) (v := undef) rfl (by kernel_rfl) (by kernel_rfl) (by kernel_rfl) (fun _ _ _ h => h) (Or.inr ⟨by rfl, rfl⟩) cK ?_
        simp only [Act.put, List.setIfInBounds_toArray, List.set_cons_zero, List.set_cons_succ]
        refine wpAnyH_take (i := 15) (oi := { dst := some 53, op := _, type := _, pos := _, after := _, guard := _ }) (v := undef) rfl (by kernel_rfl) (by kernel_rfl) (by kernel_rfl) (fun _ _ _ h => h) (Or.inr ⟨by rfl, rfl⟩) cK ?_
        simp only [Act.put, List.setIfInBounds_toArray, List.set_cons_zero, List.set_cons_succ]
        refine wpAnyH_take (i := 16) (oi := { dst := some 54, op := _, type := _, pos := _, after := _, guard := _ }) (v := undef) rfl (by kernel_rfl) (by kernel_rfl) (by kernel_rfl) (fun _ _ _ h => h) (Or.inr ⟨by rfl, rfl⟩) cK ?_
        simp only [Act.put, List.setIfInBounds_toArray, List.set_cons_zero, List.set_cons_succ]
        refine wpAnyH_take (i := 17) (oi := { dst := some 55, op := _, type := _, pos := _, after := _, guard := _ }) (v := undef) rfl (by kernel_rfl) (by kernel_rfl) (by kernel_rfl) (fun _ _ _ h => h) (Or.inr ⟨by rfl, rfl⟩) cK ?_
        simp only [Act.put, List.setIfInBounds_toArray, List.set_cons_zero, List.set_cons_succ]
        refine wpAnyH_take (i := 18) (oi := { dst := some 56, op := _, type := _, pos := _, after := _, guard := _ }) (v := undef) rfl (by kernel_rfl) (by kernel_rfl) (by kernel_rfl) (fun _ _ _ h => h) (Or.inr ⟨by rfl, rfl⟩) cK ?_
        simp only [Act.put, List.setIfInBounds_toArray, List.set_cons_zero, List.set_cons_succ]
        refine wpAnyH_take (i := 19) (oi := { dst := some 57, op := _, type := _, pos := _, after := _, guard := _ }) (v := undef) rfl (by kernel_rfl) (by kernel_rfl) (by kernel_rfl) (fun _ _ _ h => h) (Or.inr ⟨by rfl, rfl⟩) cK ?_
        simp only [Act.put, List.setIfInBounds_toArray, List.set_cons_zero, List.set_cons_succ]
        refine wpAnyH_take (i := 20) (oi := { dst := some 58, op := _, type := _, pos := _, after := _, guard := _ }) (v := undef) rfl (by kernel_rfl) (by kernel_rfl) (by kernel_rfl) (fun _ _ _ h => h) (Or.inr ⟨by rfl, rfl⟩) cK ?_
        simp only [Act.put, List.setIfInBounds_toArray, List.set_cons_zero, List.set_cons_succ]
        refine wpAnyH_take (i := 21) (oi := { dst := some 59, op := _, type := _, pos := _, after := _, guard := _ }) (v := undef) rfl (by kernel_rfl) (by kernel_rfl) (by kernel_rfl) (fun _ _ _ h => h) (Or.inr ⟨by rfl, rfl⟩) cK ?_
        simp only [Act.put, List.setIfInBounds_toArray, List.set_cons_zero, List.set_cons_succ]
        refine wpAnyH_take (i := 22) (oi := { dst := some 60, op := _, type := _, pos := _, after := _, guard := _ }) (v := undef) rfl (by kernel_rfl) (by kernel_rfl) (by kernel_rfl) (fun _ _ _ h => h) (Or.inr ⟨by rfl, rfl⟩) cK ?_
        simp only [Act.put, List.setIfInBounds_toArray, List.set_cons_zero, List.set_cons_succ]
        refine wpAnyH_take (i := 23) (oi := { dst := some 61, op := _, type := _, pos := _, after := _, guard := _ }) (v := .bool false) rfl (by kernel_rfl) (by kernel_rfl) (by kernel_rfl) (fun _ _ _ h => h) (Or.inl ⟨by rfl, fun wk hk => by obtain ⟨q1, q2, q3, q4, q5⟩ := hk; go_simp⟩) cK ?_
        simp only [Act.put, List.setIfInBounds_toArray, List.set_cons_zero, List.set_cons_succ]
        refine wpAnyH_done (by kernel_rfl) ?_ _
        go_wp2_with fail
        refine (written_is HK.out _).mono ?_
        rintro e W5 ⟨rfl, k5⟩
        have k6 := kB.out.trans (k5.mono kB.out.size)
        obtain ⟨f0, f1, f2, f3, f4⟩ := HBX.out W5 k6
        have hIs := HK.out.is s W5 (HI.out.next k6) FEW.out
        rw [hr] at hIs
        unfold Scr.val at hIs
        clear k5 cK
        go_wp2_with fail
        refine hIs.mono ?_
        rintro e W6 ⟨rfl, k7⟩
        have B9 := below_next BB.out (k6.trans (k7.mono k6.size))
        clear hIs k7 f0 f1 f2 f3 f4
        obtain rfl : r = false := NOR.out
        go_wp2_with fail
        go_ret
        exact ⟨rfl, B9⟩
end Go.Proofs.Ytmjdamcbdclgpaa
