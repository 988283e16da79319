/- The walk of ScriptLess, over what the program's four calls say. -/
import Derived.Test.YtmjdamcbdclgpaaQless
import Derived.Deep.RegionHeld3
import Derived.IntWalk
namespace Go.Proofs.Ytmjdamcbdclgpaa
open Go.RowKit
set_option linter.unusedVariables false
set_option linter.unusedSimpArgs false
set_option maxRecDepth 100000

/-- The other box: the first configuration, threads, picks. -/
def Other (s : Scr) (tb : Nat) (T P : Value) (W : World) : Prop := W.heap[tb]? = some (.cells #[.slice s.first.la s.first.ls.length s.first.lc, .slice s.first.ra s.first.rs.length s.first.rc, .slice s.first.ca s.first.cs.length s.first.cc, T, P] 30 (0, 0))
theorem Other.cells {s : Scr} {tb : Nat} {T P : Value} {W : World} (h : Other s tb T P W) : W.cell? ⟨tb, 0, none⟩ = some (.slice s.first.la s.first.ls.length s.first.lc) ∧ W.cell? ⟨tb, 1, none⟩ = some (.slice s.first.ra s.first.rs.length s.first.rc) ∧ W.cell? ⟨tb, 2, none⟩ = some (.slice s.first.ca s.first.cs.length s.first.cc) ∧ W.cell? ⟨tb, 3, none⟩ = some T ∧ W.cell? ⟨tb, 4, none⟩ = some P :=
  ⟨by rw [block_cell h]; rfl, by rw [block_cell h]; rfl, by rw [block_cell h]; rfl, by rw [block_cell h]; rfl, by rw [block_cell h]; rfl⟩
theorem Other.below {s : Scr} {tb : Nat} {T P : Value} {W W' : World} (h : Other s tb T P W) (k : Below W.heap.size W W') : Other s tb T P W' := (k.block _ (block_lt h)).trans h
theorem Other.put3 {s : Scr} {tb : Nat} {T P : Value} {W : World} (h : Other s tb T P W) (u : Value) : Other s tb u P (W.setCell ⟨tb, 3, none⟩ u) := block_setCell h u

theorem all_last {α : Type} {p : α → Prop} {l : List α} {a : α} (h : ∀ x ∈ l, p x) (ha : p a) : ∀ x ∈ l ++ [a], p x := fun x hx => by
  rcases List.mem_append.1 hx with hx | hx
  · exact h x hx
  · rw [List.mem_singleton] at hx
    subst hx
    exact ha
theorem less3 {s : Scr} (h : (checkI s.first.ls s.first.rs s.first.cs).1 = 0 ∧ 1 ≤ s.ts.length ∧ s.ts.length ≤ 8 ∧ s.ps.length ≤ 4000 ∧ (∀ t ∈ s.ts, thrOk t = true) ∧ ∀ x ∈ s.ps, 0 ≤ x) (ta : Option Addr) (tc q : Nat) :
    scrOk (s.with ta tc (s.ts.take (s.ts.length - 1)) (s.ps.take q)) = decide (1 < s.ts.length) := by
  obtain ⟨h1, h2, h3, h4, h5, h6⟩ := h
  rw [Bool.eq_iff_iff, ok_iff, decide_eq_true_eq]
  show (checkI s.first.ls s.first.rs s.first.cs).1 = 0 ∧ 1 ≤ (s.ts.take (s.ts.length - 1)).length ∧ (s.ts.take (s.ts.length - 1)).length ≤ 8 ∧ (s.ps.take q).length ≤ 4000 ∧ (∀ t ∈ s.ts.take (s.ts.length - 1), thrOk t = true) ∧ (∀ x ∈ s.ps.take q, 0 ≤ x) ↔ 1 < s.ts.length
  rw [List.length_take, List.length_take]
  constructor
  · intro h
    have := h.2.1
    omega
  · intro h
    exact ⟨h1, by omega, by omega, by omega, fun t ht => h5 t (List.mem_of_mem_take ht), fun x hx => h6 x (List.mem_of_mem_take hx)⟩
theorem less2 {s : Scr} (h : (checkI s.first.ls s.first.rs s.first.cs).1 = 0 ∧ 1 ≤ s.ts.length ∧ s.ts.length ≤ 8 ∧ s.ps.length ≤ 4000 ∧ (∀ t ∈ s.ts, thrOk t = true) ∧ ∀ x ∈ s.ps, 0 ≤ x) (ta : Option Addr) (tc q : Nat) {t : Thr} (ht : thrOk t = true) :
    scrOk (s.with ta tc (s.ts.take (s.ts.length - 1) ++ [t.less]) (s.ps.take q)) = true := by
  obtain ⟨h1, h2, h3, h4, h5, h6⟩ := h
  rw [ok_iff]
  show (checkI s.first.ls s.first.rs s.first.cs).1 = 0 ∧ 1 ≤ (s.ts.take (s.ts.length - 1) ++ [t.less]).length ∧ (s.ts.take (s.ts.length - 1) ++ [t.less]).length ≤ 8 ∧ (s.ps.take q).length ≤ 4000 ∧ (∀ x ∈ s.ts.take (s.ts.length - 1) ++ [t.less], thrOk x = true) ∧ (∀ x ∈ s.ps.take q, 0 ≤ x)
  rw [List.length_append, List.length_take, List.length_take, List.length_singleton]
  refine ⟨h1, by omega, by omega, by omega, fun x hx => ?_, fun x hx => h6 x (List.mem_of_mem_take hx)⟩
  rcases List.mem_append.1 hx with hx | hx
  · exact h5 x (List.mem_of_mem_take hx)
  · rw [List.mem_singleton] at hx
    subst hx
    exact less_ok ht
theorem less1 {s : Scr} (h : (checkI s.first.ls s.first.rs s.first.cs).1 = 0 ∧ 1 ≤ s.ts.length ∧ s.ts.length ≤ 8 ∧ s.ps.length ≤ 4000 ∧ (∀ t ∈ s.ts, thrOk t = true) ∧ ∀ x ∈ s.ps, 0 ≤ x) (ta : Option Addr) (tc q : Nat) :
    scrOk (s.with ta tc s.ts (s.ps.take q)) = true := by
  obtain ⟨h1, h2, h3, h4, h5, h6⟩ := h
  rw [ok_iff]
  show (checkI s.first.ls s.first.rs s.first.cs).1 = 0 ∧ 1 ≤ s.ts.length ∧ s.ts.length ≤ 8 ∧ (s.ps.take q).length ≤ 4000 ∧ (∀ x ∈ s.ts, thrOk x = true) ∧ (∀ x ∈ s.ps.take q, 0 ≤ x)
  rw [List.length_take]
  exact ⟨h1, by omega, by omega, by omega, h5, fun x hx => h6 x (List.mem_of_mem_take hx)⟩

set_option maxHeartbeats 8000000 in
theorem scriptLess_walk (K : Words8) (s : Scr) (w : World) (h : ScrIn w w.heap.size s) :
    Calls Try.prog 7 #[s.val] w fun e w' => e = .returned (.bool true) ∧ Below w.heap.size w w' := by
  have HK := Lib.hid K
  clear K
  obtain ⟨il, hil, hl0, hl1, hl2⟩ := info_parts thr_info
  have IL := Lib.hid (⟨hil, hl0, hl1, hl2⟩ : _ ∧ _ ∧ _ ∧ _)
  clear hil hl0 hl1 hl2
  obtain ⟨w0, hw0⟩ : ∃ w0, w.alloc (.cells #[.slice s.first.la s.first.ls.length s.first.lc, .slice s.first.ra s.first.rs.length s.first.rc, .slice s.first.ca s.first.cs.length s.first.cc, .slice s.ta s.ts.length s.tc, .slice s.pa s.ps.length s.pc] 30) = w0 := ⟨_, rfl⟩
  have B0 : Below w.heap.size w w0 := by rw [← hw0]; exact boxed _ _
  have hbx := scr_box w (.slice s.first.la s.first.ls.length s.first.lc) (.slice s.first.ra s.first.rs.length s.first.rc) (.slice s.first.ca s.first.cs.length s.first.cc) (.slice s.ta s.ts.length s.tc) (.slice s.pa s.ps.length s.pc) 30
  rw [hw0] at hbx
  have hk := rbig8_is s w0 (h.next B0)
  obtain ⟨b, hb⟩ : ∃ b, bigQ s = b := ⟨_, rfl⟩
  rw [hb] at hk
  obtain ⟨f0, f1, f2, f3, f4⟩ := hbx w0 (Below.refl _ _)
  have ht1 := Nat.le_trans h.tl h.tm
  have ht2 := h.tl
  have hp1 := Nat.le_trans h.pl h.pm
  have hp2 := h.pl
  unfold maxLen at ht1 hp1
  have HI := Lib.hid (h.next B0)
  have HBX := Lib.hid hbx
  have BB := Lib.hid B0
  have HBQ := Lib.hid hb
  clear h B0 hbx hb
  unfold Scr.val at hk ⊢
  go_enter Try.func7, Try.ntmps7
  go_wp2_with fail
  refine hk.mono ?_
  rintro e W1 ⟨rfl, k1⟩
  clear f0 f1 f2 f3 f4 hk hw0
  cases b with
  | true =>
    go_wp2_with fail
    refine (written_is HK.out _).mono ?_
    rintro e W5 ⟨rfl, k5⟩
    have B9 := below_next BB.out (k1.trans (k5.mono k1.size))
    clear k5
    go_wp2_with fail
    go_ret
    exact ⟨rfl, B9⟩
  | false =>
  have FEW := Lib.hid (bigQ_no HBQ.out)
  obtain ⟨f0, f1, f2, f3, f4⟩ := HBX.out W1 k1
  have hIs := HK.out.is s W1 (HI.out.next k1) FEW.out
  obtain ⟨r, hr⟩ : ∃ r, scrOk s = r := ⟨_, rfl⟩
  rw [hr] at hIs
  have HR := Lib.hid hr
  unfold Scr.val at hIs
  clear hr
  go_wp2_with fail
  refine hIs.mono ?_
  rintro e W2 ⟨rfl, k2⟩
  have K2 := Lib.hid (k1.trans (k2.mono k1.size))
  clear k1 k2 hIs f0 f1 f2 f3 f4
  cases r with
  | false =>
    go_wp2_with fail
    refine (written_is HK.out _).mono ?_
    rintro e W5 ⟨rfl, k5⟩
    have B9 := below_next BB.out (K2.out.trans (k5.mono K2.out.size))
    clear k5
    go_wp2_with fail
    go_ret
    exact ⟨rfl, B9⟩
  | true =>
  have OKS := Lib.hid (ok_iff.1 HR.out)
  obtain ⟨f0, f1, f2, f3, f4⟩ := HBX.out W2 K2.out
  have HOT : Hid (∀ P : Value, Other s W2.heap.size (.slice s.ta s.ts.length s.tc) P (W2.alloc (.cells #[.slice s.first.la s.first.ls.length s.first.lc, .slice s.first.ra s.first.rs.length s.first.rc, .slice s.first.ca s.first.cs.length s.first.cc, .slice s.ta s.ts.length s.tc, P] 30))) := Lib.hid fun P => one_alloc _ _
  have HKT : Hid (∀ P : Value, Below w0.heap.size w0 (W2.alloc (.cells #[.slice s.first.la s.first.ls.length s.first.lc, .slice s.first.ra s.first.rs.length s.first.rc, .slice s.first.ca s.first.cs.length s.first.cc, .slice s.ta s.ts.length s.tc, P] 30))) := Lib.hid fun P => below_next K2.out (boxed _ _)
  have f33 := ((boxed W2 (.cells #[.slice s.first.la s.first.ls.length s.first.lc, .slice s.first.ra s.first.rs.length s.first.rc, .slice s.first.ca s.first.cs.length s.first.cc, .slice s.ta s.ts.length s.tc, .slice s.pa s.ps.length s.pc] 30)).cell (p := ⟨w.heap.size, 3, none⟩) (World.block_lt_of_cell? W2 _ f3)).trans f3
  have f34 := ((boxed W2 (.cells #[.slice s.first.la s.first.ls.length s.first.lc, .slice s.first.ra s.first.rs.length s.first.rc, .slice s.first.ca s.first.cs.length s.first.cc, .slice s.ta s.ts.length s.tc, .slice s.pa s.ps.length s.pc] 30)).cell (p := ⟨w.heap.size, 4, none⟩) (World.block_lt_of_cell? W2 _ f4)).trans f4
  have hn1 := OKS.out.2.1
  obtain ⟨ad, hade, _, _⟩ := HI.out.thread (show s.ts.length - 1 < s.ts.length by omega)
  have HT0 := Lib.hid (HI.out.ti _ (List.getElem_mem (show s.ts.length - 1 < s.ts.length by omega)))
  have HTO := Lib.hid (OKS.out.2.2.2.2.1 _ (List.getElem_mem (show s.ts.length - 1 < s.ts.length by omega)))
  have HTF := Lib.hid (FEW.out.o _ (List.getElem_mem (show s.ts.length - 1 < s.ts.length by omega)))
  obtain ⟨t, ht⟩ : ∃ t, s.ts[s.ts.length - 1] = t := ⟨_, rfl⟩
  rw [ht] at HT0 HTO HTF
  have HTT := Lib.hid ht
  have HE := Lib.hid hade
  have hpt := HI.out.pt
  rw [hade] at hpt
  have PT := Lib.hid hpt
  have hol := Nat.le_trans HT0.out.ol HT0.out.om
  unfold maxLen at hol
  clear ht hade hpt
  rw [HE.out] at HOT HKT f3 f33 f34
  by_cases hp : 0 < s.ps.length
  · have t1 : decide ((0 : Int) < (s.ps.length : Int)) = true := by rw [decide_eq_true_eq]; omega
    have c1 : ((s.ps.length : Int) - 1).toNat = s.ps.length - 1 := by omega
    have KP := Lib.hid (HKT.out (.slice s.pa (s.ps.length - 1) s.pc))
    have hq := HK.out.is (s.with (some ad) s.tc s.ts (s.ps.take (s.ps.length - 1))) _ ((HI.out.next KP.out).with ((PT.out.below KP.out).more KP.out.size) ht2 HI.out.tm (HI.out.next KP.out).ti) (FEW.out.with (by have := FEW.out.t; omega) (by rw [List.length_take]; omega) FEW.out.o)
    rw [less1 OKS.out] at hq
    have hv : (s.with (some ad) s.tc s.ts (s.ps.take (s.ps.length - 1))).val = .agg #[.slice s.first.la s.first.ls.length s.first.lc, .slice s.first.ra s.first.rs.length s.first.rc, .slice s.first.ca s.first.cs.length s.first.cc, .slice (some ad) s.ts.length s.tc, .slice s.pa (s.ps.length - 1) s.pc] := by simp [Scr.val, Scr.with, List.length_take]
    rw [hv] at hq
    clear hv
    rw [HE.out]
    go_wp2_with fail
    refine hq.mono ?_
    rintro e V ⟨rfl, k4⟩
    have KV := Lib.hid (KP.out.trans (k4.mono KP.out.size))
    have OT := Lib.hid ((HOT.out (.slice s.pa (s.ps.length - 1) s.pc)).below k4)
    clear hq k4 f0 f1 f2 f3 f4 f34 f33 HOT HKT KP
    have HL3 := Lib.hid (less3 OKS.out (some ad) s.tc (s.ps.length - 1))
    obtain ⟨ad0, e0, _, g0⟩ := (HI.out.below KV.out).thread (show s.ts.length - 1 < s.ts.length by omega)
    rw [HE.out] at e0
    cases e0
    rw [HTT.out] at g0
    have u3 := (HBX.out _ KV.out).2.2.2.1
    rw [HE.out] at u3
    by_cases hm : 0 < t.os.length
    · have t2 : decide (0 < t.os.length) = true := by rw [decide_eq_true_eq]; exact hm
      obtain ⟨ad', he', _, _⟩ := HT0.out.op hm
      rw [he'] at g0
      have OA := OT.out.below (boxed V (.cells #[] 46))
      obtain ⟨y0, y1, y2, y3, y4⟩ := OA.cells
      have z3 := block_free OA 3
      have KA := below_next KV.out (boxed V (.cells #[] 46))
      have hnb : W2.heap.size < V.heap.size := block_lt OT.out
      have hz0 : w0.heap.size ≤ W2.heap.size := K2.out.size
      have OW := (Own.empty (E := 46) (Nat.le_refl V.heap.size)).kept (grownBy_store (V.alloc (.cells #[] 46)) W2.heap.size 3 (.slice (some ⟨V.heap.size, 0, none⟩) 0 0)) (.inr (by simp [Value.ownBlock]; omega))
      have OB := OA.put3 (.slice (some ⟨V.heap.size, 0, none⟩) 0 0)
      have KB := KA.setCell (p := ⟨W2.heap.size, 3, none⟩) hz0 (.slice (some ⟨V.heap.size, 0, none⟩) 0 0)
      have hzB : (((V.alloc (.cells #[] 46))).setCell ⟨W2.heap.size, 3, none⟩ (.slice (some ⟨V.heap.size, 0, none⟩) 0 0)).heap.size = V.heap.size + 1 := by rw [size_setCell]; simp
      clear OA KA
      generalize hVB : (V.alloc (.cells #[] 46)).setCell ⟨W2.heap.size, 3, none⟩ (.slice (some ⟨V.heap.size, 0, none⟩) 0 0) = VB at OW OB KB hzB
      have HOB := Lib.hid OB
      have HKB := Lib.hid KB
      have HOW := Lib.hid OW
      have HZB := Lib.hid hzB
      clear OW OB KB hzB
      go_wp2_with fail
      clear hVB y0 y1 y2 y3 y4 z3 u3 g0
      have uB := (HBX.out _ (below_drew HKB.out)).2.2.2.1
      rw [HE.out] at uB
      have cK := uB
      have v1 : IntKind.i64.wrap ((s.ts.length : Int) - 1) = (s.ts.length : Int) - 1 := IntWalk.i64_in _ (by omega)
      have v2 : ((s.ts.length : Int) - 1).toNat = s.ts.length - 1 := by omega
      have v3 : (0 : Int) ≤ (s.ts.length : Int) - 1 := by omega
      have v4 : ¬ (s.tc : Int) < (s.ts.length : Int) - 1 := by omega
      have v6 : ¬ (s.ts.length : Int) < 1 := by omega
      have v5 : decide ((s.ts.length : Int) - 1 ≤ (s.tc : Int)) = true := by rw [decide_eq_true_eq]; omega
      refine wp_region_held_drew (S := fun wk => wk.cell? ⟨w.heap.size, 3, none⟩ = some (.slice (some ad) s.ts.length s.tc)) (by kernel_rfl) cK (fun _ => ?_)
      refine wpAnyH_take (i := 0) (oi := { dst := some 44, op := _, type := _, pos := _, after := _, guard := _ }) (v := .pointer (some ⟨W2.heap.size, 3, none⟩)) rfl (by kernel_rfl) (by kernel_rfl) (by kernel_rfl) (fun _ _ _ h => h) (Or.inl ⟨by rfl, fun wk hk => by have q1 := hk; go_simp⟩) cK ?_
      simp only [Act.put, List.setIfInBounds_toArray, List.set_cons_zero, List.set_cons_succ]
      refine wpAnyH_take (i := 2) (oi := { dst := some 46, op := _, type := _, pos := _, after := _, guard := _ }) (v := .pointer (some ⟨w.heap.size, 3, none⟩)) rfl (by kernel_rfl) (by kernel_rfl) (by kernel_rfl) (fun _ _ _ h => h) (Or.inl ⟨by rfl, fun wk hk => by have q1 := hk; go_simp⟩) cK ?_
      simp only [Act.put, List.setIfInBounds_toArray, List.set_cons_zero, List.set_cons_succ]
      refine wpAnyH_take (i := 3) (oi := { dst := some 47, op := _, type := _, pos := _, after := _, guard := _ }) (v := .slice (some ad) s.ts.length s.tc) rfl (by kernel_rfl) (by kernel_rfl) (by kernel_rfl) (fun _ _ _ h => h) (Or.inl ⟨by rfl, fun wk hk => by have q1 := hk; go_simp⟩) cK ?_
      simp only [Act.put, List.setIfInBounds_toArray, List.set_cons_zero, List.set_cons_succ]
      refine wpAnyH_take (i := 4) (oi := { dst := some 48, op := _, type := _, pos := _, after := _, guard := _ }) (v := .int .i64 s.ts.length) rfl (by kernel_rfl) (by kernel_rfl) (by kernel_rfl) (fun _ _ _ h => h) (Or.inl ⟨by rfl, fun wk hk => by have q1 := hk; go_simp⟩) cK ?_
      simp only [Act.put, List.setIfInBounds_toArray, List.set_cons_zero, List.set_cons_succ]
      refine wpAnyH_take (i := 5) (oi := { dst := some 49, op := _, type := _, pos := _, after := _, guard := _ }) (v := .int .i64 ((s.ts.length : Int) - 1)) rfl (by kernel_rfl) (by kernel_rfl) (by kernel_rfl) (fun _ _ _ h => h) (Or.inl ⟨by rfl, fun wk hk => by have q1 := hk; go_simp⟩) cK ?_
      simp only [Act.put, List.setIfInBounds_toArray, List.set_cons_zero, List.set_cons_succ]
      refine wpAnyH_take (i := 6) (oi := { dst := some 50, op := _, type := _, pos := _, after := _, guard := _ }) (v := .slice (some ad) (s.ts.length - 1) s.tc) rfl (by kernel_rfl) (by kernel_rfl) (by kernel_rfl) (fun _ _ _ h => h) (Or.inl ⟨by rfl, fun wk hk => by have q1 := hk; go_simp⟩) cK ?_
      simp only [Act.put, List.setIfInBounds_toArray, List.set_cons_zero, List.set_cons_succ]
      refine wpAnyH_ready (rs := [1]) (by kernel_rfl) (by simp) ?_
      refine (AllReadyH.cons rfl (fun K hK => ?_) AllReadyH.nil)
      have x3 : VB.drew.cell? ⟨W2.heap.size, 3, none⟩ = _ := HOB.out.cells.2.2.2.1
      go_simp
      refine hK.out _ _ cK (fun _ => ?_)
      clear hK K
      try simp only [Act.put, List.setIfInBounds_toArray, List.set_cons_zero, List.set_cons_succ]
      refine wpAnyH_ready (rs := [7]) (by kernel_rfl) (by simp) ?_
      refine (AllReadyH.cons rfl (fun K hK => ?_) AllReadyH.nil)
      have hrd : ∀ j u, ((s.ts.take (s.ts.length - 1)).map Thr.cell)[j]? = some u → VB.drew.cell? (ad.add j) = some u := fun j u hu => by
        have hp0 : 0 < ((s.ts.take (s.ts.length - 1)).map Thr.cell).length := Nat.lt_of_le_of_lt (Nat.zero_le _) (List.getElem?_eq_some_iff.1 hu).1
        have hr0 := (PT.out.below (below_drew HKB.out)).take (s.ts.length - 1)
        rw [← List.map_take] at hr0
        obtain ⟨ad2, e2, _, hc2⟩ := hr0 hp0
        cases e2
        exact hc2 j u hu
      have hlen1 : ((s.ts.take (s.ts.length - 1)).map Thr.cell).length = s.ts.length - 1 := by rw [List.length_map, List.length_take]; omega
      refine step_append_all rfl (.tmp 45) (.tmp 50) 27 rfl il (.slice none 0 0) 24 Try.underlying27 IL.out rfl (by simp [Act.eval, Act.put]) VB.drew (xs := []) HOW.out (ad := ad) (c := s.tc) (ys := (s.ts.take (s.ts.length - 1)).map Thr.cell) (by rw [hlen1]; simp [Act.eval, Act.put]) hrd (fun u hu => by obtain ⟨x, _, rfl⟩ := List.mem_map.1 hu; rfl) (by rw [hlen1]; simp [maxLen]; omega) (by rw [hlen1]; simp; have := OKS.out.2.2.1; omega) (by show V.heap.size ≤ VB.heap.size; rw [HZB.out]; omega) ?_
      intro v' w6 ho hg
      obtain ⟨A5, n5, c5, rfl⟩ := own_form ho
      have KC := (below_drew HKB.out).trans (below_grownBy hg (by show w0.heap.size ≤ VB.heap.size; rw [HZB.out]; omega) (fun k hk => by (have hk2 : V.heap.size = k := (by simpa [Act.eval, Act.put, Value.ownBlock] using hk)); omega))
      have OC : Other s W2.heap.size _ _ w6 := (hg.block _ (by show W2.heap.size < VB.heap.size; rw [HZB.out]; omega) (fun e => by (have e2 : W2.heap.size = V.heap.size := (by simpa [Act.eval, Act.put, Value.ownBlock] using e)); omega)).trans HOB.out
      have uC := (HBX.out _ KC).2.2.2.1
      rw [HE.out] at uC
      refine hK.out _ _ uC (fun _ => ?_)
      clear hK K
      try simp only [Act.put, List.setIfInBounds_toArray, List.set_cons_zero, List.set_cons_succ]
      refine wpAnyH_take (i := 8) (oi := { dst := some 52, op := _, type := _, pos := _, after := _, guard := _ }) (v := .pointer (some ⟨W2.heap.size, 3, none⟩)) rfl (by kernel_rfl) (by kernel_rfl) (by kernel_rfl) (fun _ _ _ h => h) (Or.inl ⟨by rfl, fun wk hk => by have q1 := hk; go_simp⟩) uC ?_
      simp only [Act.put, List.setIfInBounds_toArray, List.set_cons_zero, List.set_cons_succ]
      refine wpAnyH_ready (rs := [9]) (by kernel_rfl) (by simp) ?_
      refine (AllReadyH.cons rfl (fun K hK => ?_) AllReadyH.nil)
      obtain ⟨y0, y1, y2, y3, y4⟩ := OC.cells
      have z3 := block_free OC 3
      have KD := Lib.hid (KC.setCell (p := ⟨W2.heap.size, 3, none⟩) hz0 (.slice A5 n5 c5))
      have uD := (HBX.out _ KD.out).2.2.2.1
      rw [HE.out] at uD
      have OD := Lib.hid (OC.put3 (.slice A5 n5 c5))
      have OWD := Lib.hid (Own.kept ho (grownBy_store w6 W2.heap.size 3 (.slice A5 n5 c5)) (.inr (own_apart (P := Try.prog) ho OC (by decide))))
      have HSZ : Hid (V.heap.size ≤ (w6.setCell ⟨W2.heap.size, 3, none⟩ (.slice A5 n5 c5)).heap.size) := Lib.hid (by rw [size_setCell]; have := hg.size; have h2 : VB.drew.heap.size = V.heap.size + 1 := HZB.out; omega)
      go_simp
      refine hK.out _ _ uD (fun _ => ?_)
      clear hK K
      try simp only [Act.put, List.setIfInBounds_toArray, List.set_cons_zero, List.set_cons_succ]
      refine wpAnyH_done (by kernel_rfl) ?_ _
      clear y0 y1 y2 y3 y4 z3 uC uB cK x3 hrd ho hg KC OC uD
      generalize w6.setCell ⟨W2.heap.size, 3, none⟩ (.slice A5 n5 c5) = VD at *
      have uE := (HBX.out _ (below_drew KD.out)).2.2.2.1
      rw [HE.out] at uE
      have cK := uE
      have v7 : IntKind.i64.wrap ((t.os.length : Int) - 1) = (t.os.length : Int) - 1 := IntWalk.i64_in _ (by omega)
      have v8 : ((t.os.length : Int) - 1).toNat = t.os.length - 1 := by omega
      have v9 : (0 : Int) ≤ (t.os.length : Int) - 1 := by omega
      have hoc := HT0.out.ol
      have va : ¬ (t.oc : Int) < (t.os.length : Int) - 1 := by omega
      have vb : decide ((t.os.length : Int) - 1 ≤ (t.oc : Int)) = true := by rw [decide_eq_true_eq]; omega
      have vc : ¬ (t.os.length : Int) < 1 := by omega
      go_wp2_with fail
      refine wp_region_held_drew (S := fun wk => wk.cell? ⟨w.heap.size, 3, none⟩ = some (.slice (some ad) s.ts.length s.tc)) (by kernel_rfl) cK (fun _ => ?_)
      refine wpAnyH_take (i := 0) (oi := { dst := some 53, op := _, type := _, pos := _, after := _, guard := _ }) (v := .pointer (some ⟨W2.heap.size, 3, none⟩)) rfl (by kernel_rfl) (by kernel_rfl) (by kernel_rfl) (fun _ _ _ h => h) (Or.inl ⟨by rfl, fun wk hk => by have q1 := hk; go_simp⟩) cK ?_
      simp only [Act.put, List.setIfInBounds_toArray, List.set_cons_zero, List.set_cons_succ]
      refine wpAnyH_take (i := 2) (oi := { dst := some 55, op := _, type := _, pos := _, after := _, guard := _ }) (v := .slice (some ad') t.os.length t.oc) rfl (by kernel_rfl) (by kernel_rfl) (by kernel_rfl) (fun _ _ _ h => h) (Or.inl ⟨by rfl, fun wk hk => by have q1 := hk; go_simp⟩) cK ?_
      simp only [Act.put, List.setIfInBounds_toArray, List.set_cons_zero, List.set_cons_succ]
      refine wpAnyH_take (i := 3) (oi := { dst := some 56, op := _, type := _, pos := _, after := _, guard := _ }) (v := .slice (some ad') t.os.length t.oc) rfl (by kernel_rfl) (by kernel_rfl) (by kernel_rfl) (fun _ _ _ h => h) (Or.inl ⟨by rfl, fun wk hk => by have q1 := hk; go_simp⟩) cK ?_
      simp only [Act.put, List.setIfInBounds_toArray, List.set_cons_zero, List.set_cons_succ]
      refine wpAnyH_take (i := 4) (oi := { dst := some 57, op := _, type := _, pos := _, after := _, guard := _ }) (v := .int .i64 t.os.length) rfl (by kernel_rfl) (by kernel_rfl) (by kernel_rfl) (fun _ _ _ h => h) (Or.inl ⟨by rfl, fun wk hk => by have q1 := hk; go_simp⟩) cK ?_
      simp only [Act.put, List.setIfInBounds_toArray, List.set_cons_zero, List.set_cons_succ]
      refine wpAnyH_take (i := 5) (oi := { dst := some 58, op := _, type := _, pos := _, after := _, guard := _ }) (v := .int .i64 ((t.os.length : Int) - 1)) rfl (by kernel_rfl) (by kernel_rfl) (by kernel_rfl) (fun _ _ _ h => h) (Or.inl ⟨by rfl, fun wk hk => by have q1 := hk; go_simp⟩) cK ?_
      simp only [Act.put, List.setIfInBounds_toArray, List.set_cons_zero, List.set_cons_succ]
      refine wpAnyH_take (i := 6) (oi := { dst := some 59, op := _, type := _, pos := _, after := _, guard := _ }) (v := .slice (some ad') (t.os.length - 1) t.oc) rfl (by kernel_rfl) (by kernel_rfl) (by kernel_rfl) (fun _ _ _ h => h) (Or.inl ⟨by rfl, fun wk hk => by have q1 := hk; go_simp⟩) cK ?_
      simp only [Act.put, List.setIfInBounds_toArray, List.set_cons_zero, List.set_cons_succ]
      have hlen2 : ([] ++ (s.ts.take (s.ts.length - 1)).map Thr.cell).length = s.ts.length - 1 := by rw [List.nil_append]; exact hlen1
      have uX := fun o => (HBX.out _ (below_next (below_drew KD.out) (boxed VD.drew o))).2.2.2.1
      rw [HE.out] at uX
      refine wpAnyH_ready (rs := [1, 7]) (by kernel_rfl) (by simp) ?_
      refine (AllReadyH.cons rfl (fun K hK => ?_) (AllReadyH.cons rfl (fun K hK => ?_) AllReadyH.nil))
      · have x4 : VD.drew.cell? ⟨W2.heap.size, 3, none⟩ = _ := OD.out.cells.2.2.2.1
        go_simp
        refine hK.out _ _ cK (fun _ => ?_)
        clear hK K
        try simp only [Act.put, List.setIfInBounds_toArray, List.set_cons_zero, List.set_cons_succ]
        refine wpAnyH_ready (rs := [7]) (by kernel_rfl) (by simp) ?_
        refine (AllReadyH.cons rfl (fun K hK => ?_) AllReadyH.nil)
        go_simp
        refine hK.out _ _ (uX _) (fun _ => ?_)
        clear hK K
        try simp only [Act.put, List.setIfInBounds_toArray, List.set_cons_zero, List.set_cons_succ]
        refine wpAnyH_ready (rs := [8]) (by kernel_rfl) (by simp) ?_
        refine (AllReadyH.cons rfl (fun K hK => ?_) AllReadyH.nil)
        refine step_append_one rfl (.tmp 54) (.tmp 60) 27 rfl il (.slice none 0 0) 24 Try.underlying27 IL.out rfl (by simp [Act.eval, Act.put]) VD.drew (.slice (some ad') (t.os.length - 1) t.oc) rfl OWD.out (by simp [Act.eval, Act.put]) (by rw [hlen2]; simp [maxLen]; omega) (by rw [hlen2]; have := OKS.out.2.2.1; omega) HSZ.out ?_
        intro v' w7 ho7 hg7
        obtain ⟨A7, n7, c7, rfl⟩ := own_form ho7
        obtain ⟨A8, c8, hv8⟩ := Own.slice ho7
        have hlen3 : ([] ++ (s.ts.take (s.ts.length - 1)).map Thr.cell ++ [Value.slice (some ad') (t.os.length - 1) t.oc]).length = s.ts.length := by rw [List.length_append, hlen2, List.length_singleton]; omega
        rw [hlen3] at hv8
        cases hv8
        have KF := (below_drew KD.out).trans (below_grownBy hg7 (below_drew KD.out).size (fun k hk => by have := (OWD.out.lt k hk).1; omega))
        have OF : Other s W2.heap.size _ _ w7 := (hg7.block _ (block_lt OD.out) (fun e => own_apart (P := Try.prog) OWD.out OD.out (by decide) e.symm)).trans OD.out
        have uF := (HBX.out _ KF).2.2.2.1
        rw [HE.out] at uF
        refine hK.out _ _ uF (fun _ => ?_)
        clear hK K
        try simp only [Act.put, List.setIfInBounds_toArray, List.set_cons_zero, List.set_cons_succ]
        refine wpAnyH_take (i := 9) (oi := { dst := some 62, op := _, type := _, pos := _, after := _, guard := _ }) (v := .pointer (some ⟨W2.heap.size, 3, none⟩)) rfl (by kernel_rfl) (by kernel_rfl) (by kernel_rfl) (fun _ _ _ h => h) (Or.inl ⟨by rfl, fun wk hk => by have q1 := hk; go_simp⟩) uF ?_
        simp only [Act.put, List.setIfInBounds_toArray, List.set_cons_zero, List.set_cons_succ]
        refine wpAnyH_ready (rs := [10]) (by kernel_rfl) (by simp) ?_
        refine (AllReadyH.cons rfl (fun K hK => ?_) AllReadyH.nil)
        obtain ⟨y0, y1, y2, y3, y4⟩ := OF.cells
        have z3 := block_free OF 3
        have KV := Lib.hid (KF.setCell (p := ⟨W2.heap.size, 3, none⟩) hz0 (.slice A7 s.ts.length c7))
        have uG := (HBX.out _ KV.out).2.2.2.1
        rw [HE.out] at uG
        have OT := Lib.hid (OF.put3 (.slice A7 s.ts.length c7))
        have OWG := Lib.hid (Own.kept ho7 (grownBy_store w7 W2.heap.size 3 (.slice A7 s.ts.length c7)) (.inr (own_apart (P := Try.prog) ho7 OF (by decide))))
        go_simp
        refine hK.out _ _ uG (fun _ => ?_)
        clear hK K
        try simp only [Act.put, List.setIfInBounds_toArray, List.set_cons_zero, List.set_cons_succ]
        refine wpAnyH_done (by kernel_rfl) ?_ _
        have hle7 := own_le ho7
        clear y0 y1 y2 y3 y4 z3 uF uE cK uX ho7 hg7 KF OF uG x4
        generalize w7.setCell ⟨W2.heap.size, 3, none⟩ (.slice A7 s.ts.length c7) = VG at *
        obtain ⟨y0, y1, y2, y3, y4⟩ := OT.out.cells
        have hts : (s.ts.take (s.ts.length - 1) ++ [t.less]).map Thr.cell = [] ++ (s.ts.take (s.ts.length - 1)).map Thr.cell ++ [Value.slice (some ad') (t.os.length - 1) t.oc] := by rw [List.nil_append, List.map_append, ← he']; simp [Thr.cell, Thr.less, List.length_take]
        have htl : (s.ts.take (s.ts.length - 1) ++ [t.less]).length = s.ts.length := by rw [List.length_append, List.length_take, List.length_singleton]; omega
        have hq := HK.out.is (s.with A7 c7 (s.ts.take (s.ts.length - 1) ++ [t.less]) (s.ps.take (s.ps.length - 1))) VG ((HI.out.next KV.out).with (by rw [hts]; exact OWG.out.reads) (by rw [htl]; exact hle7.1) hle7.2 (all_last (fun x hx => (HI.out.next KV.out).ti x (List.mem_of_mem_take hx)) ((HT0.out.keep fun p hp => KV.out.cell hp).more KV.out.size).less)) (FEW.out.with (by rw [htl]; have := FEW.out.t; omega) (by rw [List.length_take]; omega) (all_last (fun x hx => FEW.out.o x (List.mem_of_mem_take hx)) ⟨by show (t.os.take _).length ≤ 40; rw [List.length_take]; have := HTF.out.1; omega, fun o ho => HTF.out.2 o (List.mem_of_mem_take ho)⟩))
        rw [less2 OKS.out A7 c7 (s.ps.length - 1) HTO.out] at hq
        have hv : (s.with A7 c7 (s.ts.take (s.ts.length - 1) ++ [t.less]) (s.ps.take (s.ps.length - 1))).val = .agg #[.slice s.first.la s.first.ls.length s.first.lc, .slice s.first.ra s.first.rs.length s.first.rc, .slice s.first.ca s.first.cs.length s.first.cc, .slice A7 s.ts.length c7, .slice s.pa (s.ps.length - 1) s.pc] := by show Value.agg #[_, _, _, .slice A7 (s.ts.take (s.ts.length - 1) ++ [t.less]).length c7, .slice s.pa (s.ps.take (s.ps.length - 1)).length s.pc] = _; rw [htl, List.length_take, Nat.min_eq_left (by omega)]; rfl
        rw [hv] at hq
        clear hv hts htl hle7
        go_wp2_with fail
        refine hq.mono ?_
        rintro e VH ⟨rfl, k9⟩
        replace KV := Lib.hid (KV.out.trans (k9.mono KV.out.size))
        replace OT := Lib.hid (OT.out.below k9)
        clear hq k9 y0 y1 y2 y3 y4
        obtain ⟨y0, y1, y2, y3, y4⟩ := OT.out.cells
        have z3 := block_free OT.out 3
        have u3 := (HBX.out _ KV.out).2.2.2.1
        rw [HE.out] at u3
        have KX := Lib.hid (KV.out.setCell (p := ⟨W2.heap.size, 3, none⟩) K2.out.size (.slice (some ad) (s.ts.length - 1) s.tc))
        have OX := Lib.hid (OT.out.put3 (.slice (some ad) (s.ts.length - 1) s.tc))
        clear OT KV
        go_wp2_with fail
        generalize World.setCell _ _ _ = VX at *
        refine (written_is HK.out _).mono ?_
        rintro e W8 ⟨rfl, k8⟩
        have K8 := Lib.hid (KX.out.trans (k8.mono KX.out.size))
        obtain ⟨y0, y1, y2, y3, y4⟩ := (OX.out.below k8).cells
        have hq := HK.out.is (s.with (some ad) s.tc (s.ts.take (s.ts.length - 1)) (s.ps.take (s.ps.length - 1))) W8 ((HI.out.next K8.out).with (by rw [List.map_take]; exact ((PT.out.below K8.out).more K8.out.size).take _) (by rw [List.length_take]; omega) (HI.out.tm) (fun t ht => (HI.out.next K8.out).ti t (List.mem_of_mem_take ht))) (FEW.out.with (by rw [List.length_take]; have := FEW.out.t; omega) (by rw [List.length_take]; omega) (fun t ht => FEW.out.o t (List.mem_of_mem_take ht)))
        rw [HL3.out] at hq
        have hv : (s.with (some ad) s.tc (s.ts.take (s.ts.length - 1)) (s.ps.take (s.ps.length - 1))).val = .agg #[.slice s.first.la s.first.ls.length s.first.lc, .slice s.first.ra s.first.rs.length s.first.rc, .slice s.first.ca s.first.cs.length s.first.cc, .slice (some ad) (s.ts.length - 1) s.tc, .slice s.pa (s.ps.length - 1) s.pc] := by simp [Scr.val, Scr.with, List.length_take]
        rw [hv] at hq
        clear hv k8
        go_wp2_with fail
        refine hq.mono ?_
        rintro e W9 ⟨rfl, k9⟩
        have B9 := below_next BB.out (K8.out.trans (k9.mono K8.out.size))
        have rr : (decide (1 < s.ts.length) == decide ((1 : Int) < (s.ts.length : Int))) = true := by rw [beq_iff_eq, decide_eq_decide]; omega
        clear hq k9
        go_wp2_with fail
        go_ret
        exact ⟨rfl, B9⟩
      · go_simp
        refine hK.out _ _ (uX _) (fun _ => ?_)
        clear hK K
        try simp only [Act.put, List.setIfInBounds_toArray, List.set_cons_zero, List.set_cons_succ]
        refine wpAnyH_ready (rs := [1]) (by kernel_rfl) (by simp) ?_
        refine (AllReadyH.cons rfl (fun K hK => ?_) AllReadyH.nil)
        have x4 := fun o => (OD.out.below (below_alloc (o := o) (Below.refl _ _) (Nat.le_refl _))).cells.2.2.2.1
        go_simp
        refine hK.out _ _ (uX _) (fun _ => ?_)
        clear hK K
        try simp only [Act.put, List.setIfInBounds_toArray, List.set_cons_zero, List.set_cons_succ]
        refine wpAnyH_ready (rs := [8]) (by kernel_rfl) (by simp) ?_
        refine (AllReadyH.cons rfl (fun K hK => ?_) AllReadyH.nil)
        refine step_append_one rfl (.tmp 54) (.tmp 60) 27 rfl il (.slice none 0 0) 24 Try.underlying27 IL.out rfl (by simp [Act.eval, Act.put]) VD.drew (.slice (some ad') (t.os.length - 1) t.oc) rfl OWD.out (by simp [Act.eval, Act.put]) (by rw [hlen2]; simp [maxLen]; omega) (by rw [hlen2]; have := OKS.out.2.2.1; omega) HSZ.out ?_
        intro v' w7 ho7 hg7
        obtain ⟨A7, n7, c7, rfl⟩ := own_form ho7
        obtain ⟨A8, c8, hv8⟩ := Own.slice ho7
        have hlen3 : ([] ++ (s.ts.take (s.ts.length - 1)).map Thr.cell ++ [Value.slice (some ad') (t.os.length - 1) t.oc]).length = s.ts.length := by rw [List.length_append, hlen2, List.length_singleton]; omega
        rw [hlen3] at hv8
        cases hv8
        have KF := (below_drew KD.out).trans (below_grownBy hg7 (below_drew KD.out).size (fun k hk => by have := (OWD.out.lt k hk).1; omega))
        have OF : Other s W2.heap.size _ _ w7 := (hg7.block _ (block_lt OD.out) (fun e => own_apart (P := Try.prog) OWD.out OD.out (by decide) e.symm)).trans OD.out
        have uF := (HBX.out _ KF).2.2.2.1
        rw [HE.out] at uF
        refine hK.out _ _ uF (fun _ => ?_)
        clear hK K
        try simp only [Act.put, List.setIfInBounds_toArray, List.set_cons_zero, List.set_cons_succ]
        refine wpAnyH_take (i := 9) (oi := { dst := some 62, op := _, type := _, pos := _, after := _, guard := _ }) (v := .pointer (some ⟨W2.heap.size, 3, none⟩)) rfl (by kernel_rfl) (by kernel_rfl) (by kernel_rfl) (fun _ _ _ h => h) (Or.inl ⟨by rfl, fun wk hk => by have q1 := hk; go_simp⟩) uF ?_
        simp only [Act.put, List.setIfInBounds_toArray, List.set_cons_zero, List.set_cons_succ]
        refine wpAnyH_ready (rs := [10]) (by kernel_rfl) (by simp) ?_
        refine (AllReadyH.cons rfl (fun K hK => ?_) AllReadyH.nil)
        obtain ⟨y0, y1, y2, y3, y4⟩ := OF.cells
        have z3 := block_free OF 3
        have KV := Lib.hid (KF.setCell (p := ⟨W2.heap.size, 3, none⟩) hz0 (.slice A7 s.ts.length c7))
        have uG := (HBX.out _ KV.out).2.2.2.1
        rw [HE.out] at uG
        have OT := Lib.hid (OF.put3 (.slice A7 s.ts.length c7))
        have OWG := Lib.hid (Own.kept ho7 (grownBy_store w7 W2.heap.size 3 (.slice A7 s.ts.length c7)) (.inr (own_apart (P := Try.prog) ho7 OF (by decide))))
        go_simp
        refine hK.out _ _ uG (fun _ => ?_)
        clear hK K
        try simp only [Act.put, List.setIfInBounds_toArray, List.set_cons_zero, List.set_cons_succ]
        refine wpAnyH_done (by kernel_rfl) ?_ _
        have hle7 := own_le ho7
        clear y0 y1 y2 y3 y4 z3 uF uE cK uX ho7 hg7 KF OF uG x4
        generalize w7.setCell ⟨W2.heap.size, 3, none⟩ (.slice A7 s.ts.length c7) = VG at *
        obtain ⟨y0, y1, y2, y3, y4⟩ := OT.out.cells
        have hts : (s.ts.take (s.ts.length - 1) ++ [t.less]).map Thr.cell = [] ++ (s.ts.take (s.ts.length - 1)).map Thr.cell ++ [Value.slice (some ad') (t.os.length - 1) t.oc] := by rw [List.nil_append, List.map_append, ← he']; simp [Thr.cell, Thr.less, List.length_take]
        have htl : (s.ts.take (s.ts.length - 1) ++ [t.less]).length = s.ts.length := by rw [List.length_append, List.length_take, List.length_singleton]; omega
        have hq := HK.out.is (s.with A7 c7 (s.ts.take (s.ts.length - 1) ++ [t.less]) (s.ps.take (s.ps.length - 1))) VG ((HI.out.next KV.out).with (by rw [hts]; exact OWG.out.reads) (by rw [htl]; exact hle7.1) hle7.2 (all_last (fun x hx => (HI.out.next KV.out).ti x (List.mem_of_mem_take hx)) ((HT0.out.keep fun p hp => KV.out.cell hp).more KV.out.size).less)) (FEW.out.with (by rw [htl]; have := FEW.out.t; omega) (by rw [List.length_take]; omega) (all_last (fun x hx => FEW.out.o x (List.mem_of_mem_take hx)) ⟨by show (t.os.take _).length ≤ 40; rw [List.length_take]; have := HTF.out.1; omega, fun o ho => HTF.out.2 o (List.mem_of_mem_take ho)⟩))
        rw [less2 OKS.out A7 c7 (s.ps.length - 1) HTO.out] at hq
        have hv : (s.with A7 c7 (s.ts.take (s.ts.length - 1) ++ [t.less]) (s.ps.take (s.ps.length - 1))).val = .agg #[.slice s.first.la s.first.ls.length s.first.lc, .slice s.first.ra s.first.rs.length s.first.rc, .slice s.first.ca s.first.cs.length s.first.cc, .slice A7 s.ts.length c7, .slice s.pa (s.ps.length - 1) s.pc] := by show Value.agg #[_, _, _, .slice A7 (s.ts.take (s.ts.length - 1) ++ [t.less]).length c7, .slice s.pa (s.ps.take (s.ps.length - 1)).length s.pc] = _; rw [htl, List.length_take, Nat.min_eq_left (by omega)]; rfl
        rw [hv] at hq
        clear hv hts htl hle7
        go_wp2_with fail
        refine hq.mono ?_
        rintro e VH ⟨rfl, k9⟩
        replace KV := Lib.hid (KV.out.trans (k9.mono KV.out.size))
        replace OT := Lib.hid (OT.out.below k9)
        clear hq k9 y0 y1 y2 y3 y4
        obtain ⟨y0, y1, y2, y3, y4⟩ := OT.out.cells
        have z3 := block_free OT.out 3
        have u3 := (HBX.out _ KV.out).2.2.2.1
        rw [HE.out] at u3
        have KX := Lib.hid (KV.out.setCell (p := ⟨W2.heap.size, 3, none⟩) K2.out.size (.slice (some ad) (s.ts.length - 1) s.tc))
        have OX := Lib.hid (OT.out.put3 (.slice (some ad) (s.ts.length - 1) s.tc))
        clear OT KV
        go_wp2_with fail
        generalize World.setCell _ _ _ = VX at *
        refine (written_is HK.out _).mono ?_
        rintro e W8 ⟨rfl, k8⟩
        have K8 := Lib.hid (KX.out.trans (k8.mono KX.out.size))
        obtain ⟨y0, y1, y2, y3, y4⟩ := (OX.out.below k8).cells
        have hq := HK.out.is (s.with (some ad) s.tc (s.ts.take (s.ts.length - 1)) (s.ps.take (s.ps.length - 1))) W8 ((HI.out.next K8.out).with (by rw [List.map_take]; exact ((PT.out.below K8.out).more K8.out.size).take _) (by rw [List.length_take]; omega) (HI.out.tm) (fun t ht => (HI.out.next K8.out).ti t (List.mem_of_mem_take ht))) (FEW.out.with (by rw [List.length_take]; have := FEW.out.t; omega) (by rw [List.length_take]; omega) (fun t ht => FEW.out.o t (List.mem_of_mem_take ht)))
        rw [HL3.out] at hq
        have hv : (s.with (some ad) s.tc (s.ts.take (s.ts.length - 1)) (s.ps.take (s.ps.length - 1))).val = .agg #[.slice s.first.la s.first.ls.length s.first.lc, .slice s.first.ra s.first.rs.length s.first.rc, .slice s.first.ca s.first.cs.length s.first.cc, .slice (some ad) (s.ts.length - 1) s.tc, .slice s.pa (s.ps.length - 1) s.pc] := by simp [Scr.val, Scr.with, List.length_take]
        rw [hv] at hq
        clear hv k8
        go_wp2_with fail
        refine hq.mono ?_
        rintro e W9 ⟨rfl, k9⟩
        have B9 := below_next BB.out (K8.out.trans (k9.mono K8.out.size))
        have rr : (decide (1 < s.ts.length) == decide ((1 : Int) < (s.ts.length : Int))) = true := by rw [beq_iff_eq, decide_eq_decide]; omega
        clear hq k9
        go_wp2_with fail
        go_ret
        exact ⟨rfl, B9⟩
    · have t2 : decide (0 < t.os.length) = false := by rw [decide_eq_false_iff_not]; exact hm
      obtain ⟨y0, y1, y2, y3, y4⟩ := OT.out.cells
      have z3 := block_free OT.out 3
      have u3 := (HBX.out _ KV.out).2.2.2.1
      rw [HE.out] at u3
      have KX := Lib.hid (KV.out.setCell (p := ⟨W2.heap.size, 3, none⟩) K2.out.size (.slice (some ad) (s.ts.length - 1) s.tc))
      have OX := Lib.hid (OT.out.put3 (.slice (some ad) (s.ts.length - 1) s.tc))
      clear OT KV
      go_wp2_with fail
      generalize World.setCell _ _ _ = VX at *
      refine (written_is HK.out _).mono ?_
      rintro e W8 ⟨rfl, k8⟩
      have K8 := Lib.hid (KX.out.trans (k8.mono KX.out.size))
      obtain ⟨y0, y1, y2, y3, y4⟩ := (OX.out.below k8).cells
      have hq := HK.out.is (s.with (some ad) s.tc (s.ts.take (s.ts.length - 1)) (s.ps.take (s.ps.length - 1))) W8 ((HI.out.next K8.out).with (by rw [List.map_take]; exact ((PT.out.below K8.out).more K8.out.size).take _) (by rw [List.length_take]; omega) (HI.out.tm) (fun t ht => (HI.out.next K8.out).ti t (List.mem_of_mem_take ht))) (FEW.out.with (by rw [List.length_take]; have := FEW.out.t; omega) (by rw [List.length_take]; omega) (fun t ht => FEW.out.o t (List.mem_of_mem_take ht)))
      rw [HL3.out] at hq
      have hv : (s.with (some ad) s.tc (s.ts.take (s.ts.length - 1)) (s.ps.take (s.ps.length - 1))).val = .agg #[.slice s.first.la s.first.ls.length s.first.lc, .slice s.first.ra s.first.rs.length s.first.rc, .slice s.first.ca s.first.cs.length s.first.cc, .slice (some ad) (s.ts.length - 1) s.tc, .slice s.pa (s.ps.length - 1) s.pc] := by simp [Scr.val, Scr.with, List.length_take]
      rw [hv] at hq
      clear hv k8
      go_wp2_with fail
      refine hq.mono ?_
      rintro e W9 ⟨rfl, k9⟩
      have B9 := below_next BB.out (K8.out.trans (k9.mono K8.out.size))
      have rr : (decide (1 < s.ts.length) == decide ((1 : Int) < (s.ts.length : Int))) = true := by rw [beq_iff_eq, decide_eq_decide]; omega
      clear hq k9
      go_wp2_with fail
      go_ret
      exact ⟨rfl, B9⟩
  · have t1 : decide ((0 : Int) < (s.ps.length : Int)) = false := by rw [decide_eq_false_iff_not]; omega
    have KV := Lib.hid (HKT.out (.slice s.pa s.ps.length s.pc))
    have OT := Lib.hid (HOT.out (.slice s.pa s.ps.length s.pc))
    rw [HE.out]
    clear f33 f34
    generalize hV : W2.alloc (.cells #[.slice s.first.la s.first.ls.length s.first.lc, .slice s.first.ra s.first.rs.length s.first.rc, .slice s.first.ca s.first.cs.length s.first.cc, .slice (some ad) s.ts.length s.tc, .slice s.pa s.ps.length s.pc] 30) = V at KV OT
    have u4 := (HBX.out _ KV.out).2.2.2.2
    have HL3 := Lib.hid (less3 OKS.out (some ad) s.tc (s.ps.length))
    obtain ⟨ad0, e0, _, g0⟩ := (HI.out.below KV.out).thread (show s.ts.length - 1 < s.ts.length by omega)
    rw [HE.out] at e0
    cases e0
    rw [HTT.out] at g0
    have u3 := (HBX.out _ KV.out).2.2.2.1
    rw [HE.out] at u3
    by_cases hm : 0 < t.os.length
    · have t2 : decide (0 < t.os.length) = true := by rw [decide_eq_true_eq]; exact hm
      obtain ⟨ad', he', _, _⟩ := HT0.out.op hm
      rw [he'] at g0
      have OA := OT.out.below (boxed V (.cells #[] 46))
      obtain ⟨y0, y1, y2, y3, y4⟩ := OA.cells
      have z3 := block_free OA 3
      have KA := below_next KV.out (boxed V (.cells #[] 46))
      have hnb : W2.heap.size < V.heap.size := block_lt OT.out
      have hz0 : w0.heap.size ≤ W2.heap.size := K2.out.size
      have OW := (Own.empty (E := 46) (Nat.le_refl V.heap.size)).kept (grownBy_store (V.alloc (.cells #[] 46)) W2.heap.size 3 (.slice (some ⟨V.heap.size, 0, none⟩) 0 0)) (.inr (by simp [Value.ownBlock]; omega))
      have OB := OA.put3 (.slice (some ⟨V.heap.size, 0, none⟩) 0 0)
      have KB := KA.setCell (p := ⟨W2.heap.size, 3, none⟩) hz0 (.slice (some ⟨V.heap.size, 0, none⟩) 0 0)
      have hzB : (((V.alloc (.cells #[] 46))).setCell ⟨W2.heap.size, 3, none⟩ (.slice (some ⟨V.heap.size, 0, none⟩) 0 0)).heap.size = V.heap.size + 1 := by rw [size_setCell]; simp
      clear OA KA
      generalize hVB : (V.alloc (.cells #[] 46)).setCell ⟨W2.heap.size, 3, none⟩ (.slice (some ⟨V.heap.size, 0, none⟩) 0 0) = VB at OW OB KB hzB
      have HOB := Lib.hid OB
      have HKB := Lib.hid KB
      have HOW := Lib.hid OW
      have HZB := Lib.hid hzB
      clear OW OB KB hzB
      go_wp2_with fail
      clear hVB y0 y1 y2 y3 y4 z3 u3 g0
      have uB := (HBX.out _ (below_drew HKB.out)).2.2.2.1
      rw [HE.out] at uB
      have cK := uB
      have v1 : IntKind.i64.wrap ((s.ts.length : Int) - 1) = (s.ts.length : Int) - 1 := IntWalk.i64_in _ (by omega)
      have v2 : ((s.ts.length : Int) - 1).toNat = s.ts.length - 1 := by omega
      have v3 : (0 : Int) ≤ (s.ts.length : Int) - 1 := by omega
      have v4 : ¬ (s.tc : Int) < (s.ts.length : Int) - 1 := by omega
      have v6 : ¬ (s.ts.length : Int) < 1 := by omega
      have v5 : decide ((s.ts.length : Int) - 1 ≤ (s.tc : Int)) = true := by rw [decide_eq_true_eq]; omega
      refine wp_region_held_drew (S := fun wk => wk.cell? ⟨w.heap.size, 3, none⟩ = some (.slice (some ad) s.ts.length s.tc)) (by kernel_rfl) cK (fun _ => ?_)
      refine wpAnyH_take (i := 0) (oi := { dst := some 44, op := _, type := _, pos := _, after := _, guard := _ }) (v := .pointer (some ⟨W2.heap.size, 3, none⟩)) rfl (by kernel_rfl) (by kernel_rfl) (by kernel_rfl) (fun _ _ _ h => h) (Or.inl ⟨by rfl, fun wk hk => by have q1 := hk; go_simp⟩) cK ?_
      simp only [Act.put, List.setIfInBounds_toArray, List.set_cons_zero, List.set_cons_succ]
      refine wpAnyH_take (i := 2) (oi := { dst := some 46, op := _, type := _, pos := _, after := _, guard := _ }) (v := .pointer (some ⟨w.heap.size, 3, none⟩)) rfl (by kernel_rfl) (by kernel_rfl) (by kernel_rfl) (fun _ _ _ h => h) (Or.inl ⟨by rfl, fun wk hk => by have q1 := hk; go_simp⟩) cK ?_
      simp only [Act.put, List.setIfInBounds_toArray, List.set_cons_zero, List.set_cons_succ]
      refine wpAnyH_take (i := 3) (oi := { dst := some 47, op := _, type := _, pos := _, after := _, guard := _ }) (v := .slice (some ad) s.ts.length s.tc) rfl (by kernel_rfl) (by kernel_rfl) (by kernel_rfl) (fun _ _ _ h => h) (Or.inl ⟨by rfl, fun wk hk => by have q1 := hk; go_simp⟩) cK ?_
      simp only [Act.put, List.setIfInBounds_toArray, List.set_cons_zero, List.set_cons_succ]
      refine wpAnyH_take (i := 4) (oi := { dst := some 48, op := _, type := _, pos := _, after := _, guard := _ }) (v := .int .i64 s.ts.length) rfl (by kernel_rfl) (by kernel_rfl) (by kernel_rfl) (fun _ _ _ h => h) (Or.inl ⟨by rfl, fun wk hk => by have q1 := hk; go_simp⟩) cK ?_
      simp only [Act.put, List.setIfInBounds_toArray, List.set_cons_zero, List.set_cons_succ]
      refine wpAnyH_take (i := 5) (oi := { dst := some 49, op := _, type := _, pos := _, after := _, guard := _ }) (v := .int .i64 ((s.ts.length : Int) - 1)) rfl (by kernel_rfl) (by kernel_rfl) (by kernel_rfl) (fun _ _ _ h => h) (Or.inl ⟨by rfl, fun wk hk => by have q1 := hk; go_simp⟩) cK ?_
      simp only [Act.put, List.setIfInBounds_toArray, List.set_cons_zero, List.set_cons_succ]
      refine wpAnyH_take (i := 6) (oi := { dst := some 50, op := _, type := _, pos := _, after := _, guard := _ }) (v := .slice (some ad) (s.ts.length - 1) s.tc) rfl (by kernel_rfl) (by kernel_rfl) (by kernel_rfl) (fun _ _ _ h => h) (Or.inl ⟨by rfl, fun wk hk => by have q1 := hk; go_simp⟩) cK ?_
      simp only [Act.put, List.setIfInBounds_toArray, List.set_cons_zero, List.set_cons_succ]
      refine wpAnyH_ready (rs := [1]) (by kernel_rfl) (by simp) ?_
      refine (AllReadyH.cons rfl (fun K hK => ?_) AllReadyH.nil)
      have x3 : VB.drew.cell? ⟨W2.heap.size, 3, none⟩ = _ := HOB.out.cells.2.2.2.1
      go_simp
      refine hK.out _ _ cK (fun _ => ?_)
      clear hK K
      try simp only [Act.put, List.setIfInBounds_toArray, List.set_cons_zero, List.set_cons_succ]
      refine wpAnyH_ready (rs := [7]) (by kernel_rfl) (by simp) ?_
      refine (AllReadyH.cons rfl (fun K hK => ?_) AllReadyH.nil)
      have hrd : ∀ j u, ((s.ts.take (s.ts.length - 1)).map Thr.cell)[j]? = some u → VB.drew.cell? (ad.add j) = some u := fun j u hu => by
        have hp0 : 0 < ((s.ts.take (s.ts.length - 1)).map Thr.cell).length := Nat.lt_of_le_of_lt (Nat.zero_le _) (List.getElem?_eq_some_iff.1 hu).1
        have hr0 := (PT.out.below (below_drew HKB.out)).take (s.ts.length - 1)
        rw [← List.map_take] at hr0
        obtain ⟨ad2, e2, _, hc2⟩ := hr0 hp0
        cases e2
        exact hc2 j u hu
      have hlen1 : ((s.ts.take (s.ts.length - 1)).map Thr.cell).length = s.ts.length - 1 := by rw [List.length_map, List.length_take]; omega
      refine step_append_all rfl (.tmp 45) (.tmp 50) 27 rfl il (.slice none 0 0) 24 Try.underlying27 IL.out rfl (by simp [Act.eval, Act.put]) VB.drew (xs := []) HOW.out (ad := ad) (c := s.tc) (ys := (s.ts.take (s.ts.length - 1)).map Thr.cell) (by rw [hlen1]; simp [Act.eval, Act.put]) hrd (fun u hu => by obtain ⟨x, _, rfl⟩ := List.mem_map.1 hu; rfl) (by rw [hlen1]; simp [maxLen]; omega) (by rw [hlen1]; simp; have := OKS.out.2.2.1; omega) (by show V.heap.size ≤ VB.heap.size; rw [HZB.out]; omega) ?_
      intro v' w6 ho hg
      obtain ⟨A5, n5, c5, rfl⟩ := own_form ho
      have KC := (below_drew HKB.out).trans (below_grownBy hg (by show w0.heap.size ≤ VB.heap.size; rw [HZB.out]; omega) (fun k hk => by (have hk2 : V.heap.size = k := (by simpa [Act.eval, Act.put, Value.ownBlock] using hk)); omega))
      have OC : Other s W2.heap.size _ _ w6 := (hg.block _ (by show W2.heap.size < VB.heap.size; rw [HZB.out]; omega) (fun e => by (have e2 : W2.heap.size = V.heap.size := (by simpa [Act.eval, Act.put, Value.ownBlock] using e)); omega)).trans HOB.out
      have uC := (HBX.out _ KC).2.2.2.1
      rw [HE.out] at uC
      refine hK.out _ _ uC (fun _ => ?_)
      clear hK K
      try simp only [Act.put, List.setIfInBounds_toArray, List.set_cons_zero, List.set_cons_succ]
      refine wpAnyH_take (i := 8) (oi := { dst := some 52, op := _, type := _, pos := _, after := _, guard := _ }) (v := .pointer (some ⟨W2.heap.size, 3, none⟩)) rfl (by kernel_rfl) (by kernel_rfl) (by kernel_rfl) (fun _ _ _ h => h) (Or.inl ⟨by rfl, fun wk hk => by have q1 := hk; go_simp⟩) uC ?_
      simp only [Act.put, List.setIfInBounds_toArray, List.set_cons_zero, List.set_cons_succ]
      refine wpAnyH_ready (rs := [9]) (by kernel_rfl) (by simp) ?_
      refine (AllReadyH.cons rfl (fun K hK => ?_) AllReadyH.nil)
      obtain ⟨y0, y1, y2, y3, y4⟩ := OC.cells
      have z3 := block_free OC 3
      have KD := Lib.hid (KC.setCell (p := ⟨W2.heap.size, 3, none⟩) hz0 (.slice A5 n5 c5))
      have uD := (HBX.out _ KD.out).2.2.2.1
      rw [HE.out] at uD
      have OD := Lib.hid (OC.put3 (.slice A5 n5 c5))
      have OWD := Lib.hid (Own.kept ho (grownBy_store w6 W2.heap.size 3 (.slice A5 n5 c5)) (.inr (own_apart (P := Try.prog) ho OC (by decide))))
      have HSZ : Hid (V.heap.size ≤ (w6.setCell ⟨W2.heap.size, 3, none⟩ (.slice A5 n5 c5)).heap.size) := Lib.hid (by rw [size_setCell]; have := hg.size; have h2 : VB.drew.heap.size = V.heap.size + 1 := HZB.out; omega)
      go_simp
      refine hK.out _ _ uD (fun _ => ?_)
      clear hK K
      try simp only [Act.put, List.setIfInBounds_toArray, List.set_cons_zero, List.set_cons_succ]
      refine wpAnyH_done (by kernel_rfl) ?_ _
      clear y0 y1 y2 y3 y4 z3 uC uB cK x3 hrd ho hg KC OC uD
      generalize w6.setCell ⟨W2.heap.size, 3, none⟩ (.slice A5 n5 c5) = VD at *
      have uE := (HBX.out _ (below_drew KD.out)).2.2.2.1
      rw [HE.out] at uE
      have cK := uE
      have v7 : IntKind.i64.wrap ((t.os.length : Int) - 1) = (t.os.length : Int) - 1 := IntWalk.i64_in _ (by omega)
      have v8 : ((t.os.length : Int) - 1).toNat = t.os.length - 1 := by omega
      have v9 : (0 : Int) ≤ (t.os.length : Int) - 1 := by omega
      have hoc := HT0.out.ol
      have va : ¬ (t.oc : Int) < (t.os.length : Int) - 1 := by omega
      have vb : decide ((t.os.length : Int) - 1 ≤ (t.oc : Int)) = true := by rw [decide_eq_true_eq]; omega
      have vc : ¬ (t.os.length : Int) < 1 := by omega
      go_wp2_with fail
      refine wp_region_held_drew (S := fun wk => wk.cell? ⟨w.heap.size, 3, none⟩ = some (.slice (some ad) s.ts.length s.tc)) (by kernel_rfl) cK (fun _ => ?_)
      refine wpAnyH_take (i := 0) (oi := { dst := some 53, op := _, type := _, pos := _, after := _, guard := _ }) (v := .pointer (some ⟨W2.heap.size, 3, none⟩)) rfl (by kernel_rfl) (by kernel_rfl) (by kernel_rfl) (fun _ _ _ h => h) (Or.inl ⟨by rfl, fun wk hk => by have q1 := hk; go_simp⟩) cK ?_
      simp only [Act.put, List.setIfInBounds_toArray, List.set_cons_zero, List.set_cons_succ]
      refine wpAnyH_take (i := 2) (oi := { dst := some 55, op := _, type := _, pos := _, after := _, guard := _ }) (v := .slice (some ad') t.os.length t.oc) rfl (by kernel_rfl) (by kernel_rfl) (by kernel_rfl) (fun _ _ _ h => h) (Or.inl ⟨by rfl, fun wk hk => by have q1 := hk; go_simp⟩) cK ?_
      simp only [Act.put, List.setIfInBounds_toArray, List.set_cons_zero, List.set_cons_succ]
      refine wpAnyH_take (i := 3) (oi := { dst := some 56, op := _, type := _, pos := _, after := _, guard := _ }) (v := .slice (some ad') t.os.length t.oc) rfl (by kernel_rfl) (by kernel_rfl) (by kernel_rfl) (fun _ _ _ h => h) (Or.inl ⟨by rfl, fun wk hk => by have q1 := hk; go_simp⟩) cK ?_
      simp only [Act.put, List.setIfInBounds_toArray, List.set_cons_zero, List.set_cons_succ]
      refine wpAnyH_take (i := 4) (oi := { dst := some 57, op := _, type := _, pos := _, after := _, guard := _ }) (v := .int .i64 t.os.length) rfl (by kernel_rfl) (by kernel_rfl) (by kernel_rfl) (fun _ _ _ h => h) (Or.inl ⟨by rfl, fun wk hk => by have q1 := hk; go_simp⟩) cK ?_
      simp only [Act.put, List.setIfInBounds_toArray, List.set_cons_zero, List.set_cons_succ]
      refine wpAnyH_take (i := 5) (oi := { dst := some 58, op := _, type := _, pos := _, after := _, guard := _ }) (v := .int .i64 ((t.os.length : Int) - 1)) rfl (by kernel_rfl) (by kernel_rfl) (by kernel_rfl) (fun _ _ _ h => h) (Or.inl ⟨by rfl, fun wk hk => by have q1 := hk; go_simp⟩) cK ?_
      simp only [Act.put, List.setIfInBounds_toArray, List.set_cons_zero, List.set_cons_succ]
      refine wpAnyH_take (i := 6) (oi := { dst := some 59, op := _, type := _, pos := _, after := _, guard := _ }) (v := .slice (some ad') (t.os.length - 1) t.oc) rfl (by kernel_rfl) (by kernel_rfl) (by kernel_rfl) (fun _ _ _ h => h) (Or.inl ⟨by rfl, fun wk hk => by have q1 := hk; go_simp⟩) cK ?_
      simp only [Act.put, List.setIfInBounds_toArray, List.set_cons_zero, List.set_cons_succ]
      have hlen2 : ([] ++ (s.ts.take (s.ts.length - 1)).map Thr.cell).length = s.ts.length - 1 := by rw [List.nil_append]; exact hlen1
      have uX := fun o => (HBX.out _ (below_next (below_drew KD.out) (boxed VD.drew o))).2.2.2.1
      rw [HE.out] at uX
      refine wpAnyH_ready (rs := [1, 7]) (by kernel_rfl) (by simp) ?_
      refine (AllReadyH.cons rfl (fun K hK => ?_) (AllReadyH.cons rfl (fun K hK => ?_) AllReadyH.nil))
      · have x4 : VD.drew.cell? ⟨W2.heap.size, 3, none⟩ = _ := OD.out.cells.2.2.2.1
        go_simp
        refine hK.out _ _ cK (fun _ => ?_)
        clear hK K
        try simp only [Act.put, List.setIfInBounds_toArray, List.set_cons_zero, List.set_cons_succ]
        refine wpAnyH_ready (rs := [7]) (by kernel_rfl) (by simp) ?_
        refine (AllReadyH.cons rfl (fun K hK => ?_) AllReadyH.nil)
        go_simp
        refine hK.out _ _ (uX _) (fun _ => ?_)
        clear hK K
        try simp only [Act.put, List.setIfInBounds_toArray, List.set_cons_zero, List.set_cons_succ]
        refine wpAnyH_ready (rs := [8]) (by kernel_rfl) (by simp) ?_
        refine (AllReadyH.cons rfl (fun K hK => ?_) AllReadyH.nil)
        refine step_append_one rfl (.tmp 54) (.tmp 60) 27 rfl il (.slice none 0 0) 24 Try.underlying27 IL.out rfl (by simp [Act.eval, Act.put]) VD.drew (.slice (some ad') (t.os.length - 1) t.oc) rfl OWD.out (by simp [Act.eval, Act.put]) (by rw [hlen2]; simp [maxLen]; omega) (by rw [hlen2]; have := OKS.out.2.2.1; omega) HSZ.out ?_
        intro v' w7 ho7 hg7
        obtain ⟨A7, n7, c7, rfl⟩ := own_form ho7
        obtain ⟨A8, c8, hv8⟩ := Own.slice ho7
        have hlen3 : ([] ++ (s.ts.take (s.ts.length - 1)).map Thr.cell ++ [Value.slice (some ad') (t.os.length - 1) t.oc]).length = s.ts.length := by rw [List.length_append, hlen2, List.length_singleton]; omega
        rw [hlen3] at hv8
        cases hv8
        have KF := (below_drew KD.out).trans (below_grownBy hg7 (below_drew KD.out).size (fun k hk => by have := (OWD.out.lt k hk).1; omega))
        have OF : Other s W2.heap.size _ _ w7 := (hg7.block _ (block_lt OD.out) (fun e => own_apart (P := Try.prog) OWD.out OD.out (by decide) e.symm)).trans OD.out
        have uF := (HBX.out _ KF).2.2.2.1
        rw [HE.out] at uF
        refine hK.out _ _ uF (fun _ => ?_)
        clear hK K
        try simp only [Act.put, List.setIfInBounds_toArray, List.set_cons_zero, List.set_cons_succ]
        refine wpAnyH_take (i := 9) (oi := { dst := some 62, op := _, type := _, pos := _, after := _, guard := _ }) (v := .pointer (some ⟨W2.heap.size, 3, none⟩)) rfl (by kernel_rfl) (by kernel_rfl) (by kernel_rfl) (fun _ _ _ h => h) (Or.inl ⟨by rfl, fun wk hk => by have q1 := hk; go_simp⟩) uF ?_
        simp only [Act.put, List.setIfInBounds_toArray, List.set_cons_zero, List.set_cons_succ]
        refine wpAnyH_ready (rs := [10]) (by kernel_rfl) (by simp) ?_
        refine (AllReadyH.cons rfl (fun K hK => ?_) AllReadyH.nil)
        obtain ⟨y0, y1, y2, y3, y4⟩ := OF.cells
        have z3 := block_free OF 3
        have KV := Lib.hid (KF.setCell (p := ⟨W2.heap.size, 3, none⟩) hz0 (.slice A7 s.ts.length c7))
        have uG := (HBX.out _ KV.out).2.2.2.1
        rw [HE.out] at uG
        have OT := Lib.hid (OF.put3 (.slice A7 s.ts.length c7))
        have OWG := Lib.hid (Own.kept ho7 (grownBy_store w7 W2.heap.size 3 (.slice A7 s.ts.length c7)) (.inr (own_apart (P := Try.prog) ho7 OF (by decide))))
        go_simp
        refine hK.out _ _ uG (fun _ => ?_)
        clear hK K
        try simp only [Act.put, List.setIfInBounds_toArray, List.set_cons_zero, List.set_cons_succ]
        refine wpAnyH_done (by kernel_rfl) ?_ _
        have hle7 := own_le ho7
        clear y0 y1 y2 y3 y4 z3 uF uE cK uX ho7 hg7 KF OF uG x4
        generalize w7.setCell ⟨W2.heap.size, 3, none⟩ (.slice A7 s.ts.length c7) = VG at *
        obtain ⟨y0, y1, y2, y3, y4⟩ := OT.out.cells
        have hts : (s.ts.take (s.ts.length - 1) ++ [t.less]).map Thr.cell = [] ++ (s.ts.take (s.ts.length - 1)).map Thr.cell ++ [Value.slice (some ad') (t.os.length - 1) t.oc] := by rw [List.nil_append, List.map_append, ← he']; simp [Thr.cell, Thr.less, List.length_take]
        have htl : (s.ts.take (s.ts.length - 1) ++ [t.less]).length = s.ts.length := by rw [List.length_append, List.length_take, List.length_singleton]; omega
        have hq := HK.out.is (s.with A7 c7 (s.ts.take (s.ts.length - 1) ++ [t.less]) (s.ps.take (s.ps.length))) VG ((HI.out.next KV.out).with (by rw [hts]; exact OWG.out.reads) (by rw [htl]; exact hle7.1) hle7.2 (all_last (fun x hx => (HI.out.next KV.out).ti x (List.mem_of_mem_take hx)) ((HT0.out.keep fun p hp => KV.out.cell hp).more KV.out.size).less)) (FEW.out.with (by rw [htl]; have := FEW.out.t; omega) (by rw [List.length_take]; omega) (all_last (fun x hx => FEW.out.o x (List.mem_of_mem_take hx)) ⟨by show (t.os.take _).length ≤ 40; rw [List.length_take]; have := HTF.out.1; omega, fun o ho => HTF.out.2 o (List.mem_of_mem_take ho)⟩))
        rw [less2 OKS.out A7 c7 (s.ps.length) HTO.out] at hq
        have hv : (s.with A7 c7 (s.ts.take (s.ts.length - 1) ++ [t.less]) (s.ps.take (s.ps.length))).val = .agg #[.slice s.first.la s.first.ls.length s.first.lc, .slice s.first.ra s.first.rs.length s.first.rc, .slice s.first.ca s.first.cs.length s.first.cc, .slice A7 s.ts.length c7, .slice s.pa (s.ps.length) s.pc] := by show Value.agg #[_, _, _, .slice A7 (s.ts.take (s.ts.length - 1) ++ [t.less]).length c7, .slice s.pa (s.ps.take (s.ps.length)).length s.pc] = _; rw [htl, List.length_take, Nat.min_eq_left (by omega)]; rfl
        rw [hv] at hq
        clear hv hts htl hle7
        go_wp2_with fail
        refine hq.mono ?_
        rintro e VH ⟨rfl, k9⟩
        replace KV := Lib.hid (KV.out.trans (k9.mono KV.out.size))
        replace OT := Lib.hid (OT.out.below k9)
        clear hq k9 y0 y1 y2 y3 y4
        obtain ⟨y0, y1, y2, y3, y4⟩ := OT.out.cells
        have z3 := block_free OT.out 3
        have u3 := (HBX.out _ KV.out).2.2.2.1
        rw [HE.out] at u3
        have KX := Lib.hid (KV.out.setCell (p := ⟨W2.heap.size, 3, none⟩) K2.out.size (.slice (some ad) (s.ts.length - 1) s.tc))
        have OX := Lib.hid (OT.out.put3 (.slice (some ad) (s.ts.length - 1) s.tc))
        clear OT KV
        go_wp2_with fail
        generalize World.setCell _ _ _ = VX at *
        refine (written_is HK.out _).mono ?_
        rintro e W8 ⟨rfl, k8⟩
        have K8 := Lib.hid (KX.out.trans (k8.mono KX.out.size))
        obtain ⟨y0, y1, y2, y3, y4⟩ := (OX.out.below k8).cells
        have hq := HK.out.is (s.with (some ad) s.tc (s.ts.take (s.ts.length - 1)) (s.ps.take (s.ps.length))) W8 ((HI.out.next K8.out).with (by rw [List.map_take]; exact ((PT.out.below K8.out).more K8.out.size).take _) (by rw [List.length_take]; omega) (HI.out.tm) (fun t ht => (HI.out.next K8.out).ti t (List.mem_of_mem_take ht))) (FEW.out.with (by rw [List.length_take]; have := FEW.out.t; omega) (by rw [List.length_take]; omega) (fun t ht => FEW.out.o t (List.mem_of_mem_take ht)))
        rw [HL3.out] at hq
        have hv : (s.with (some ad) s.tc (s.ts.take (s.ts.length - 1)) (s.ps.take (s.ps.length))).val = .agg #[.slice s.first.la s.first.ls.length s.first.lc, .slice s.first.ra s.first.rs.length s.first.rc, .slice s.first.ca s.first.cs.length s.first.cc, .slice (some ad) (s.ts.length - 1) s.tc, .slice s.pa (s.ps.length) s.pc] := by simp [Scr.val, Scr.with, List.length_take]
        rw [hv] at hq
        clear hv k8
        go_wp2_with fail
        refine hq.mono ?_
        rintro e W9 ⟨rfl, k9⟩
        have B9 := below_next BB.out (K8.out.trans (k9.mono K8.out.size))
        have rr : (decide (1 < s.ts.length) == decide ((1 : Int) < (s.ts.length : Int))) = true := by rw [beq_iff_eq, decide_eq_decide]; omega
        clear hq k9
        go_wp2_with fail
        go_ret
        exact ⟨rfl, B9⟩
      · go_simp
        refine hK.out _ _ (uX _) (fun _ => ?_)
        clear hK K
        try simp only [Act.put, List.setIfInBounds_toArray, List.set_cons_zero, List.set_cons_succ]
        refine wpAnyH_ready (rs := [1]) (by kernel_rfl) (by simp) ?_
        refine (AllReadyH.cons rfl (fun K hK => ?_) AllReadyH.nil)
        have x4 := fun o => (OD.out.below (below_alloc (o := o) (Below.refl _ _) (Nat.le_refl _))).cells.2.2.2.1
        go_simp
        refine hK.out _ _ (uX _) (fun _ => ?_)
        clear hK K
        try simp only [Act.put, List.setIfInBounds_toArray, List.set_cons_zero, List.set_cons_succ]
        refine wpAnyH_ready (rs := [8]) (by kernel_rfl) (by simp) ?_
        refine (AllReadyH.cons rfl (fun K hK => ?_) AllReadyH.nil)
        refine step_append_one rfl (.tmp 54) (.tmp 60) 27 rfl il (.slice none 0 0) 24 Try.underlying27 IL.out rfl (by simp [Act.eval, Act.put]) VD.drew (.slice (some ad') (t.os.length - 1) t.oc) rfl OWD.out (by simp [Act.eval, Act.put]) (by rw [hlen2]; simp [maxLen]; omega) (by rw [hlen2]; have := OKS.out.2.2.1; omega) HSZ.out ?_
        intro v' w7 ho7 hg7
        obtain ⟨A7, n7, c7, rfl⟩ := own_form ho7
        obtain ⟨A8, c8, hv8⟩ := Own.slice ho7
        have hlen3 : ([] ++ (s.ts.take (s.ts.length - 1)).map Thr.cell ++ [Value.slice (some ad') (t.os.length - 1) t.oc]).length = s.ts.length := by rw [List.length_append, hlen2, List.length_singleton]; omega
        rw [hlen3] at hv8
        cases hv8
        have KF := (below_drew KD.out).trans (below_grownBy hg7 (below_drew KD.out).size (fun k hk => by have := (OWD.out.lt k hk).1; omega))
        have OF : Other s W2.heap.size _ _ w7 := (hg7.block _ (block_lt OD.out) (fun e => own_apart (P := Try.prog) OWD.out OD.out (by decide) e.symm)).trans OD.out
        have uF := (HBX.out _ KF).2.2.2.1
        rw [HE.out] at uF
        refine hK.out _ _ uF (fun _ => ?_)
        clear hK K
        try simp only [Act.put, List.setIfInBounds_toArray, List.set_cons_zero, List.set_cons_succ]
        refine wpAnyH_take (i := 9) (oi := { dst := some 62, op := _, type := _, pos := _, after := _, guard := _ }) (v := .pointer (some ⟨W2.heap.size, 3, none⟩)) rfl (by kernel_rfl) (by kernel_rfl) (by kernel_rfl) (fun _ _ _ h => h) (Or.inl ⟨by rfl, fun wk hk => by have q1 := hk; go_simp⟩) uF ?_
        simp only [Act.put, List.setIfInBounds_toArray, List.set_cons_zero, List.set_cons_succ]
        refine wpAnyH_ready (rs := [10]) (by kernel_rfl) (by simp) ?_
        refine (AllReadyH.cons rfl (fun K hK => ?_) AllReadyH.nil)
        obtain ⟨y0, y1, y2, y3, y4⟩ := OF.cells
        have z3 := block_free OF 3
        have KV := Lib.hid (KF.setCell (p := ⟨W2.heap.size, 3, none⟩) hz0 (.slice A7 s.ts.length c7))
        have uG := (HBX.out _ KV.out).2.2.2.1
        rw [HE.out] at uG
        have OT := Lib.hid (OF.put3 (.slice A7 s.ts.length c7))
        have OWG := Lib.hid (Own.kept ho7 (grownBy_store w7 W2.heap.size 3 (.slice A7 s.ts.length c7)) (.inr (own_apart (P := Try.prog) ho7 OF (by decide))))
        go_simp
        refine hK.out _ _ uG (fun _ => ?_)
        clear hK K
        try simp only [Act.put, List.setIfInBounds_toArray, List.set_cons_zero, List.set_cons_succ]
        refine wpAnyH_done (by kernel_rfl) ?_ _
        have hle7 := own_le ho7
        clear y0 y1 y2 y3 y4 z3 uF uE cK uX ho7 hg7 KF OF uG x4
        generalize w7.setCell ⟨W2.heap.size, 3, none⟩ (.slice A7 s.ts.length c7) = VG at *
        obtain ⟨y0, y1, y2, y3, y4⟩ := OT.out.cells
        have hts : (s.ts.take (s.ts.length - 1) ++ [t.less]).map Thr.cell = [] ++ (s.ts.take (s.ts.length - 1)).map Thr.cell ++ [Value.slice (some ad') (t.os.length - 1) t.oc] := by rw [List.nil_append, List.map_append, ← he']; simp [Thr.cell, Thr.less, List.length_take]
        have htl : (s.ts.take (s.ts.length - 1) ++ [t.less]).length = s.ts.length := by rw [List.length_append, List.length_take, List.length_singleton]; omega
        have hq := HK.out.is (s.with A7 c7 (s.ts.take (s.ts.length - 1) ++ [t.less]) (s.ps.take (s.ps.length))) VG ((HI.out.next KV.out).with (by rw [hts]; exact OWG.out.reads) (by rw [htl]; exact hle7.1) hle7.2 (all_last (fun x hx => (HI.out.next KV.out).ti x (List.mem_of_mem_take hx)) ((HT0.out.keep fun p hp => KV.out.cell hp).more KV.out.size).less)) (FEW.out.with (by rw [htl]; have := FEW.out.t; omega) (by rw [List.length_take]; omega) (all_last (fun x hx => FEW.out.o x (List.mem_of_mem_take hx)) ⟨by show (t.os.take _).length ≤ 40; rw [List.length_take]; have := HTF.out.1; omega, fun o ho => HTF.out.2 o (List.mem_of_mem_take ho)⟩))
        rw [less2 OKS.out A7 c7 (s.ps.length) HTO.out] at hq
        have hv : (s.with A7 c7 (s.ts.take (s.ts.length - 1) ++ [t.less]) (s.ps.take (s.ps.length))).val = .agg #[.slice s.first.la s.first.ls.length s.first.lc, .slice s.first.ra s.first.rs.length s.first.rc, .slice s.first.ca s.first.cs.length s.first.cc, .slice A7 s.ts.length c7, .slice s.pa (s.ps.length) s.pc] := by show Value.agg #[_, _, _, .slice A7 (s.ts.take (s.ts.length - 1) ++ [t.less]).length c7, .slice s.pa (s.ps.take (s.ps.length)).length s.pc] = _; rw [htl, List.length_take, Nat.min_eq_left (by omega)]; rfl
        rw [hv] at hq
        clear hv hts htl hle7
        go_wp2_with fail
        refine hq.mono ?_
        rintro e VH ⟨rfl, k9⟩
        replace KV := Lib.hid (KV.out.trans (k9.mono KV.out.size))
        replace OT := Lib.hid (OT.out.below k9)
        clear hq k9 y0 y1 y2 y3 y4
        obtain ⟨y0, y1, y2, y3, y4⟩ := OT.out.cells
        have z3 := block_free OT.out 3
        have u3 := (HBX.out _ KV.out).2.2.2.1
        rw [HE.out] at u3
        have KX := Lib.hid (KV.out.setCell (p := ⟨W2.heap.size, 3, none⟩) K2.out.size (.slice (some ad) (s.ts.length - 1) s.tc))
        have OX := Lib.hid (OT.out.put3 (.slice (some ad) (s.ts.length - 1) s.tc))
        clear OT KV
        go_wp2_with fail
        generalize World.setCell _ _ _ = VX at *
        refine (written_is HK.out _).mono ?_
        rintro e W8 ⟨rfl, k8⟩
        have K8 := Lib.hid (KX.out.trans (k8.mono KX.out.size))
        obtain ⟨y0, y1, y2, y3, y4⟩ := (OX.out.below k8).cells
        have hq := HK.out.is (s.with (some ad) s.tc (s.ts.take (s.ts.length - 1)) (s.ps.take (s.ps.length))) W8 ((HI.out.next K8.out).with (by rw [List.map_take]; exact ((PT.out.below K8.out).more K8.out.size).take _) (by rw [List.length_take]; omega) (HI.out.tm) (fun t ht => (HI.out.next K8.out).ti t (List.mem_of_mem_take ht))) (FEW.out.with (by rw [List.length_take]; have := FEW.out.t; omega) (by rw [List.length_take]; omega) (fun t ht => FEW.out.o t (List.mem_of_mem_take ht)))
        rw [HL3.out] at hq
        have hv : (s.with (some ad) s.tc (s.ts.take (s.ts.length - 1)) (s.ps.take (s.ps.length))).val = .agg #[.slice s.first.la s.first.ls.length s.first.lc, .slice s.first.ra s.first.rs.length s.first.rc, .slice s.first.ca s.first.cs.length s.first.cc, .slice (some ad) (s.ts.length - 1) s.tc, .slice s.pa (s.ps.length) s.pc] := by simp [Scr.val, Scr.with, List.length_take]
        rw [hv] at hq
        clear hv k8
        go_wp2_with fail
        refine hq.mono ?_
        rintro e W9 ⟨rfl, k9⟩
        have B9 := below_next BB.out (K8.out.trans (k9.mono K8.out.size))
        have rr : (decide (1 < s.ts.length) == decide ((1 : Int) < (s.ts.length : Int))) = true := by rw [beq_iff_eq, decide_eq_decide]; omega
        clear hq k9
        go_wp2_with fail
        go_ret
        exact ⟨rfl, B9⟩
    · have t2 : decide (0 < t.os.length) = false := by rw [decide_eq_false_iff_not]; exact hm
      obtain ⟨y0, y1, y2, y3, y4⟩ := OT.out.cells
      have z3 := block_free OT.out 3
      have u3 := (HBX.out _ KV.out).2.2.2.1
      rw [HE.out] at u3
      have KX := Lib.hid (KV.out.setCell (p := ⟨W2.heap.size, 3, none⟩) K2.out.size (.slice (some ad) (s.ts.length - 1) s.tc))
      have OX := Lib.hid (OT.out.put3 (.slice (some ad) (s.ts.length - 1) s.tc))
      clear OT KV
      go_wp2_with fail
      generalize World.setCell _ _ _ = VX at *
      refine (written_is HK.out _).mono ?_
      rintro e W8 ⟨rfl, k8⟩
      have K8 := Lib.hid (KX.out.trans (k8.mono KX.out.size))
      obtain ⟨y0, y1, y2, y3, y4⟩ := (OX.out.below k8).cells
      have hq := HK.out.is (s.with (some ad) s.tc (s.ts.take (s.ts.length - 1)) (s.ps.take (s.ps.length))) W8 ((HI.out.next K8.out).with (by rw [List.map_take]; exact ((PT.out.below K8.out).more K8.out.size).take _) (by rw [List.length_take]; omega) (HI.out.tm) (fun t ht => (HI.out.next K8.out).ti t (List.mem_of_mem_take ht))) (FEW.out.with (by rw [List.length_take]; have := FEW.out.t; omega) (by rw [List.length_take]; omega) (fun t ht => FEW.out.o t (List.mem_of_mem_take ht)))
      rw [HL3.out] at hq
      have hv : (s.with (some ad) s.tc (s.ts.take (s.ts.length - 1)) (s.ps.take (s.ps.length))).val = .agg #[.slice s.first.la s.first.ls.length s.first.lc, .slice s.first.ra s.first.rs.length s.first.rc, .slice s.first.ca s.first.cs.length s.first.cc, .slice (some ad) (s.ts.length - 1) s.tc, .slice s.pa (s.ps.length) s.pc] := by simp [Scr.val, Scr.with, List.length_take]
      rw [hv] at hq
      clear hv k8
      go_wp2_with fail
      refine hq.mono ?_
      rintro e W9 ⟨rfl, k9⟩
      have B9 := below_next BB.out (K8.out.trans (k9.mono K8.out.size))
      have rr : (decide (1 < s.ts.length) == decide ((1 : Int) < (s.ts.length : Int))) = true := by rw [beq_iff_eq, decide_eq_decide]; omega
      clear hq k9
      go_wp2_with fail
      go_ret
      exact ⟨rfl, B9⟩
end Go.Proofs.Ytmjdamcbdclgpaa
