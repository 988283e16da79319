/- The landed calls.go: which of two effects goes first; the effects of a row of calls, and their order. -/
import Derived.Test.YtglnofdncglmnaaEord
import Derived.Test.YtglnofdncglmnaaOwnN
import Derived.Test.YtglnofdncglmnaaEwlay
import Derived.Test.YtglnofdncglmnaaEload
import Derived.Deep.RegionHeld3
import Derived.ArgAppend
namespace Go.Proofs.Ytglnofdncglmnaa
open Go.RowKit
set_option linter.unusedVariables false
set_option linter.unusedSimpArgs false
set_option maxRecDepth 100000

def cfE (x y : Int × Nat) : Int := if Lib.compareInt x.1 y.1 = 0 then Lib.compareInt (x.2 : Int) (y.2 : Int) else Lib.compareInt x.1 y.1
theorem ltE (x y : Int × Nat) : ltOf cfE x y = decide (x.1 < y.1 ∨ (x.1 = y.1 ∧ x.2 < y.2)) := by
  unfold ltOf cfE Lib.compareInt
  rw [decide_eq_decide]
  by_cases h1 : x.1 < y.1
  · simp [h1]
  · by_cases h2 : x.1 > y.1
    · simp [h1, h2]
      omega
    · have h3 : x.1 = y.1 := by omega
      simp only [h3, Int.lt_irrefl, gt_iff_lt, if_false, if_true, false_or, true_and]
      by_cases h4 : (x.2 : Int) < (y.2 : Int)
      · rw [if_pos h4]; omega
      · rw [if_neg h4]; split <;> omega
theorem swoE : Sort.SWO (ltOf cfE) where
  irrefl x := by rw [ltE, decide_eq_false_iff_not]; omega
  trans x y z h1 h2 := by rw [ltE, decide_eq_true_eq] at *; omega
  ntrans x y z h1 h2 := by rw [ltE, decide_eq_false_iff_not] at *; omega
theorem partE (x y : Int × Nat) (h1 : ltOf cfE x y = false) (h2 : ltOf cfE y x = false) : x = y := by
  rw [ltE, decide_eq_false_iff_not] at *
  exact Prod.ext (by omega) (by omega)

/-- The effects of the first k calls. -/
def effTo (l : List Cal) : Nat → List (Int × Nat)
  | 0 => []
  | k + 1 => if ptAt l k = -1 then effTo l k else effTo l k ++ [(ptAt l k, k)]
theorem eff_len {l : List Cal} {k : Nat} : (effTo l k).length ≤ k := by
  induction k with
  | zero => exact Nat.le_refl _
  | succ k ih =>
    rw [effTo]
    split
    · omega
    · rw [List.length_append, List.length_singleton]; omega
theorem ins_perm {l : List Cal} {i : Nat} {r : List Nat} : (insI l i r).Perm (i :: r) := by
  induction r with
  | nil => exact List.Perm.refl _
  | cons k r ih =>
    rw [insI]
    split
    · exact List.Perm.refl _
    · exact (ih.cons k).trans (List.Perm.swap i k r)
theorem eff_perm {l : List Cal} {k : Nat} : (effTo l k).Perm ((ordTo l k).map fun i => (ptAt l i, i)) := by
  induction k with
  | zero => exact List.Perm.refl _
  | succ k ih =>
    rw [effTo, ordTo]
    split
    · exact ih
    · exact (List.perm_append_comm.trans (ih.cons _)).trans ((ins_perm.map _).symm)
def lexP (l : List Cal) (i j : Nat) : Prop := ptAt l i < ptAt l j ∨ (ptAt l i = ptAt l j ∧ i < j)
theorem ins_lex {l : List Cal} {i : Nat} {r : List Nat} (h : r.Pairwise (lexP l)) (hi : ∀ x ∈ r, x < i) : (insI l i r).Pairwise (lexP l) := by
  induction r with
  | nil => simp [insI]
  | cons k r ih =>
    rw [List.pairwise_cons] at h
    rw [insI]
    split
    · rename_i hlt
      rw [List.pairwise_cons]
      refine ⟨fun x hx => ?_, List.pairwise_cons.2 h⟩
      rcases List.mem_cons.1 hx with rfl | hx
      · exact .inl hlt
      · have := h.1 x hx
        unfold lexP at *
        omega
    · rename_i hge
      rw [List.pairwise_cons]
      refine ⟨fun x hx => ?_, ih h.2 fun x hx => hi x (List.mem_cons_of_mem _ hx)⟩
      rcases ins_mem.1 hx with rfl | hx
      · have := hi k (List.mem_cons_self ..)
        unfold lexP
        omega
      · exact h.1 x hx
theorem ord_lex {l : List Cal} {k : Nat} : (ordTo l k).Pairwise (lexP l) := by
  induction k with
  | zero => exact List.Pairwise.nil
  | succ k ih =>
    rw [ordTo]
    split
    · exact ih
    · exact ins_lex ih fun x hx => (ord_mem.1 hx).1
theorem eff_sorted (l : List Cal) (k : Nat) : ((effTo l k).mergeSort fun x y => !(ltOf cfE) y x) = (ordTo l k).map fun i => (ptAt l i, i) := by
  refine List.Perm.eq_of_pairwise (le := fun a b => (!(ltOf cfE) b a) = true) (fun a b _ _ h1 h2 => ?_) (List.pairwise_mergeSort (fun a b c h1 h2 => ?_) (fun a b => ?_) _) ?_ ((List.mergeSort_perm _ _).trans eff_perm)
  · rw [Bool.not_eq_true'] at h1 h2
    exact partE a b h2 h1
  · rw [Bool.not_eq_true'] at h1 h2 ⊢
    exact swoE.ntrans c b a h2 h1
  · rw [Bool.or_eq_true, Bool.not_eq_true', Bool.not_eq_true', ltE, ltE, decide_eq_false_iff_not, decide_eq_false_iff_not]
    omega
  · rw [List.pairwise_map]
    refine ord_lex.imp fun {a b} h => ?_
    unfold lexP at h
    rw [Bool.not_eq_true', ltE, decide_eq_false_iff_not]
    simp only
    omega

theorem compare_is (x y : Int) (w : World) : Calls Try.prog 29 #[.int .i64 x, .int .i64 y] w fun e w' => e = .returned (.int .i64 (Lib.compareInt x y)) ∧ w' = w := AnyG.cmp_Compare_int Try.cmpInt x y w
set_option maxHeartbeats 1000000 in
theorem or_is (a b : Int) (n : Nat) (w : World) (h0 : w.cell? ⟨n, 0, none⟩ = some (.int .i64 a)) (h1 : w.cell? ⟨n, 1, none⟩ = some (.int .i64 b)) : Calls Try.prog 28 #[.slice (some ⟨n, 0, none⟩) 2 2] w fun e w' => e = .returned (.int .i64 (if a = 0 then b else a)) ∧ w' = w := by
  obtain ⟨q, hq⟩ : ∃ q, (if a = 0 then b else a) = q := ⟨_, rfl⟩
  rw [hq]
  have HQ := Lib.hid hq
  clear hq
  go_enter Try.func28, Try.ntmps28
  go_wp2_with fail
  go_loopg [5, 8] 2 (fun g v i wr => ∃ k : Nat, k ≤ 2 ∧ g = 2 - k ∧ i = .int .i64 k ∧ (0 < k → a = 0) ∧ (1 < k → b = 0) ∧ wr = w)
  case atStart => exact ⟨0, by omega, rfl, rfl, fun h => by omega, fun h => by omega, rfl⟩
  case round =>
    obtain ⟨k, hk, rfl, rfl, ha, hb, rfl⟩ := hrel
    rcases (by omega : k = 0 ∨ k = 1 ∨ k = 2) with rfl | rfl | rfl
    · by_cases h : a = 0
      · have t0 : (a != 0) = false := by simp [h]
        have t1 : (a == 0) = true := by simp [h]
        go_wp2_with fail
        go_roundg 1
        case measure => omega
        case rel => exact ⟨1, by omega, rfl, by go_num, fun _ => h, fun h => by omega, rfl⟩
      · have t0 : (a != 0) = true := by simp [h]
        have t1 : (a == 0) = false := by simp [h]
        go_wp2_with fail
        go_ret
        exact ⟨by rw [← HQ.out, if_neg h]; rfl, rfl⟩
    · have hq := HQ.out
      rw [if_pos (ha (by omega))] at hq
      have HB := Lib.hid hq
      clear hq
      by_cases h : b = 0
      · have t0 : (b != 0) = false := by simp [h]
        have t1 : (b == 0) = true := by simp [h]
        go_wp2_with fail
        go_roundg 0
        case measure => omega
        case rel => exact ⟨2, by omega, rfl, by go_num, fun _ => ha (by omega), fun _ => h, rfl⟩
      · have t0 : (b != 0) = true := by simp [h]
        have t1 : (b == 0) = false := by simp [h]
        go_wp2_with fail
        go_ret
        exact ⟨by rw [HB.out]; rfl, rfl⟩
    · have HB : Hid (q = 0) := Lib.hid (by rw [← HQ.out, if_pos (ha (by omega)), hb (by omega)])
      clear ha hb
      go_wp2_with fail
      go_ret
      exact ⟨by rw [HB.out]; rfl, rfl⟩
def encE (x : Int × Nat) : List Value := [.int .i64 x.1, .int .i64 (x.2 : Int)]
set_option maxHeartbeats 4000000 in
theorem against_is (x y : Int × Nat) (W : World) : Calls Try.prog 23 #[.agg #[.int .i64 x.1, .int .i64 (x.2 : Int)], .agg #[.int .i64 y.1, .int .i64 (y.2 : Int)]] W fun e w' => e = .returned (.int .i64 (cfE x y)) ∧ ∃ q os', w' = Sort.grow (W.drewN q) os' := by
  obtain ⟨a, i⟩ := x
  obtain ⟨b, j⟩ := y
  obtain ⟨W1, hW1⟩ : ∃ W1, (W.alloc (.cells #[.int .i64 a, .int .i64 (i : Int)] 54)).alloc (.cells #[.int .i64 b, .int .i64 (j : Int)] 54) = W1 := ⟨_, rfl⟩
  obtain ⟨p, hp⟩ : ∃ p, W.heap.size = p := ⟨_, rfl⟩
  have hz : W1.heap.size = p + 2 := by rw [← hW1, ← hp]; simp
  have b0 : W1.heap[p]? = some (.cells #[.int .i64 a, .int .i64 (i : Int)] 54 (0, 0)) := by rw [← hW1, ← hp, (MapKept.heap_alloc _ _).2 _ (by simp)]; exact heap_alloc_last W _
  have b1 : W1.heap[p + 1]? = some (.cells #[.int .i64 b, .int .i64 (j : Int)] 54 (0, 0)) := by
    have h := heap_alloc_last (W.alloc (.cells #[.int .i64 a, .int .i64 (i : Int)] 54)) (.cells #[.int .i64 b, .int .i64 (j : Int)] 54)
    rw [World.size_alloc, hp, hW1] at h
    exact h
  have HW1 := Lib.hid hW1
  have HP := Lib.hid hp
  clear hW1 hp
  have hc1 := fun w => compare_is a b w
  have hc2 := fun w => compare_is (i : Int) (j : Int) w
  have HCF : Hid ((if Lib.compareInt a b = 0 then Lib.compareInt (i : Int) (j : Int) else Lib.compareInt a b) = cfE (a, i) (b, j)) := Lib.hid rfl
  simp only
  generalize cfE (a, i) (b, j) = res at HCF ⊢
  generalize Lib.compareInt a b = c1 at HCF hc1
  generalize Lib.compareInt (i : Int) (j : Int) = c2 at HCF hc2
  go_enter Try.func23, Try.ntmps23
  go_wp2_with fail
  rw [HW1.out, HP.out]
  have cK : W1.drew.cell? ⟨p, 0, none⟩ = some (.int .i64 a) ∧ W1.drew.cell? ⟨p + 1, 0, none⟩ = some (.int .i64 b) ∧ W1.drew.cell? ⟨p, 1, none⟩ = some (.int .i64 (i : Int)) ∧ W1.drew.cell? ⟨p + 1, 1, none⟩ = some (.int .i64 (j : Int)) := ⟨by rw [block_cell (w := W1.drew) b0]; rfl, by rw [block_cell (w := W1.drew) b1]; rfl, by rw [block_cell (w := W1.drew) b0]; rfl, by rw [block_cell (w := W1.drew) b1]; rfl⟩
  have hz2 : W1.drew.heap.size = p + 2 := hz
  refine wp_region_held_drew (S := fun wk => wk.cell? ⟨p, 0, none⟩ = some (.int .i64 a) ∧ wk.cell? ⟨p + 1, 0, none⟩ = some (.int .i64 b) ∧ wk.cell? ⟨p, 1, none⟩ = some (.int .i64 (i : Int)) ∧ wk.cell? ⟨p + 1, 1, none⟩ = some (.int .i64 (j : Int))) (by kernel_rfl) cK (fun _ => ?_)
  try simp only [Act.put, List.setIfInBounds_toArray, List.set_cons_zero, List.set_cons_succ]
  obtain ⟨W2, hW2⟩ : ∃ W2, W1.drew = W2 := ⟨_, rfl⟩
  rw [hW2] at cK hz2 ⊢
  have HW2 := Lib.hid hW2
  clear hW2 b0 b1
  refine wpAnyH_take (i := 0) (oi := { dst := some 5, op := _, type := _, pos := _, after := _, guard := _ }) (v := .pointer (some ⟨p, 0, none⟩)) rfl (by kernel_rfl) (by kernel_rfl) (by kernel_rfl) (fun _ _ _ h => h) (Or.inl ⟨by rfl, fun wk hk => by obtain ⟨a0, a1, a2, a3⟩ := hk; go_simp⟩) cK ?_
  simp only [Act.put, List.setIfInBounds_toArray, List.set_cons_zero, List.set_cons_succ]
  refine wpAnyH_take (i := 1) (oi := { dst := some 6, op := _, type := _, pos := _, after := _, guard := _ }) (v := .int .i64 a) rfl (by kernel_rfl) (by kernel_rfl) (by kernel_rfl) (fun _ _ _ h => h) (Or.inl ⟨by rfl, fun wk hk => by obtain ⟨a0, a1, a2, a3⟩ := hk; go_simp⟩) cK ?_
  simp only [Act.put, List.setIfInBounds_toArray, List.set_cons_zero, List.set_cons_succ]
  refine wpAnyH_take (i := 2) (oi := { dst := some 7, op := _, type := _, pos := _, after := _, guard := _ }) (v := .pointer (some ⟨p + 1, 0, none⟩)) rfl (by kernel_rfl) (by kernel_rfl) (by kernel_rfl) (fun _ _ _ h => h) (Or.inl ⟨by rfl, fun wk hk => by obtain ⟨a0, a1, a2, a3⟩ := hk; go_simp⟩) cK ?_
  simp only [Act.put, List.setIfInBounds_toArray, List.set_cons_zero, List.set_cons_succ]
  refine wpAnyH_take (i := 3) (oi := { dst := some 8, op := _, type := _, pos := _, after := _, guard := _ }) (v := .int .i64 b) rfl (by kernel_rfl) (by kernel_rfl) (by kernel_rfl) (fun _ _ _ h => h) (Or.inl ⟨by rfl, fun wk hk => by obtain ⟨a0, a1, a2, a3⟩ := hk; go_simp⟩) cK ?_
  simp only [Act.put, List.setIfInBounds_toArray, List.set_cons_zero, List.set_cons_succ]
  refine wpAnyH_take (i := 5) (oi := { dst := some 10, op := _, type := _, pos := _, after := _, guard := _ }) (v := .pointer (some ⟨p, 1, none⟩)) rfl (by kernel_rfl) (by kernel_rfl) (by kernel_rfl) (fun _ _ _ h => h) (Or.inl ⟨by rfl, fun wk hk => by obtain ⟨a0, a1, a2, a3⟩ := hk; go_simp⟩) cK ?_
  simp only [Act.put, List.setIfInBounds_toArray, List.set_cons_zero, List.set_cons_succ]
  refine wpAnyH_take (i := 6) (oi := { dst := some 11, op := _, type := _, pos := _, after := _, guard := _ }) (v := .int .i64 (i : Int)) rfl (by kernel_rfl) (by kernel_rfl) (by kernel_rfl) (fun _ _ _ h => h) (Or.inl ⟨by rfl, fun wk hk => by obtain ⟨a0, a1, a2, a3⟩ := hk; go_simp⟩) cK ?_
  simp only [Act.put, List.setIfInBounds_toArray, List.set_cons_zero, List.set_cons_succ]
  refine wpAnyH_take (i := 7) (oi := { dst := some 12, op := _, type := _, pos := _, after := _, guard := _ }) (v := .pointer (some ⟨p + 1, 1, none⟩)) rfl (by kernel_rfl) (by kernel_rfl) (by kernel_rfl) (fun _ _ _ h => h) (Or.inl ⟨by rfl, fun wk hk => by obtain ⟨a0, a1, a2, a3⟩ := hk; go_simp⟩) cK ?_
  simp only [Act.put, List.setIfInBounds_toArray, List.set_cons_zero, List.set_cons_succ]
  refine wpAnyH_take (i := 8) (oi := { dst := some 13, op := _, type := _, pos := _, after := _, guard := _ }) (v := .int .i64 (j : Int)) rfl (by kernel_rfl) (by kernel_rfl) (by kernel_rfl) (fun _ _ _ h => h) (Or.inl ⟨by rfl, fun wk hk => by obtain ⟨a0, a1, a2, a3⟩ := hk; go_simp⟩) cK ?_
  simp only [Act.put, List.setIfInBounds_toArray, List.set_cons_zero, List.set_cons_succ]
  refine wpAnyH_ready (rs := [4]) (by kernel_rfl) (by simp) ?_
  refine (AllReadyH.cons (o := { dst := some 9, op := _, type := _, pos := _, after := _, guard := _ }) rfl (fun K hK => ?_) AllReadyH.nil)
  go_simp
  refine (hc1 _).mono ?_
  rintro e w' ⟨rfl, rfl⟩
  refine hK.out _ _ cK (fun _ => ?_)
  clear hK K
  try simp only [Act.put, List.setIfInBounds_toArray, List.set_cons_zero, List.set_cons_succ]
  refine wpAnyH_ready (rs := [9]) (by kernel_rfl) (by simp) ?_
  refine (AllReadyH.cons (o := { dst := some 14, op := _, type := _, pos := _, after := _, guard := _ }) rfl (fun K hK => ?_) AllReadyH.nil)
  go_simp
  refine (hc2 _).mono ?_
  rintro e w' ⟨rfl, rfl⟩
  refine hK.out _ _ cK (fun _ => ?_)
  clear hK K
  try simp only [Act.put, List.setIfInBounds_toArray, List.set_cons_zero, List.set_cons_succ]
  clear hc1 hc2
  obtain ⟨W2, hh⟩ : ∃ W2, W2 = w' := ⟨_, rfl⟩
  subst hh
  obtain ⟨W3, hW3⟩ : ∃ W3, W2.alloc (.cells #[.int .i64 c1, .int .i64 c2] 3) = W3 := ⟨_, rfl⟩
  have g3 := World.grownBy_alloc W2 (.cells #[.int .i64 c1, .int .i64 c2] 3) none
  rw [hW3] at g3
  have cK3 := (fun h0 => (⟨(World.cell?_of_block (g3.block p (by omega) (by simp))).trans h0.1, (World.cell?_of_block (g3.block (p + 1) (by omega) (by simp))).trans h0.2.1, (World.cell?_of_block (g3.block p (by omega) (by simp))).trans h0.2.2.1, (World.cell?_of_block (g3.block (p + 1) (by omega) (by simp))).trans h0.2.2.2⟩ : _ ∧ _ ∧ _ ∧ _)) cK
  have hb3 : W3.heap[W2.heap.size]? = some (.cells #[.int .i64 c1, .int .i64 c2] 3 (0, 0)) := by rw [← hW3]; exact heap_alloc_last W2 _
  rw [hz2] at hb3
  have hor := or_is c1 c2 (p + 2) W3 (by rw [block_cell hb3]; rfl) (by rw [block_cell hb3]; rfl)
  rw [HCF.out] at hor
  refine wpAnyH_ready (rs := [10]) (by kernel_rfl) (by simp) ?_
  refine (AllReadyH.cons (o := { dst := some 15, op := _, type := _, pos := _, after := _, guard := _ }) rfl (fun K hK => ?_) AllReadyH.nil)
  go_simp
  try rw [hW3]
  refine hK.out _ _ cK3 (fun _ => ?_)
  clear hK K
  try simp only [Act.put, List.setIfInBounds_toArray, List.set_cons_zero, List.set_cons_succ]
  refine wpAnyH_ready (rs := [11]) (by kernel_rfl) (by simp) ?_
  refine (AllReadyH.cons (o := { dst := some 16, op := _, type := _, pos := _, after := _, guard := _ }) rfl (fun K hK => ?_) AllReadyH.nil)
  go_simp
  refine hor.mono ?_
  rintro e w' ⟨rfl, rfl⟩
  refine hK.out _ _ cK3 (fun _ => ?_)
  clear hK K
  try simp only [Act.put, List.setIfInBounds_toArray, List.set_cons_zero, List.set_cons_succ]
  clear hor
  refine wpAnyH_take (i := 12) (oi := { dst := some 4, op := _, type := _, pos := _, after := _, guard := _ }) (v := .int .i64 res) rfl (by kernel_rfl) (by kernel_rfl) (by kernel_rfl) (fun _ _ _ h => h) (Or.inl ⟨by rfl, fun wk hk => by obtain ⟨a0, a1, a2, a3⟩ := hk; go_simp⟩) cK3 ?_
  simp only [Act.put, List.setIfInBounds_toArray, List.set_cons_zero, List.set_cons_succ]
  refine wpAnyH_done (by kernel_rfl) ?_ _
  have HW3 := Lib.hid hW3
  clear hW3 hb3 g3 cK3 cK
  go_wp2_with fail
  go_ret
  refine ⟨rfl, 1, #[.cells #[.int .i64 a, .int .i64 (i : Int)] 54, .cells #[.int .i64 b, .int .i64 (j : Int)] 54, .cells #[.int .i64 c1, .int .i64 c2] 3], ?_⟩
  rw [← HW3.out, ← HW2.out, ← HW1.out, Sort.alloc_eq_grow, Sort.alloc_eq_grow, Sort.alloc_eq_grow, Sort.grow_grow, Sort.drew_grow, Sort.grow_grow]
  rfl
end Go.Proofs.Ytglnofdncglmnaa
