/- The landed calls.go: Of. -/
import Derived.Test.YtglnofdncglmnaaEwtak
import Derived.Test.YtglnofdncglmnaaEwords
namespace Go.Proofs.Ytglnofdncglmnaa
open Go.RowKit
set_option linter.unusedVariables false
set_option linter.unusedSimpArgs false
set_option maxRecDepth 100000

theorem RdIn.told {m l r : Nat} {w W : World} {v : Value} {out : List Cal} (h : RdIn m l r W v out) (hb : Below w.heap.size w W) : Told10 w (some out) (.returned (.tuple #[v, .int .i64 0])) W := by
  obtain ⟨A, cap, rfl, h1, h2⟩ := h.row.slice
  have h3 := h.row.rows
  rw [List.length_map] at h1 ⊢
  exact ⟨hb, A, cap, rfl, h3, h1, h2⟩
theorem told_no {w W : World} (hb : Below w.heap.size w W) : Told10 w none (.returned (.tuple #[.slice none 0 0, .int .i64 11])) W := ⟨hb, none, 0, rfl, fun hn => absurd hn (by simp), by simp, by simp [maxLen]⟩

set_option maxHeartbeats 8000000 in
theorem of_is (A : Option Addr) (c : Nat) (l : List Ev) (w : World) (hin : EvsIn w A c l) (hl : l.length * 168 ≤ 140737488351232) :
    Calls Try.prog 8 #[.slice A l.length c] w (Told10 w (ofL l)) := by
  have hmm := @run_makeMap Try.prog
  obtain ⟨W1, hW1⟩ : ∃ W1, ((w.alloc (.map #[] 0)).alloc (.map #[] 0)).alloc (.cells #[.slice none 0 0, .map (some w.heap.size), .map (some (w.heap.size + 1))] 47) = W1 := ⟨_, rfl⟩
  obtain ⟨r, hr⟩ : ∃ r, w.heap.size + 1 + 1 = r := ⟨_, rfl⟩
  have hbx : W1.heap[r]? = some (.cells #[.slice none 0 0, .map (some w.heap.size), .map (some (w.heap.size + 1))] 47 (0, 0)) := by
    have h := heap_alloc_last ((w.alloc (.map #[] 0)).alloc (.map #[] 0)) (.cells #[.slice none 0 0, .map (some w.heap.size), .map (some (w.heap.size + 1))] 47)
    rw [World.size_alloc, World.size_alloc, hr, hW1] at h
    exact h
  have hkm : KeyIn W1 w.heap.size [] := by rw [← hW1]; exact ((KeyIn.made w).kept (World.grownBy_alloc _ _ none) (by simp)).kept (World.grownBy_alloc _ _ none) (by simp)
  have hlm : LastIn W1 (w.heap.size + 1) [] := by
    rw [← hW1]
    have h := (LastIn.made (w.alloc (.map #[] 0))).kept (World.grownBy_alloc _ (.cells #[.slice none 0 0, .map (some w.heap.size), .map (some (w.heap.size + 1))] 47) none) (by simp)
    rw [World.size_alloc] at h
    exact h
  have hR : RdIn w.heap.size (w.heap.size + 1) r W1 (.slice none 0 0) [] := ⟨hbx, OwnN.nil, hkm, hlm, by omega, by omega, by omega⟩
  have hB : Below w.heap.size w W1 := by rw [← hW1]; exact below_alloc (below_alloc (below_alloc (Below.refl _ _) (by omega)) (by simp)) (by simp <;> omega)
  have HR := Lib.hid hR
  have HB := Lib.hid hB
  have HIN := Lib.hid hin
  have HW1 := Lib.hid hW1
  have HRR := Lib.hid hr
  clear hbx hkm hlm hR hB hin hW1
  go_enter Try.func8, Try.ntmps8
  go_upto_region 2 with fail
  rw [HW1.out]
  go_wp2_with fail
  go_loopg [5, 12] l.length (fun g i kk wr => ∃ k : Nat, k ≤ l.length ∧ g = l.length - k ∧ kk = .int .i64 k ∧ ∃ cl v, ofTo l k = some cl ∧ cl.length ≤ k ∧ RdIn w.heap.size (w.heap.size + 1) r wr v cl ∧ Below w.heap.size w wr)
  case atStart => exact ⟨0, Nat.zero_le _, rfl, rfl, [], _, rfl, Nat.le_refl _, HR.out, HB.out⟩
  case round =>
    clear HR HB HW1
    obtain ⟨k, hk, rfl, rfl, cl, v, hcl, hck, hR, hB⟩ := hrel
    by_cases hlt : k < l.length
    · have hnx := ofTo_next hcl hlt
      obtain ⟨ad, rfl, hadb, hli⟩ := HIN.out.ev hlt
      have hli := hli.below (by rw [block_of_add]; exact hadb) hB
      have hwf := HIN.out.v _ (List.getElem_mem hlt)
      obtain ⟨x, hx⟩ : ∃ x, l[k] = x := ⟨_, rfl⟩
      rw [hx] at hli hnx hwf
      have HNX := Lib.hid hnx
      have HLD : Hid ((Instr.loadAt 43 (.pointer (some (ad.add (k * 23))))).run Try.prog wr = .ok (.agg x.cells.toArray) wr) := Lib.hid (run_load_list _ _ x.cells (by rw [Try.isAgg43]) (by rw [Try.sizeOf43]; rfl) hli)
      obtain ⟨W2, hW2⟩ : ∃ W2, wr.alloc (.cells x.cells.toArray 43) = W2 := ⟨_, rfl⟩
      have HST : Hid ((Instr.storeAt 43 (.pointer (some ⟨wr.heap.size, 0, none⟩)) (.agg x.cells.toArray)).run Try.prog (wr.alloc (.cells #[.int .i64 0, .int .i64 0, .int .i64 0, .int .i64 0, .int .i64 0, .bool false, .int .i64 0, .bool false, .bool false, .bool false, .int .i64 0, .int .i64 0, .int .i64 0, .int .i64 0, .int .i64 0, .int .i64 0, .int .i64 0, .int .u64 0, .int .u64 0, .int .u64 0, .int .u64 0, .int .u64 0, .int .u64 0] 43)) = .ok () W2) := Lib.hid ((run_store_new wr 43 _ x.cells.toArray (show (Try.prog.info? 43).map (·.size) = some 23 by kernel_rfl) (by rfl) (by simp [Ev.cells, An.cells, Value.oneCell'])).trans (by rw [hW2]))
      have hbox : BoxAt 43 W2 wr.heap.size x.cells := by rw [← hW2]; exact heap_alloc_last wr _
      have HL2 : Hid ((Instr.loadAt 43 (.pointer (some ⟨wr.heap.size, 0, none⟩))).run Try.prog W2 = .ok (.agg x.cells.toArray) W2) := Lib.hid (run_load_list _ _ x.cells (by rw [Try.isAgg43]) (by rw [Try.sizeOf43]; rfl) hbox.lies)
      have hR2 : RdIn w.heap.size (w.heap.size + 1) r W2 v cl := hW2 ▸ hR.alloc _
      have HB2 : Hid (Below w.heap.size w W2) := Lib.hid (by rw [← hW2]; exact below_alloc hB (by have := hR.size; omega))
      have htk := take_is w.heap.size (w.heap.size + 1) r k W2 v x cl hR2 (inv_of (by omega) hcl) hwf (by omega) (by omega)
      have HSZ := Lib.hid hR2.size
      clear hli hnx hwf hx hbox hR hR2 hB hcl hW2
      go_wp2_with (first | (refine wpList_load rfl (.tmp 15) 43 rfl _ _ _ rfl HLD.out ?_) | (refine wpList_load rfl (.tmp 6) 43 rfl _ _ _ rfl HL2.out ?_) | (refine wpList_store rfl (.tmp 6) (.tmp 16) 43 rfl _ W2 (.pointer (some ⟨wr.heap.size, 0, none⟩)) (.agg x.cells.toArray) rfl rfl HST.out ?_))
      refine htk.mono ?_
      rintro e W3 ⟨h3, hb3⟩
      clear htk
      have HB3 : Hid (Below w.heap.size w W3) := Lib.hid (HB2.out.trans (hb3.mono (by omega)))
      rcases hs : ofStep cl k x with _ | cl'
      · rw [hs] at h3
        simp only at h3
        subst h3
        have HF : Hid (ofL l = none) := Lib.hid (of_stop hlt (by rw [HNX.out, hs]))
        clear hb3 hs
        go_wp2_with fail
        go_ret2
        rw [HF.out]
        exact told_no HB3.out
      · rw [hs] at h3
        simp only at h3
        obtain ⟨rfl, v', h3⟩ := h3
        have HR3 := Lib.hid h3
        have HS : Hid (ofTo l (k + 1) = some cl') := Lib.hid (by rw [HNX.out, hs])
        have HLE : Hid (cl'.length ≤ k + 1) := Lib.hid (by rcases step_cases hs with ⟨_, _, _, rfl⟩ | ⟨_, q, c, _, _, _, _, _, rfl⟩ <;> simp <;> omega)
        clear hb3 hs h3
        go_wp2_with fail
        go_roundg (l.length - (k + 1))
        case measure => omega
        case rel => exact ⟨k + 1, by omega, rfl, by go_num, cl', v', HS.out, HLE.out, HR3.out, HB3.out⟩
    · obtain rfl : k = l.length := by omega
      have HF : Hid (ofL l = some cl) := Lib.hid hcl
      have HT : Hid (Told10 w (some cl) (.returned (.tuple #[v, .int .i64 0])) wr) := Lib.hid (hR.told hB)
      have c0 := hR.cells.1
      clear hR hB hcl
      go_wp2_with fail
      go_ret2
      rw [HF.out]
      exact HT.out
end Go.Proofs.Ytglnofdncglmnaa
