/- The walk of RoutesIdle. -/
import Derived.Test.YtnjacobimndnbaaRfour
namespace Go.Proofs.Ytnjacobimndnbaa
open Go.RowKit
set_option linter.unusedVariables false
set_option linter.unusedSimpArgs false
set_option maxRecDepth 100000

theorem Rows4.drop {w : World} {B c : Nat} {A : Option Addr} {rs : List (List Value)} (h : Rows4 w B A rs) (hc : rs.length ≤ c) (k : Nat) : Rows4 w B (if c = k then A else Option.map (fun x => x.add (k * 4)) A) (rs.drop k) := fun hn => by
  rw [List.length_drop] at hn
  obtain ⟨ad, rfl, hb, hcell⟩ := h (by omega)
  rw [if_neg (by omega)]
  refine ⟨ad.add (k * 4), rfl, by rw [block_of_add]; exact hb, fun i r hr j v hv => ?_⟩
  rw [List.getElem?_drop] at hr
  have := hcell (k + i) r hr j v hv
  rwa [Addr.add_add, show k * 4 + (i * 4 + j) = (k + i) * 4 + j by omega]

theorem idle_three {l : List Rl} {f : Rl → Bool} {r : Rl} {k : Nat} (hk : k ≤ l.length) (hr : f r = false) :
    (numO (bestO l f) = 0 ∧ errO (bestO l f) = 5 ∧ numO (bestO (ins l k r) f) = 0 ∧ errO (bestO (ins l k r) f) = 5) ∨
    (∃ x : Nat, x < l.length ∧ x < k ∧ numO (bestO l f) = x ∧ errO (bestO l f) = 0 ∧ numO (bestO (ins l k r) f) = x ∧ errO (bestO (ins l k r) f) = 0) ∨
    (∃ x : Nat, x < l.length ∧ k ≤ x ∧ numO (bestO l f) = x ∧ errO (bestO l f) = 0 ∧ numO (bestO (ins l k r) f) = (x : Int) + 1 ∧ errO (bestO (ins l k r) f) = 0) := by
  rcases ins_idle hk hr with ⟨h0, h1⟩ | ⟨x, hx, ⟨h1, h2⟩ | ⟨h1, h2⟩⟩
  · exact .inl ⟨by rw [h0]; rfl, by rw [h0]; rfl, by rw [h1]; rfl, by rw [h1]; rfl⟩
  · exact .inr (.inl ⟨x, hx.lt, h1, hx.num, hx.err, h2.num, h2.err⟩)
  · exact .inr (.inr ⟨x, hx.lt, h1, hx.num, hx.err, by rw [h2.num]; omega, h2.err⟩)
theorem short_ins {l : List Rl} {r : Rl} {k : Nat} (h : Short l) (h1 : r.host.size ≤ 2000) (h2 : r.path.size ≤ 2000) : Short (ins l k r) := fun x hx => by
  unfold ins at hx
  rcases List.mem_append.1 hx with hx | hx
  · rcases List.mem_append.1 hx with hx | hx
    · exact h x (List.mem_of_mem_take hx)
    · simp at hx; subst hx; exact ⟨h1, h2⟩
  · exact h x (List.mem_of_mem_drop hx)

set_option maxHeartbeats 8000000 in
theorem routesIdle_walk (A : Option Addr) (c : Nat) (l : List Rl) (n : Int) (h p : ByteArray) (r : Rl) (i : Int) (w : World) (hin : RulesIn w w.heap.size A c l) (wf : (Lit.int .i64 n).wf = true) (hs : h.size ≤ maxLen) (ps : p.size ≤ maxLen) (wi : (Lit.int .i64 i).wf = true) :
    Calls Try.prog 5 #[.slice A l.length c, .int .i64 n, .string h, .string p, r.val, .int .i64 i] w fun e w' => e = .returned (.bool true) ∧ Below w.heap.size w w' := by
  obtain ⟨ir, hir, hr0, hr1, hr2⟩ := info_parts rule_info
  have IR := Lib.hid (⟨hir, hr0, hr1, hr2⟩ : _ ∧ _ ∧ _ ∧ _)
  clear hir hr0 hr1 hr2 wf wi
  obtain ⟨wb, hwb⟩ : ∃ wb, w.alloc (.cells #[.int .i64 r.listen, .string r.host, .string r.path, .int .i64 r.cluster] 31) = wb := ⟨_, rfl⟩
  have hB0 : Below w.heap.size w wb := by rw [← hwb]; exact boxed w _
  have hX : Box4 wb w.heap.size r := by rw [← hwb]; exact Box4.new w r
  have BX := Lib.hid hB0
  have XX := Lib.hid hX
  have hL := long_is A c l h p wb (hin.next hB0)
  obtain ⟨b, hb⟩ : ∃ b, longB l h p = b := ⟨_, rfl⟩
  rw [hb] at hL
  have HIN := Lib.hid (hin.next hB0)
  have HB := Lib.hid hb
  clear hb hin hB0
  obtain ⟨x1, hx1⟩ : ∃ b, decide (100 < (r.host.size : Int)) = b := ⟨_, rfl⟩
  obtain ⟨x2, hx2⟩ : ∃ b, decide (100 < (r.path.size : Int)) = b := ⟨_, rfl⟩
  obtain ⟨x3, hx3⟩ : ∃ b, decide (i < 0) = b := ⟨_, rfl⟩
  obtain ⟨x4, hx4⟩ : ∃ b, decide ((l.length : Int) < i) = b := ⟨_, rfl⟩
  obtain ⟨f0, f1, f2, f3⟩ := hX.four
  clear hX
  unfold Rl.val
  have six : b = true ∨ (b = false ∧ x1 = true) ∨ (b = false ∧ x1 = false ∧ x2 = true) ∨ (b = false ∧ x1 = false ∧ x2 = false ∧ x3 = true) ∨ (b = false ∧ x1 = false ∧ x2 = false ∧ x3 = false ∧ x4 = true) ∨ (b = false ∧ x1 = false ∧ x2 = false ∧ x3 = false ∧ x4 = false) := by
    cases b <;> cases x1 <;> cases x2 <;> cases x3 <;> cases x4 <;> simp
  rcases six with rfl | ⟨rfl, rfl⟩ | ⟨rfl, rfl, rfl⟩ | ⟨rfl, rfl, rfl, rfl⟩ | ⟨rfl, rfl, rfl, rfl, rfl⟩ | ⟨rfl, rfl, rfl, rfl, rfl⟩
  case inr.inr.inr.inr.inr =>
    have F := Lib.hid (Fine.of HB.out)
    have hm : l.length ≤ 9223372036854775807 := HIN.out.len
    have h50 : l.length ≤ 50 := F.out.len
    have RH := Lib.hid (show r.host.size ≤ 2000 from by have := of_decide_eq_false hx1; omega)
    have RP := Lib.hid (show r.path.size ≤ 2000 from by have := of_decide_eq_false hx2; omega)
    have hf := fun W => fits_is r n h p W F.out.h RP.out
    obtain ⟨x5, hx5⟩ : ∃ b, fitsB n h p r = b := ⟨_, rfl⟩
    rw [hx5] at hf
    have HX5 := Lib.hid hx5
    clear hx5
    unfold Rl.val at hf
    go_enter Try.func5, Try.ntmps5
    go_wp2_with fail
    refine hL.mono ?_
    rintro e wx ⟨rfl, rfl⟩
    clear hL hwb
    cases x5 with
    | true =>
      go_wp2_with (first
        | (go_at_call 12; ((with_reducible refine (hf _).mono ?_); rintro e W2 ⟨rfl, kk⟩; have B2 := below_next BX.out kk))
        | (go_at_call 11; ((with_reducible refine (chosen_is _).mono ?_); rintro e W3 ⟨rfl, kk2⟩; have B3 := below_next B2 kk2)))
      go_ret
      exact ⟨rfl, B3⟩
    | false =>
      obtain ⟨k, rfl⟩ : ∃ k : Nat, i = (k : Int) := ⟨i.toNat, by have := of_decide_eq_false hx3; omega⟩
      have hk : k ≤ l.length := by have := of_decide_eq_false hx4; omega
      have hkc : k ≤ c := Nat.le_trans hk HIN.out.le
      have hx6 : decide (l.length < k) = false := decide_eq_false (by omega)
      go_wp2_with fail
      refine (hf _).mono ?_
      rintro e W2 ⟨rfl, kk⟩
      have KB := Lib.hid kk
      have B2 := Lib.hid (below_next BX.out kk)
      clear kk f0 f1 f2 f3 hf
      have MM := Lib.hid (MadeR.start KB.out)
      by_cases hck : c = k
      · obtain rfl : k = c := hck.symm
        have HR := Lib.hid ((HIN.out.next KB.out).below (boxed W2 (.cells #[] 31))).rows
        have hlt : ((l.take k).map Rl.cells).length = k := by rw [List.length_map, List.length_take, Nat.min_eq_left hk]
        have HLT := Lib.hid hlt
        have HLD := Lib.hid (show ((l.drop k).map Rl.cells).length = l.length - k from by rw [List.length_map, List.length_drop])
        have HRD := Lib.hid (fun W (hW : Below wb.heap.size wb W) => show Rows4 W wb.heap.size A ((l.drop k).map Rl.cells) from by rw [List.map_drop]; have := (HIN.out.below hW).rows.drop (c := k) (by rw [List.length_map]; exact HIN.out.le) k; rwa [if_pos rfl] at this)
        have HRT := Lib.hid (show Rows4 _ _ _ ((l.take k).map Rl.cells) from by rw [List.map_take]; exact HR.out.take k)
        clear hlt
        go_wp2_with (first
          | (at_builtin; refine wpList_append_any4 rfl (.tmp 53) (.tmp 56) 22 rfl ir (.agg #[.int .i64 0, .string ⟨#[]⟩, .string ⟨#[]⟩, .int .i64 0]) 48 Try.underlying22 IR.out.1 IR.out.2.1 IR.out.2.2.1 IR.out.2.2.2 rfl rfl _ (rs := []) (ys := (l.take k).map Rl.cells) MM.out.own (cells4 _) (by rw [HLT.out]; rfl) HRT.out (cells1 _) (by rw [HLT.out]; simp [maxLen]; omega) (by rw [HLT.out]; simp; omega) MM.out.B.size ?_; intro v' w4 ho hg hb4; have M1 := Lib.hid (MM.out.grown (m := l.take k) hg ho); obtain ⟨f0, f1, f2, f3⟩ := (XX.out.below M1.out.B).four; clear ho hg hb4)
          | (at_builtin; refine wpList_append_one4 rfl (.tmp 58) (.tmp 60) 22 rfl ir (.agg #[.int .i64 0, .string ⟨#[]⟩, .string ⟨#[]⟩, .int .i64 0]) 48 Try.underlying22 IR.out.1 IR.out.2.1 IR.out.2.2.1 IR.out.2.2.2 rfl rfl _ _ _ _ _ (by simp [Value.oneCell']) M1.out.own rfl (by simp [maxLen]; omega) (by simp; omega) M1.out.B.size ?_; intro v'' w5 ho hg hb4; have M2 := Lib.hid (M1.out.grown (m := [r]) hg ho); clear ho hg hb4)
          | (at_builtin; refine wpList_append_any4 rfl (.tmp 62) (.tmp 65) 22 rfl ir (.agg #[.int .i64 0, .string ⟨#[]⟩, .string ⟨#[]⟩, .int .i64 0]) 48 Try.underlying22 IR.out.1 IR.out.2.1 IR.out.2.2.1 IR.out.2.2.2 rfl rfl _ (ys := (l.drop k).map Rl.cells) M2.out.own (cells4 _) (by rw [HLD.out]; rfl) (HRD.out _ M2.out.B) (cells1 _) (by rw [HLD.out]; simp [maxLen]; omega) (by rw [HLD.out]; simp; omega) M2.out.B.size ?_; intro v3 w6 ho hg hb4; have M3 := Lib.hid (M2.out.grown (m := l.drop k) hg ho); clear ho hg hb4))
        have M4 : MadeR wb w6 v3 (ins l k r) := M3.out
        clear M3 M2 M1 f0 f1 f2 f3 MM HR HLT HLD HRT HRD
        obtain ⟨A2, c2, hv, R2⟩ := M4.rules
        subst hv
        have B5 := M4.B
        have h1 := best_calls A k l n h p w6 (HIN.out.next B5) F.out.h F.out.paths
        have h2 := fun (W : World) (hW : RulesIn W W.heap.size A2 c2 (ins l k r)) => best_calls A2 c2 (ins l k r) n h p W hW F.out.h (fun x hx => (short_ins F.out.short RH.out RP.out x hx).2)
        have hE := idle_three hk HX5.out
        generalize numO (bestO (ins l k r) (fitsB n h p)) = a2 at h2 hE
        generalize errO (bestO (ins l k r) (fitsB n h p)) = d2 at h2 hE
        generalize numO (bestO l (fitsB n h p)) = a1 at h1 hE
        generalize errO (bestO l (fitsB n h p)) = d1 at h1 hE
        have HE := Lib.hid hE
        have H2 := Lib.hid h2
        have HR2 := Lib.hid R2
        clear hE h2 R2 M4
        generalize (ins l k r).length = len2 at *
        refine h1.mono ?_
        rintro e W6 ⟨rfl, kk⟩
        have B6 := below_next B5 kk
        have h2 := H2.out W6 (HR2.out.next kk)
        clear h1 kk H2 HR2
        go_wp2_with fail
        refine h2.mono ?_
        rintro e W7 ⟨rfl, kk⟩
        have B7 := below_next B6 kk
        clear h2 kk B5 B6
        rcases HE.out with ⟨rfl, rfl, rfl, rfl⟩ | ⟨x, hx, hxk, rfl, rfl, rfl, rfl⟩ | ⟨x, hx, hxk, rfl, rfl, rfl, rfl⟩
        · clear HE
          go_wp2_with (go_at_call 11; ((with_reducible refine (chosen_is _).mono ?_); rintro e W8 ⟨rfl, kk⟩; have B8 := below_next B7 kk))
          go_ret
          exact ⟨rfl, below_next BX.out B8⟩
        · have t7 : decide (k ≤ x) = false := decide_eq_false (by omega)
          clear HE
          go_wp2_with (go_at_call 11; ((with_reducible refine (chosen_is _).mono ?_); rintro e W8 ⟨rfl, kk⟩; have B8 := below_next B7 kk))
          go_ret
          exact ⟨rfl, below_next BX.out B8⟩
        · have t7 : decide (k ≤ x) = true := decide_eq_true hxk
          clear HE
          go_wp2_with (go_at_call 11; ((with_reducible refine (chosen_is _).mono ?_); rintro e W8 ⟨rfl, kk⟩; have B8 := below_next B7 kk))
          go_ret
          exact ⟨rfl, below_next BX.out B8⟩
      · have HR := Lib.hid ((HIN.out.next KB.out).below (boxed W2 (.cells #[] 31))).rows
        have hlt : ((l.take k).map Rl.cells).length = k := by rw [List.length_map, List.length_take, Nat.min_eq_left hk]
        have HLT := Lib.hid hlt
        have HLD := Lib.hid (show ((l.drop k).map Rl.cells).length = l.length - k from by rw [List.length_map, List.length_drop])
        have HRD := Lib.hid (fun W (hW : Below wb.heap.size wb W) => show Rows4 W wb.heap.size (Option.map (fun x => x.add (k * 4)) A) ((l.drop k).map Rl.cells) from by rw [List.map_drop]; have := (HIN.out.below hW).rows.drop (c := c) (by rw [List.length_map]; exact HIN.out.le) k; rwa [if_neg hck] at this)
        have HRT := Lib.hid (show Rows4 _ _ _ ((l.take k).map Rl.cells) from by rw [List.map_take]; exact HR.out.take k)
        clear hlt
        go_wp2_with (first
          | (at_builtin; refine wpList_append_any4 rfl (.tmp 53) (.tmp 56) 22 rfl ir (.agg #[.int .i64 0, .string ⟨#[]⟩, .string ⟨#[]⟩, .int .i64 0]) 48 Try.underlying22 IR.out.1 IR.out.2.1 IR.out.2.2.1 IR.out.2.2.2 rfl rfl _ (rs := []) (ys := (l.take k).map Rl.cells) MM.out.own (cells4 _) (by rw [HLT.out]; rfl) HRT.out (cells1 _) (by rw [HLT.out]; simp [maxLen]; omega) (by rw [HLT.out]; simp; omega) MM.out.B.size ?_; intro v' w4 ho hg hb4; have M1 := Lib.hid (MM.out.grown (m := l.take k) hg ho); obtain ⟨f0, f1, f2, f3⟩ := (XX.out.below M1.out.B).four; clear ho hg hb4)
          | (at_builtin; refine wpList_append_one4 rfl (.tmp 58) (.tmp 60) 22 rfl ir (.agg #[.int .i64 0, .string ⟨#[]⟩, .string ⟨#[]⟩, .int .i64 0]) 48 Try.underlying22 IR.out.1 IR.out.2.1 IR.out.2.2.1 IR.out.2.2.2 rfl rfl _ _ _ _ _ (by simp [Value.oneCell']) M1.out.own rfl (by simp [maxLen]; omega) (by simp; omega) M1.out.B.size ?_; intro v'' w5 ho hg hb4; have M2 := Lib.hid (M1.out.grown (m := [r]) hg ho); clear ho hg hb4)
          | (at_builtin; refine wpList_append_any4 rfl (.tmp 62) (.tmp 65) 22 rfl ir (.agg #[.int .i64 0, .string ⟨#[]⟩, .string ⟨#[]⟩, .int .i64 0]) 48 Try.underlying22 IR.out.1 IR.out.2.1 IR.out.2.2.1 IR.out.2.2.2 rfl rfl _ (ys := (l.drop k).map Rl.cells) M2.out.own (cells4 _) (by rw [HLD.out]; rfl) (HRD.out _ M2.out.B) (cells1 _) (by rw [HLD.out]; simp [maxLen]; omega) (by rw [HLD.out]; simp; omega) M2.out.B.size ?_; intro v3 w6 ho hg hb4; have M3 := Lib.hid (M2.out.grown (m := l.drop k) hg ho); clear ho hg hb4))
        have M4 : MadeR wb w6 v3 (ins l k r) := M3.out
        clear M3 M2 M1 f0 f1 f2 f3 MM HR HLT HLD HRT HRD
        obtain ⟨A2, c2, hv, R2⟩ := M4.rules
        subst hv
        have B5 := M4.B
        have h1 := best_calls A c l n h p w6 (HIN.out.next B5) F.out.h F.out.paths
        have h2 := fun (W : World) (hW : RulesIn W W.heap.size A2 c2 (ins l k r)) => best_calls A2 c2 (ins l k r) n h p W hW F.out.h (fun x hx => (short_ins F.out.short RH.out RP.out x hx).2)
        have hE := idle_three hk HX5.out
        generalize numO (bestO (ins l k r) (fitsB n h p)) = a2 at h2 hE
        generalize errO (bestO (ins l k r) (fitsB n h p)) = d2 at h2 hE
        generalize numO (bestO l (fitsB n h p)) = a1 at h1 hE
        generalize errO (bestO l (fitsB n h p)) = d1 at h1 hE
        have HE := Lib.hid hE
        have H2 := Lib.hid h2
        have HR2 := Lib.hid R2
        clear hE h2 R2 M4
        generalize (ins l k r).length = len2 at *
        refine h1.mono ?_
        rintro e W6 ⟨rfl, kk⟩
        have B6 := below_next B5 kk
        have h2 := H2.out W6 (HR2.out.next kk)
        clear h1 kk H2 HR2
        go_wp2_with fail
        refine h2.mono ?_
        rintro e W7 ⟨rfl, kk⟩
        have B7 := below_next B6 kk
        clear h2 kk B5 B6
        rcases HE.out with ⟨rfl, rfl, rfl, rfl⟩ | ⟨x, hx, hxk, rfl, rfl, rfl, rfl⟩ | ⟨x, hx, hxk, rfl, rfl, rfl, rfl⟩
        · clear HE
          go_wp2_with (go_at_call 11; ((with_reducible refine (chosen_is _).mono ?_); rintro e W8 ⟨rfl, kk⟩; have B8 := below_next B7 kk))
          go_ret
          exact ⟨rfl, below_next BX.out B8⟩
        · have t7 : decide (k ≤ x) = false := decide_eq_false (by omega)
          clear HE
          go_wp2_with (go_at_call 11; ((with_reducible refine (chosen_is _).mono ?_); rintro e W8 ⟨rfl, kk⟩; have B8 := below_next B7 kk))
          go_ret
          exact ⟨rfl, below_next BX.out B8⟩
        · have t7 : decide (k ≤ x) = true := decide_eq_true hxk
          clear HE
          go_wp2_with (go_at_call 11; ((with_reducible refine (chosen_is _).mono ?_); rintro e W8 ⟨rfl, kk⟩; have B8 := below_next B7 kk))
          go_ret
          exact ⟨rfl, below_next BX.out B8⟩
  all_goals
    clear HB
    go_enter Try.func5, Try.ntmps5
    go_wp2_with fail
    refine hL.mono ?_
    rintro e wx ⟨rfl, rfl⟩
    clear hL hwb
    go_wp2_with (go_at_call 11; ((with_reducible refine (chosen_is _).mono ?_); rintro e W8 ⟨rfl, kk⟩; have B8 := below_next BX.out kk))
    go_ret
    exact ⟨rfl, B8⟩
end Go.Proofs.Ytnjacobimndnbaa
