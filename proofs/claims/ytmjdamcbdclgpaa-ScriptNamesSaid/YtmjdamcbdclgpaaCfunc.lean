/- Searches in a list of parts of a configuration. -/
import Derived.Test.YtmjdamcbdclgpaaM2
namespace Go.Proofs.Ytmjdamcbdclgpaa
open Go.RowKit
set_option linter.unusedVariables false
set_option linter.unusedSimpArgs false
set_option maxRecDepth 100000


theorem indexC_is (A : Option Addr) (c : Nat) (xs : List Cl) (s : ByteArray) (p : Nat) (w : World) (hr : Rows4 w w.heap.size A (xs.map Cl.cells)) (hl : xs.length ≤ c) (hm : c ≤ maxLen) (hp : p < w.heap.size) (hc : w.cell? ⟨p, 0, none⟩ = some (.string s)) :
    Calls Try.prog 82 #[.slice A xs.length c, .func (.func 75) #[] #[.pointer (some ⟨p, 0, none⟩)]] w (FoundI w (hasC xs s)) := by
  unfold maxLen at hm
  have HC := Lib.hid hc
  have HR := Lib.hid hr
  clear hc hr
  go_enter Try.func82, Try.ntmps82
  go_wp2
  go_loopw [8] (fun i wr => ∃ k : Nat, k ≤ xs.length ∧ i = .int .i64 k ∧ (xs.take k).any (fun x => eqB x.name s) = false ∧ Below w.heap.size w wr) (fun i _ => xs.length - (intOf i).toNat)
  case atStart => exact ⟨0, Nat.zero_le _, rfl, rfl, Below.refl _ _⟩
  case round =>
    obtain ⟨k, hk, rfl, hno, B⟩ := hrel
    have HN := Lib.hid hno
    clear hno
    by_cases hlt : k < xs.length
    · obtain ⟨ad, rfl, hb, hcell⟩ := (HR.out.below B) (by rw [List.length_map]; omega)
      obtain ⟨f0, f1, f2, f3⟩ := four_of (hcell k xs[k].cells (by rw [List.getElem?_map, List.getElem?_eq_getElem hlt]; rfl)) rfl
      clear hcell
      have hcl := named1_is xs[k] s p wr (by have := B.size; omega) ((B.cell (p := ⟨p, 0, none⟩) hp).trans HC.out)
      obtain ⟨b, hb⟩ : ∃ b, eqB xs[k].name s = b := ⟨_, rfl⟩
      rw [hb] at hcl
      have HB := Lib.hid hb
      clear hb
      generalize xs[k] = x at f0 f1 f2 f3 hcl
      cases b with
      | true =>
        go_wp2_with (first | (go_at_call 75; ((with_reducible refine hcl.mono ?_); rintro e wx ⟨rfl, kk⟩; replace B := below_next B kk; clear kk)))
        go_ret
        rw [show hasC xs s = true from any_hit hlt HB.out]
        exact found_yes B
      | false =>
        go_wp2_with (first | (go_at_call 75; ((with_reducible refine hcl.mono ?_); rintro e wx ⟨rfl, kk⟩; replace B := below_next B kk; clear kk)))
        go_roundw
        case rel => exact ⟨k + 1, by omega, by go_num, by rw [any_next hlt, HN.out, Bool.false_or]; exact HB.out, B⟩
        case measure => simp [intOf]; omega
    · go_wp2
      go_ret
      rw [show hasC xs s = false from any_end hlt HN.out]
      exact found_no B

theorem hasC_is (A : Option Addr) (c : Nat) (xs : List Cl) (s : ByteArray) (p : Nat) (w : World) (hr : Rows4 w w.heap.size A (xs.map Cl.cells)) (hl : xs.length ≤ c) (hm : c ≤ maxLen) (hp : p < w.heap.size) (hc : w.cell? ⟨p, 0, none⟩ = some (.string s)) :
    Calls Try.prog 74 #[.slice A xs.length c, .func (.func 75) #[] #[.pointer (some ⟨p, 0, none⟩)]] w (Says w (hasC xs s)) := by
  have hi := indexC_is A c xs s p w hr hl hm hp hc
  generalize hasC xs s = b at hi ⊢
  clear hr hc
  go_enter Try.func74, Try.ntmps74
  go_wp2_with fail
  refine hi.mono ?_
  rintro e w' ⟨r, rfl, h1, h2, B⟩
  go_wp2
  go_ret
  exact ⟨rfl, B⟩

theorem indexR_is (A : Option Addr) (c : Nat) (xs : List Rt) (s : Rt) (p : Nat) (w : World) (hr : Rows4 w w.heap.size A (xs.map Rt.cells)) (hl : xs.length ≤ c) (hm : c ≤ maxLen) (hp : p < w.heap.size) (hc : Four w ⟨p, 0, none⟩ (.string s.listen) (.string s.host) (.string s.path) (.string s.cluster)) :
    Calls Try.prog 80 #[.slice A xs.length c, .func (.func 65) #[] #[.pointer (some ⟨p, 0, none⟩)]] w (FoundI w (hasR xs s)) := by
  unfold maxLen at hm
  have HC := Lib.hid hc
  have HR := Lib.hid hr
  clear hc hr
  go_enter Try.func80, Try.ntmps80
  go_wp2
  go_loopw [8] (fun i wr => ∃ k : Nat, k ≤ xs.length ∧ i = .int .i64 k ∧ (xs.take k).any (fun x => alikeB x s) = false ∧ Below w.heap.size w wr) (fun i _ => xs.length - (intOf i).toNat)
  case atStart => exact ⟨0, Nat.zero_le _, rfl, rfl, Below.refl _ _⟩
  case round =>
    obtain ⟨k, hk, rfl, hno, B⟩ := hrel
    have HN := Lib.hid hno
    clear hno
    by_cases hlt : k < xs.length
    · obtain ⟨ad, rfl, hb, hcell⟩ := (HR.out.below B) (by rw [List.length_map]; omega)
      obtain ⟨f0, f1, f2, f3⟩ := four_of (hcell k xs[k].cells (by rw [List.getElem?_map, List.getElem?_eq_getElem hlt]; rfl)) rfl
      clear hcell
      have hcl := alike_is xs[k] s p wr (by have := B.size; omega) (four_below hp HC.out B)
      obtain ⟨b, hb⟩ : ∃ b, alikeB xs[k] s = b := ⟨_, rfl⟩
      rw [hb] at hcl
      have HB := Lib.hid hb
      clear hb
      generalize xs[k] = x at f0 f1 f2 f3 hcl
      cases b with
      | true =>
        go_wp2_with (first | (go_at_call 65; ((with_reducible refine hcl.mono ?_); rintro e wx ⟨rfl, kk⟩; replace B := below_next B kk; clear kk)))
        go_ret
        rw [show hasR xs s = true from any_hit hlt HB.out]
        exact found_yes B
      | false =>
        go_wp2_with (first | (go_at_call 65; ((with_reducible refine hcl.mono ?_); rintro e wx ⟨rfl, kk⟩; replace B := below_next B kk; clear kk)))
        go_roundw
        case rel => exact ⟨k + 1, by omega, by go_num, by rw [any_next hlt, HN.out, Bool.false_or]; exact HB.out, B⟩
        case measure => simp [intOf]; omega
    · go_wp2
      go_ret
      rw [show hasR xs s = false from any_end hlt HN.out]
      exact found_no B

theorem hasR_is (A : Option Addr) (c : Nat) (xs : List Rt) (s : Rt) (p : Nat) (w : World) (hr : Rows4 w w.heap.size A (xs.map Rt.cells)) (hl : xs.length ≤ c) (hm : c ≤ maxLen) (hp : p < w.heap.size) (hc : Four w ⟨p, 0, none⟩ (.string s.listen) (.string s.host) (.string s.path) (.string s.cluster)) :
    Calls Try.prog 66 #[.slice A xs.length c, .func (.func 65) #[] #[.pointer (some ⟨p, 0, none⟩)]] w (Says w (hasR xs s)) := by
  have hi := indexR_is A c xs s p w hr hl hm hp hc
  generalize hasR xs s = b at hi ⊢
  clear hr hc
  go_enter Try.func66, Try.ntmps66
  go_wp2_with fail
  refine hi.mono ?_
  rintro e w' ⟨r, rfl, h1, h2, B⟩
  go_wp2
  go_ret
  exact ⟨rfl, B⟩

theorem isNamed_is (A : Option Addr) (c : Nat) (xs : List Cl) (s : ByteArray) (w : World) (hr : Rows4 w w.heap.size A (xs.map Cl.cells)) (hl : xs.length ≤ c) (hm : c ≤ maxLen) :
    Calls Try.prog 62 #[.slice A xs.length c, .string s] w (Says w (hasC xs s)) := by
  have B := boxed w (.cells #[.string s] 9)
  have hi := hasC_is A c xs s w.heap.size (w.alloc (.cells #[.string s] 9)) ((hr.below B).more B.size) hl hm (by simp) (World.cell?_alloc_new w #[.string s] 9 0)
  generalize hasC xs s = b at hi ⊢
  clear hr
  have hmf : ∀ (fn : Fn) (first cap : Array Value) (w : World), (Instr.makeFunc fn first cap).run Try.prog w = .ok (.func fn first cap) w := fun _ _ _ _ => rfl
  go_enter Try.func62, Try.ntmps62
  go_wp2_with (first | (go_at_call 74; ((with_reducible refine hi.mono ?_); rintro e wx ⟨rfl, kk⟩; replace B := below_next B kk; clear kk)))
  go_ret
  exact ⟨rfl, B⟩
end Go.Proofs.Ytmjdamcbdclgpaa
