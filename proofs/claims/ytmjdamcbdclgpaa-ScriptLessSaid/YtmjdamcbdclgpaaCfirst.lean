/- The first error of a list of askings: (parts).first, at whatever askings. -/
import Derived.Test.YtmjdamcbdclgpaaCask2
import Derived.Deep.LoopGhost
import Derived.IntWalk
namespace Go.Proofs.Ytmjdamcbdclgpaa
open Go.RowKit
set_option linter.unusedVariables false
set_option linter.unusedSimpArgs false
set_option maxRecDepth 100000


/-- The value f is a call bound to a value, that answers e i at each i below n, in every world behind W. -/
def AskIs (W : World) (n : Nat) (f : Value) (e : Nat → Int) : Prop :=
  ∃ (m : Nat) (cv : Value), f = .func (.func m) #[cv] #[] ∧ (∀ args w, Sem.run Try.prog (callFunc m args) w = .ok (.enter m args) w) ∧ ∀ i : Nat, i < n → ∀ w, Below W.heap.size W w → Calls Try.prog m #[cv, .int .i64 i] w (TellsI w (e i))
def AllAsk (W : World) (n : Nat) (fs : List Value) (es : List (Nat → Int)) : Prop :=
  fs.length = es.length ∧ ∀ (k : Nat) (f : Value) (e : Nat → Int), fs[k]? = some f → es[k]? = some e → AskIs W n f e

theorem errI_at {es : List (Nat → Int)} {i q : Nat} (hq : q < es.length) (h0 : ∀ t (ht : t < es.length), t < q → es[t] i = 0) (h : es[q] i ≠ 0) : errI es i = es[q] i := by
  unfold errI
  have := pickI_at (l := es.map (· i)) (q := q) (by simpa using hq) (fun t ht htq => by simpa using h0 t (by simpa using ht) htq) (by simpa using h)
  simpa using this
theorem errI_all {es : List (Nat → Int)} {i : Nat} (h0 : ∀ t (ht : t < es.length), es[t] i = 0) : errI es i = 0 := by
  rw [errI_zero]
  intro a ha
  obtain ⟨t, ht, rfl⟩ := List.getElem_of_mem ha
  exact h0 t ht

theorem first_is (n : Nat) (q : Addr) (fs : List Value) (es : List (Nat → Int)) (w : World) (hn : n ≤ maxLen) (hl : fs.length ≤ maxLen) (hr : Reads w w.heap.size (some q) fs) (hask : AllAsk w n fs es) :
    Calls Try.prog 35 #[.agg #[.int .i64 n, .slice (some q) fs.length fs.length]] w (Tells2 w (kindI3 es n)) := by
  unfold maxLen at hn hl
  obtain ⟨hlen, hask⟩ := hask
  have LEN := Lib.hid hlen
  have ASK := Lib.hid hask
  have HR := Lib.hid hr
  clear hlen hask hr
  have B0 := boxed w (.cells #[.int .i64 n, .slice (some q) fs.length fs.length] 68)
  have g0 := World.cell?_alloc_new w #[.int .i64 n, .slice (some q) fs.length fs.length] 68 0
  have g1 := World.cell?_alloc_new w #[.int .i64 n, .slice (some q) fs.length fs.length] 68 1
  have hsz : (w.alloc (.cells #[.int .i64 n, .slice (some q) fs.length fs.length] 68)).heap.size = w.heap.size + 1 := by simp
  have HSZ := Lib.hid hsz
  clear hsz
  go_enter Try.func35, Try.ntmps35
  go_wp2
  generalize w.alloc (.cells #[.int .i64 n, .slice (some q) fs.length fs.length] 68) = W at *
  have G1 := Lib.hid g1
  clear g0 g1
  go_loopg [10] n (fun g i wr => ∃ k : Nat, k ≤ n ∧ g = n - k ∧ i = .int .i64 k ∧ (∀ j, j < k → errI es j = 0) ∧ Below W.heap.size W wr)
  case atStart => exact ⟨0, Nat.zero_le _, rfl, rfl, fun j hj => by omega, Below.refl _ _⟩
  case round =>
    obtain ⟨k, hk, rfl, rfl, hno, B⟩ := hrel
    have HN := Lib.hid hno
    clear hno
    by_cases hlt : k < n
    · have g1 := (B.cell (p := ⟨w.heap.size, 1, none⟩) (by rw [HSZ.out]; simp)).trans G1.out
      go_wp2
      clear g1
      go_loopg [16] fs.length (fun g i wi => ∃ u : Nat, u ≤ fs.length ∧ g = fs.length - u ∧ i = .int .i64 u ∧ (∀ t (ht : t < es.length), t < u → es[t] k = 0) ∧ Below W.heap.size W wi)
      case atStart => exact ⟨0, Nat.zero_le _, rfl, rfl, fun t _ ht => by omega, B⟩
      case round =>
        clear B
        obtain ⟨u, hu, rfl, rfl, hz, B⟩ := hrel
        have HZ := Lib.hid hz
        clear hz
        by_cases hul : u < fs.length
        · have hue : u < es.length := by have := LEN.out; omega
          obtain ⟨m, cv, hf, hent, hcall⟩ := ASK.out u fs[u] es[u] (List.getElem?_eq_getElem hul) (List.getElem?_eq_getElem hue)
          have hcall' := hcall k hlt wr (B0.trans (B.mono (by have := B0.size; exact this)))
          clear hcall
          obtain ⟨ad, e0, hb0, hc0⟩ := HR.out.at_ hul
          cases e0
          have hcell := (B.cell (p := q.add u) (by rw [HSZ.out, block_of_add]; omega)).trans ((B0.cell (p := q.add u) (by rw [block_of_add]; exact hb0)).trans hc0)
          rw [hf] at hcell
          clear hf hc0
          by_cases hez : es[u] k = 0
          · have HE := Lib.hid hez
            rw [hez] at hcall'
            clear hez
            go_wp2_with ((with_reducible refine hcall'.mono ?_); rintro e wx ⟨rfl, kk⟩; replace B := B.trans (kk.mono B.size); clear kk)
            go_roundg (fs.length - (u + 1))
            case measure => omega
            case rel => exact ⟨u + 1, by omega, rfl, by go_num, fun t ht htu => by
              by_cases e : t = u
              · subst e; exact HE.out
              · exact HZ.out t ht (by omega), B⟩
          · have HE := Lib.hid hez
            have hbe : (es[u] k != 0) = true := by simpa using hez
            have HX : Hid (kindI3 es n = (es[u] k, (k : Int))) := Lib.hid (by
              have := errI_at hue HZ.out hez
              rw [← this] at hez ⊢
              exact kind_hit hlt HN.out hez)
            clear hez
            generalize es[u] k = x at hcall' hbe HX
            go_wp2_with ((with_reducible refine hcall'.mono ?_); rintro e wx ⟨rfl, kk⟩; replace B := B.trans (kk.mono B.size); clear kk)
            go_ret2
            rw [HX.out]
            exact ⟨rfl, B0.trans (B.mono B0.size)⟩
        · go_wp2
          go_roundg (n - (k + 1))
          case measure => omega
          case rel => exact ⟨k + 1, by omega, rfl, by go_num, fun j hj => by
            by_cases e : j = k
            · subst e
              exact errI_all fun t ht => HZ.out t ht (by have := LEN.out; omega)
            · exact HN.out j (by omega), B⟩
    · have HX : Hid (kindI3 es n = (0, 0)) := Lib.hid (kind_none fun j hj => HN.out j (by omega))
      go_wp2
      go_ret2
      rw [HX.out]
      exact ⟨rfl, B0.trans (B.mono B0.size)⟩
end Go.Proofs.Ytmjdamcbdclgpaa
