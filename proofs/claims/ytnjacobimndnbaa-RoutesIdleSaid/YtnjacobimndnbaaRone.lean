/- The walk of RoutesBest. -/
import Derived.Test.YtnjacobimndnbaaRplain
import Derived.Test.YtnjacobimndnbaaRrbest
import Derived.Test.YtnjacobimndnbaaRbig
namespace Go.Proofs.Ytnjacobimndnbaa
open Go.RowKit
set_option linter.unusedVariables false
set_option linter.unusedSimpArgs false
set_option maxRecDepth 100000

/-- What is known where nothing is too long. -/
structure Fine (l : List Rl) (h p : ByteArray) : Prop where
  len : l.length ≤ 50
  h : h.size ≤ 2000
  p : p.size ≤ 2000
  short : Short l
theorem Fine.of {l : List Rl} {h p : ByteArray} (hl : longB l h p = false) : Fine l h p := by
  obtain ⟨h1, h2, h3, h4⟩ := long_no hl
  exact ⟨h1, by omega, by omega, fun r hr => by have := h4 r hr; omega⟩
theorem Fine.paths {l : List Rl} {h p : ByteArray} (f : Fine l h p) : ∀ r ∈ l, r.path.size ≤ 2000 := fun r hr => (f.short r hr).2

set_option maxHeartbeats 2000000 in
theorem routesBest_walk (A : Option Addr) (c : Nat) (l : List Rl) (n : Int) (h p : ByteArray) (w : World) (hin : RulesIn w w.heap.size A c l) (wf : (Lit.int .i64 n).wf = true) (hs : h.size ≤ maxLen) (ps : p.size ≤ maxLen) :
    Calls Try.prog 3 #[.slice A l.length c, .int .i64 n, .string h, .string p] w fun e w' => e = .returned (.bool true) ∧ Below w.heap.size w w' := by
  have hL := long_is A c l h p w hin
  obtain ⟨b, hb⟩ : ∃ b, longB l h p = b := ⟨_, rfl⟩
  rw [hb] at hL
  have HIN := Lib.hid hin
  have HB := Lib.hid hb
  clear hb hin
  go_enter Try.func3, Try.ntmps3
  go_wp2_with fail
  refine hL.mono ?_
  rintro e wx ⟨rfl, rfl⟩
  clear hL
  cases b with
  | true =>
    go_wp2_with fail
    go_ret
    exact ⟨rfl, Below.refl _ _⟩
  | false =>
    have F := Lib.hid (Fine.of HB.out)
    have h1 := best_calls A c l n h p w HIN.out F.out.h F.out.paths
    have h2 := fun W hW => rbest_is A c l n h p W hW F.out.h F.out.p F.out.short
    generalize numO (bestO l (fitsB n h p)) = a at h1 h2
    generalize errO (bestO l (fitsB n h p)) = d at h1 h2
    have H2 := Lib.hid h2
    clear h2
    go_wp2_with fail
    refine h1.mono ?_
    rintro e W1 ⟨rfl, B1⟩
    have h2 := H2.out W1 (HIN.out.next B1)
    clear h1 H2
    go_wp2_with fail
    refine h2.mono ?_
    rintro e W2 ⟨rfl, kk⟩
    have B2 := below_next B1 kk
    clear h2 kk B1
    go_wp2_with fail
    refine (chosen_is W2).mono ?_
    rintro e W3 ⟨rfl, kk⟩
    have B3 := below_next B2 kk
    clear kk B2
    go_wp2_with fail
    go_ret
    exact ⟨rfl, B3⟩
end Go.Proofs.Ytnjacobimndnbaa
