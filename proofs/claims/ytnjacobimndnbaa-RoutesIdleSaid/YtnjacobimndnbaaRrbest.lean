/- The document's Best. -/
import Derived.Test.YtnjacobimndnbaaRref
namespace Go.Proofs.Ytnjacobimndnbaa
open Go.RowKit
set_option linter.unusedVariables false
set_option linter.unusedSimpArgs false
set_option maxRecDepth 100000

set_option maxHeartbeats 2000000 in
theorem rbest_is (A : Option Addr) (c : Nat) (l : List Rl) (li : Int) (h p : ByteArray) (w : World) (hin : RulesIn w w.heap.size A c l) (hh : h.size ≤ 2000) (hq : p.size ≤ 2000) (hs : Short l) :
    Calls Try.prog 10 #[.slice A l.length c, .int .i64 li, .string h, .string p] w (Tells2 w (numO (bestO l (fitsB li h p)), errO (bestO l (fitsB li h p)))) := by
  have hm : l.length ≤ 9223372036854775807 := hin.len
  have HIN := Lib.hid hin
  have HS := Lib.hid hs
  have HH := Lib.hid hh
  have HQ := Lib.hid hq
  clear hin hs hh hq
  go_enter Try.func10, Try.ntmps10
  go_wp2
  go_loopg [10] l.length (fun g x wr => ∃ k : Nat, k ≤ l.length ∧ g = l.length - k ∧ x = .int .i64 k ∧ (∀ j (hj : j < l.length), j < k → fitsB li h p l[j] = true → beatB l (fitsB li h p) l[j] = true) ∧ Below w.heap.size w wr)
  case atStart => exact ⟨0, Nat.zero_le _, rfl, rfl, fun j hj h0 => by omega, Below.refl _ _⟩
  case round =>
    obtain ⟨k, hk, rfl, rfl, hno, B⟩ := hrel
    have HN := Lib.hid hno
    clear hno
    by_cases hlt : k < l.length
    · obtain ⟨ad, e, _⟩ := HIN.out.ad hlt
      subst e
      obtain ⟨f0, f1, f2, f3⟩ := HIN.out.at_ (W := wr) hlt (fun q hq => B.cell hq)
      have s1 := HS.out _ (List.getElem_mem hlt)
      have hbt := fun W hW => beaten_is (some ad) c l k hlt li h p W hW HH.out HQ.out HS.out
      have HX : ∀ b c, fitsB li h p l[k] = b → beatB l (fitsB li h p) l[k] = c → (b = true → c = true) → ∀ j (hj : j < l.length), j < k + 1 → fitsB li h p l[j] = true → beatB l (fitsB li h p) l[j] = true := fun b c h1 h2 h3 j hj hjk hf => by
        rcases Nat.lt_or_ge j k with h | h
        · exact HN.out j hj h hf
        · obtain rfl : j = k := by omega
          rw [h2]
          rw [h1] at hf
          exact h3 hf
      have HY : fitsB li h p l[k] = true → beatB l (fitsB li h p) l[k] = false → bestO l (fitsB li h p) = some ⟨k, hlt⟩ := fun h1 h2 => beat_some hlt h1 h2 (fun j hj hf => HN.out j (by omega) hj hf)
      generalize l[k] = r at f0 f1 f2 f3 s1 HX HY hbt
      have hf := fun W => rfits_is r li h p W HH.out s1.1 s1.2 HQ.out
      unfold Rl.val at hf
      obtain ⟨b, hb1⟩ : ∃ b, fitsB li h p r = b := ⟨_, rfl⟩
      obtain ⟨d, hd1⟩ : ∃ d, beatB l (fitsB li h p) r = d := ⟨_, rfl⟩
      rw [hb1] at hf HY
      rw [hd1] at hbt HY
      have HX' := Lib.hid (HX b d hb1 hd1)
      have HY' := Lib.hid HY
      have HBT := Lib.hid hbt
      clear hb1 hd1 HX HY s1 hbt
      cases b with
      | false =>
        go_wp2_with (go_at_call 13; ((with_reducible refine (hf _).mono ?_); rintro e w3 ⟨rfl, kk⟩; have B3 := below_next B kk))
        go_roundg (l.length - (k + 1))
        case measure => omega
        case rel => exact ⟨k + 1, by omega, rfl, by go_num, HX'.out (fun e => by cases e), B3⟩
      | true =>
        go_wp2_with fail
        refine (hf _).mono ?_
        rintro e w3 ⟨rfl, kk⟩
        have B3 := below_next B kk
        have hb := HBT.out w3 (HIN.out.next B3)
        clear f0 f1 f2 f3 kk hf
        cases d with
        | true =>
          go_wp2_with (go_at_call 18; ((with_reducible refine hb.mono ?_); rintro e w4 ⟨rfl, kk⟩; have B4 := below_next B3 kk))
          go_roundg (l.length - (k + 1))
          case measure => omega
          case rel => exact ⟨k + 1, by omega, rfl, by go_num, HX'.out (fun _ => by trivial), B4⟩
        | false =>
          go_wp2_with (go_at_call 18; ((with_reducible refine hb.mono ?_); rintro e w4 ⟨rfl, kk⟩; have B4 := below_next B3 kk))
          go_ret2
          rw [HY'.out (by trivial) (by trivial)]
          exact ⟨rfl, B4⟩
    · have HL : Hid (bestO l (fitsB li h p) = none) := Lib.hid (beat_none' fun j hj hf => HN.out j hj (by omega) hf)
      go_wp2_with fail
      go_ret2
      rw [HL.out]
      exact ⟨rfl, B⟩
end Go.Proofs.Ytnjacobimndnbaa
