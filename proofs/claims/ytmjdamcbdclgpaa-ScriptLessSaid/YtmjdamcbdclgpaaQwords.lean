/- What the program's four calls of package script are to say: the laws' walks are over these words. -/
import Derived.Test.YtmjdamcbdclgpaaQrnames
import Derived.Test.YtmjdamcbdclgpaaQrpicks
import Derived.Test.YtmjdamcbdclgpaaQsame
namespace Go.Proofs.Ytmjdamcbdclgpaa
open Go.RowKit
set_option linter.unusedVariables false
set_option linter.unusedSimpArgs false

structure Words8 : Prop where
  bytes : ∀ (A : Option Addr) (c : Nat) (l : List Int) (w : World), Reads w w.heap.size A (l.map (Value.int .i64)) → l.length ≤ 5000 → (∀ x ∈ l, x < 9223372036854775808) → Calls Try.prog 15 #[.slice A l.length c] w (Wrote w .u8 (bytesI l))
  picks : ∀ (A : Option Addr) (c : Nat) (b : List Int) (w : World), Reads w w.heap.size A (b.map (Value.int .u8)) → b.length ≤ c → c ≤ maxLen → (∀ x ∈ b, 0 ≤ x ∧ x < 256) → Calls Try.prog 17 #[.slice A b.length c] w (Wrote w .i64 (picksI b))
  is : ∀ (s : Scr) (w : World), ScrIn w w.heap.size s → FewQ s → Calls Try.prog 10 #[s.val] w (Says w (scrOk s))
  names : ∀ (s : Scr) (w : World), ScrIn w w.heap.size s → FewQ s → Calls Try.prog 13 #[s.val] w (Lists8 w (scrNames s))
end Go.Proofs.Ytmjdamcbdclgpaa
