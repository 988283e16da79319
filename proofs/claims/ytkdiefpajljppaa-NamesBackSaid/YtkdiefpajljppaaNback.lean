/- The walk of NamesBack. -/
import Derived.Test.YtkdiefpajljppaaNamed
import Derived.Test.YtkdiefpajljppaaNkind
import Derived.Laws.IdiomStrings
namespace Go.Proofs.Ytkdiefpajljppaa
open Go.RowKit
set_option linter.unusedVariables false
set_option linter.unusedSimpArgs false
set_option maxRecDepth 100000

/-- The first i texts of a row, with a byte between them. -/
def joinB (c : UInt8) (xs : List ByteArray) : Nat → ByteArray
  | 0 => ⟨#[]⟩
  | i + 1 => (if i = 0 then joinB c xs i else joinB c xs i ++ ⟨#[c]⟩) ++ xs.getD i ⟨#[]⟩
def joinL (c : UInt8) : List (List UInt8) → List UInt8
  | [] => []
  | [p] => p
  | p :: q :: ps => p ++ c :: joinL c (q :: ps)

theorem joinL_cons (c x : UInt8) (p : List UInt8) (ps : List (List UInt8)) : joinL c ((x :: p) :: ps) = x :: joinL c (p :: ps) := by
  cases ps <;> rfl
theorem joinL_parts (c : UInt8) : ∀ l : List UInt8, joinL c (partsL (c.toNat : Int) l) = l
  | [] => rfl
  | x :: xs => by
    have ih := joinL_parts c xs
    have hn := partsL_ne (c.toNat : Int) xs
    by_cases hx : (x.toNat : Int) = (c.toNat : Int)
    · have hxc : x = c := UInt8.toNat_inj.1 (by omega)
      rw [partsL_hit _ hx]
      revert ih hn
      cases partsL (c.toNat : Int) xs with
      | nil => intro _ h; exact absurd rfl h
      | cons q ps => intro ih _; rw [joinL, ih, hxc]; rfl
    · rw [partsL_miss _ hx]
      revert ih hn
      cases partsL (c.toNat : Int) xs with
      | nil => intro _ h; exact absurd rfl h
      | cons q ps => intro ih _; rw [prep, List.singleton_append, joinL_cons, ih]
theorem joinL_snoc (c : UInt8) (p : List UInt8) : ∀ xs : List (List UInt8), xs ≠ [] → joinL c (xs ++ [p]) = joinL c xs ++ c :: p
  | [], h => absurd rfl h
  | [q], _ => rfl
  | q :: r :: xs, _ => by
    have ih := joinL_snoc c p (r :: xs) (by simp)
    show q ++ c :: joinL c (r :: xs ++ [p]) = _
    rw [ih]
    simp [joinL]
theorem joinB_list (c : UInt8) (xs : List ByteArray) : ∀ i, i ≤ xs.length → (joinB c xs i).data.toList = joinL c ((xs.take i).map fun p => p.data.toList)
  | 0, _ => by simp [joinB, joinL]
  | i + 1, h => by
    have hi : i < xs.length := h
    have ih := joinB_list c xs i (by omega)
    have hg : xs.getD i ⟨#[]⟩ = xs[i] := by rw [List.getD_eq_getElem?_getD, List.getElem?_eq_getElem hi]; rfl
    rw [joinB, append_list, hg, List.take_succ_eq_append_getElem hi, List.map_append, List.map_singleton]
    by_cases h0 : i = 0
    · subst h0
      rw [if_pos rfl, ih]
      simp [joinL]
    · rw [if_neg h0, append_list, ih, joinL_snoc]
      · simp
      · simp only [ne_eq, List.map_eq_nil_iff]
        intro e
        have : (xs.take i).length = 0 := by rw [e]; rfl
        rw [List.length_take] at this
        omega
theorem joinB_all (c : UInt8) (s : ByteArray) : joinB c (partsB s (c.toNat : Int)) (partsB s (c.toNat : Int)).length = s := ext_list (by
  rw [joinB_list _ _ _ (Nat.le_refl _), List.take_length, partsB_list, joinL_parts])
theorem parts_clean (s : ByteArray) (b : Int) (z : ByteArray) (hz : z ∈ partsB s b) (m : Nat) (hm : m < z.size) : (z[m].toNat : Int) ≠ b := by
  have h1 : z.data.toList ∈ partsL b s.data.toList := by rw [← partsB_list]; exact List.mem_map_of_mem hz
  exact partsL_clean b _ _ h1 z[m] (by
    show z.data[m] ∈ z.data.toList
    simp)

theorem cuts_small (s : ByteArray) (b : Int) : ∀ k, ∀ z ∈ (cuts s b k).1, z.size ≤ s.size
  | 0, z, hz => by cases hz
  | k + 1, z, hz => by
    have ih := cuts_small s b k
    rw [cuts] at hz
    split at hz
    · split at hz
      · rcases List.mem_append.1 hz with hz | hz
        · exact ih z hz
        · simp at hz; subst hz; simp; omega
      · exact ih z hz
    · exact ih z hz
theorem parts_small (s : ByteArray) (b : Int) (z : ByteArray) (hz : z ∈ partsB s b) : z.size ≤ s.size := by
  rcases List.mem_append.1 hz with hz | hz
  · exact cuts_small s b _ z hz
  · simp at hz; subst hz; simp

theorem joinB_le (c : UInt8) (xs : List ByteArray) {k n : Nat} (h : k ≤ n) : (joinB c xs k).size ≤ (joinB c xs n).size := by
  induction n with
  | zero => obtain rfl : k = 0 := by omega
            exact Nat.le_refl _
  | succ n ih =>
    by_cases e : k = n + 1
    · subst e; exact Nat.le_refl _
    · refine Nat.le_trans (ih (by omega)) ?_
      rw [joinB, ByteArray.size_append]
      split
      · omega
      · rw [ByteArray.size_append]; omega

def BackAt (w : World) (c : UInt8) (xs : List ByteArray) (t n i : Value) (wr : World) : Prop :=
  ∃ k m : Nat, k ≤ xs.length ∧ i = .int .i64 k ∧ t = .string (joinB c xs k) ∧ n = .int .i64 m ∧ m = k - 1 ∧ Below w.heap.size w wr

theorem namesBack_run (s : ByteArray) (b : Int) (c : UInt8) (hcb : (c.toNat : Int) = b) (w : World) (h : s.size ≤ 2000) :
    Calls Try.prog 5 #[.string s, .int .u8 b] w (Says w true) := by
  have h1 : decide ((2000 : Int) < (s.size : Int)) = false := by simp; omega
  have hlen := partsB_count s b
  have hpos := partsB_some s b
  have hclean := parts_clean s b
  have hsmall := parts_small s b
  have hall := joinB_all c s
  rw [hcb] at hall
  have HCB := Lib.hid hcb
  clear hcb
  go_enter Try.func5, Try.ntmps5
  go_wp2_with fail
  refine (parts_is s _ _ (by omega)).mono ?_
  rintro e w1 ⟨v, rfl, ho, B⟩
  obtain ⟨A, cap, rfl⟩ := ho.slice
  have hr := Lib.hid ho.reads
  rw [map_string_length]
  obtain ⟨xs, hxs⟩ : ∃ xs, partsB s b = xs := ⟨_, rfl⟩
  rw [hxs] at hr hlen hpos hclean hall hsmall ⊢
  have HCL := Lib.hid hclean
  have HALL := Lib.hid hall
  have HSM := Lib.hid hsmall
  clear hxs ho hclean hall hsmall
  go_wp2_with fail
  go_loopw [6, 7, 8] (fun t n i wr => BackAt w1 c xs t n i wr) (fun _ _ i _ => xs.length - (intOf i).toNat)
  case atStart => exact ⟨0, 0, by omega, rfl, rfl, rfl, rfl, Below.refl _ _⟩
  case round =>
    obtain ⟨k, m, hk, rfl, rfl, rfl, hm, Bk⟩ := hrel
    have HM := Lib.hid hm
    have hmb : m ≤ 2000 := by omega
    clear hm
    by_cases hlt : k < xs.length
    · have hrk := Lib.hid (hr.out.below Bk)
      have hjn : joinB c xs (k + 1) = (if k = 0 then joinB c xs k else joinB c xs k ++ ⟨#[c]⟩) ++ xs[k] := by
        rw [joinB, List.getD_eq_getElem?_getD, List.getElem?_eq_getElem hlt]; rfl
      obtain ⟨ad, rfl, had, hc⟩ := hrk.out.str hlt
      have HZ := Lib.hid (HCL.out xs[k] (List.getElem_mem hlt))
      have hsum : (joinB c xs (k + 1)).size ≤ 2000 := Nat.le_trans (joinB_le c xs (n := xs.length) hlt) (by rw [HALL.out]; exact h)
      have hzs : xs[k].size ≤ 2000 := Nat.le_trans (HSM.out xs[k] (List.getElem_mem hlt)) h
      generalize xs[k] = z at hc HZ hjn hzs
      generalize joinB c xs k = t at hjn ⊢
      have HJ := Lib.hid hjn
      rw [hjn] at hsum
      clear hjn
      by_cases h0 : k = 0
      · have t0 : decide (0 < k) = false := by simp; omega
        have hj1 := HJ.out
        rw [if_pos h0] at hj1
        rw [if_pos h0, ByteArray.size_append] at hsum
        have HJ1 := Lib.hid hj1
        have H0 := Lib.hid h0
        clear hj1 h0
        go_wp2_with fail
        obtain ⟨wo, rfl⟩ : ∃ wo : World, wo = wr := ⟨_, rfl⟩
        go_loop [9] (fun i => ∃ q : Nat, q ≤ z.size ∧ i = .int .i64 q) (fun i => z.size - (intOf i).toNat)
        case atStart => exact ⟨0, by omega, rfl⟩
        case round =>
          obtain ⟨q, hq, rfl⟩ := hrel
          by_cases hql : q < z.size
          · have tq : ((z[q].toNat : Int) == b) = false := by rw [beq_eq_false_iff_ne]; exact HZ.out q hql
            go_wp2_with fail
            go_round
            case rel => exact ⟨q + 1, by omega, by go_num⟩
            case measure => simp [intOf]; omega
          · obtain rfl : q = z.size := by omega
            go_wp2_with fail
            go_roundw
            case rel => exact ⟨k + 1, m, by omega, by go_num, by rw [HJ1.out], rfl, by have := HM.out; have := H0.out; omega, Bk⟩
            case measure => simp [intOf]; omega
      · have t0 : decide (0 < k) = true := by simp; omega
        have hj1 := HJ.out
        rw [if_neg h0] at hj1
        rw [if_neg h0, ByteArray.size_append, ByteArray.size_append] at hsum
        have hc1 : (⟨#[c]⟩ : ByteArray).size = 1 := rfl
        rw [hc1] at hsum
        clear hc1
        have HJ1 := Lib.hid hj1
        have H0 := Lib.hid h0
        clear hj1 h0
        have hcv : (convert 28 9 (.slice (some ⟨wr.heap.size, 0, none⟩) 1 1)).run Try.prog (wr.alloc (.cells #[.int .u8 b] 5)) = .ok (.string ⟨#[c]⟩) (wr.alloc (.cells #[.int .u8 b] 5)) := run_convert_bytes_back (P := Try.prog) (wr.alloc (.cells #[.int .u8 b] 5)) 28 9 5 ⟨wr.heap.size, 0, none⟩ 1 [c] Try.underlying28 Try.underlying5 Try.underlying9 (fun j hj => by
          obtain rfl : j = 0 := by simpa using hj
          rw [List.getElem_cons_zero, HCB.out]
          exact World.cell?_alloc_new wr #[.int .u8 b] _ 0)
        have hca : (wr.alloc (.cells #[.int .u8 b] 5)).cell? (ad.add k) = some (.string z) := by
          rw [World.cell?_alloc_lt _ _ _ (by rw [block_of_add]; exact Nat.lt_of_lt_of_le had Bk.size)]; exact hc
        have Bka : Below w1.heap.size w1 (wr.alloc (.cells #[.int .u8 b] 5)) := Bk.alloc Bk.size _
        go_wp2_with fail
        clear hcv
        generalize wr.alloc (.cells #[.int .u8 b] 5) = wo at hca Bka ⊢
        go_loop [9] (fun i => ∃ q : Nat, q ≤ z.size ∧ i = .int .i64 q) (fun i => z.size - (intOf i).toNat)
        case atStart => exact ⟨0, by omega, rfl⟩
        case round =>
          obtain ⟨q, hq, rfl⟩ := hrel
          by_cases hql : q < z.size
          · have tq : ((z[q].toNat : Int) == b) = false := by rw [beq_eq_false_iff_ne]; exact HZ.out q hql
            go_wp2_with fail
            go_round
            case rel => exact ⟨q + 1, by omega, by go_num⟩
            case measure => simp [intOf]; omega
          · obtain rfl : q = z.size := by omega
            go_wp2_with fail
            go_roundw
            case rel => exact ⟨k + 1, m + 1, by omega, by go_num, by rw [HJ1.out], by go_num, by have := HM.out; have := H0.out; omega, Bka⟩
            case measure => simp [intOf]; omega
    · obtain rfl : k = xs.length := by omega
      rw [HALL.out]
      have te : ((m : Int) == (xs.length : Int) - 1) = true := by rw [beq_iff_eq]; have := HM.out; omega
      have Bw : Below w.heap.size w wr := B.trans (Bk.mono B.size)
      go_wp2_with fail
      refine (named_is _).mono ?_
      rintro e w2 ⟨rfl, kk⟩
      go_wp2_with fail
      go_ret
      exact ⟨rfl, below_next Bw kk⟩

theorem wf_u8 {a : Int} (h : (Lit.int .u8 a).wf = true) : 0 ≤ a ∧ a ≤ 255 := by
  simpa [Lit.wf, IntKind.min, IntKind.max, IntKind.signed, IntKind.bits] using h

theorem namesBack_walk (s : ByteArray) (b : Int) (w : World) (hs : s.size ≤ maxLen) (hb : (Lit.int .u8 b).wf = true) :
    Calls Try.prog 5 #[.string s, .int .u8 b] w fun e w' => e = .returned (.bool true) ∧ Below w.heap.size w w' := by
  unfold maxLen at hs
  by_cases h : 2000 < s.size
  · have h1 : decide ((2000 : Int) < (s.size : Int)) = true := by simp; omega
    go_enter Try.func5, Try.ntmps5
    go_wp2_with fail
    go_ret
    exact ⟨rfl, Below.refl _ _⟩
  · obtain ⟨h0, h1⟩ := wf_u8 hb
    refine namesBack_run s b (UInt8.ofNat b.toNat) ?_ w (by omega)
    rw [UInt8.toNat_ofNat']
    omega
end Go.Proofs.Ytkdiefpajljppaa
