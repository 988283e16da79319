/- The law's own script of layer 8, in memory. -/
import Derived.Test.YtmjdamcbdclgpaaQwords
namespace Go.Proofs.Ytmjdamcbdclgpaa
open Go.RowKit
set_option linter.unusedVariables false
set_option linter.unusedSimpArgs false
set_option maxRecDepth 100000

def qIn : ByteArray := ⟨#[105, 110]⟩
def qWeb : ByteArray := ⟨#[119, 101, 98]⟩
def qA : ByteArray := ⟨#[97]⟩
def qStar : ByteArray := ⟨#[42]⟩
def qSl : ByteArray := ⟨#[47]⟩
def qCl (n : Nat) : Cl := ⟨qA, 1, 1, some ⟨n, 0, none⟩, 1, 1⟩
def qRt : Rt := ⟨qIn, qStar, qSl, qA⟩
def qC (nl : Nat) (ls : List ByteArray) (nr nc nh : Nat) : Cfg := ⟨some ⟨nl, 0, none⟩, ls.length, ls, some ⟨nr, 0, none⟩, 1, [qRt], some ⟨nc, 0, none⟩, 1, [qCl nh]⟩
def qNil : Cfg := ⟨none, 0, [], none, 0, [], none, 0, []⟩
def qOp (c : Cfg) : Opn := ⟨3, ⟨#[]⟩, ⟨#[]⟩, ⟨#[]⟩, 0, 0, 0, c⟩
def qTh (nl nr nc nh no : Nat) : Thr := ⟨some ⟨no, 0, none⟩, 2, [qOp (qC nl [qWeb, qIn] nr nc nh), qOp qNil]⟩
def qScr (n1 n2 nr nc nh no nt : Nat) (pa : Option Addr) (pc : Nat) (ps : List Int) : Scr := ⟨qC n1 [qIn] nr nc nh, some ⟨nt, 0, none⟩, 1, [qTh n2 nr nc nh no], pa, pc, ps⟩
/-- Its blocks. -/
structure QLies (W : World) (n1 n2 nr nc nh no nt np : Nat) : Prop where
  l1 : W.heap[n1]? = some (.cells #[.string qIn] 9 (0, 0))
  l2 : W.heap[n2]? = some (.cells #[.string qWeb, .string qIn] 9 (0, 0))
  r : W.heap[nr]? = some (.cells #[.string qIn, .string qStar, .string qSl, .string qA] 74 (0, 0))
  c : W.heap[nc]? = some (.cells #[.string qA, .int .i64 1, .int .i64 1, .slice (some ⟨nh, 0, none⟩) 1 1] 72 (0, 0))
  o : W.heap[no]? = some (.cells ((qTh n2 nr nc nh no).os.map Opn.cells).flatten.toArray 49 (0, 0))
  t : W.heap[nt]? = some (.cells #[.slice (some ⟨no, 0, none⟩) 2 2] 46 (0, 0))
  p : W.heap[np]? = some (.cells #[.int .i64 0, .int .i64 300] 3 (0, 0))
section
variable {W W' : World} {n1 n2 nr nc nh no nt np : Nat}
theorem QLies.below (h : QLies W n1 n2 nr nc nh no nt np) (hb : Below W.heap.size W W') : QLies W' n1 n2 nr nc nh no nt np :=
  ⟨(hb.block _ (block_lt h.l1)).trans h.l1, (hb.block _ (block_lt h.l2)).trans h.l2, (hb.block _ (block_lt h.r)).trans h.r, (hb.block _ (block_lt h.c)).trans h.c, (hb.block _ (block_lt h.o)).trans h.o, (hb.block _ (block_lt h.t)).trans h.t, (hb.block _ (block_lt h.p)).trans h.p⟩
theorem qcl_wf (n : Nat) : ∀ x ∈ [qCl n], x.wf := fun x hx => by
  rw [List.mem_singleton] at hx
  subst hx
  exact ⟨by show (Lit.int .i64 1).wf = true; decide, by show (Lit.int .i64 1).wf = true; decide, by show 1 ≤ maxLen; simp [maxLen]⟩
theorem QLies.cfg (h : QLies W n1 n2 nr nc nh no nt np) {n : Nat} {ls : List ByteArray} (hl : W.heap[n]? = some (.cells (ls.map Value.string).toArray 9 (0, 0))) (h2 : ls.length ≤ 2) : CfgIn W W.heap.size (qC n ls nr nc nh) :=
  ⟨reads_block hl, rows4_block (l := [[.string qIn, .string qStar, .string qSl, .string qA]]) (by simp) h.r, rows4_block (l := [[.string qA, .int .i64 1, .int .i64 1, .slice (some ⟨nh, 0, none⟩) 1 1]]) (by simp) h.c, Nat.le_refl _, Nat.le_refl _, Nat.le_refl _,
   by show ls.length ≤ maxLen; simp [maxLen]; omega, by show 1 ≤ maxLen; simp [maxLen], by show 1 ≤ maxLen; simp [maxLen], qcl_wf nh⟩
theorem nilcfg : CfgIn W W.heap.size qNil := ⟨fun h => absurd h (by simp [qNil]), fun h => absurd h (by simp [qNil]), fun h => absurd h (by simp [qNil]), Nat.le_refl _, Nat.le_refl _, Nat.le_refl _, by show 0 ≤ maxLen; simp [maxLen], by show 0 ≤ maxLen; simp [maxLen], by show 0 ≤ maxLen; simp [maxLen], fun x hx => by cases hx⟩
theorem rowsN_block {w : World} {n m : Nat} {l : List (List Value)} {t : TypeId} (h4 : ∀ r ∈ l, r.length = m) (h : w.heap[n]? = some (.cells l.flatten.toArray t (0, 0))) : RowsN m w w.heap.size (some ⟨n, 0, none⟩) l := fun hp => by
  refine ⟨_, rfl, block_lt h, fun i r hr j v hv => ?_⟩
  rw [Addr.add_lit, Nat.zero_add, block_cell h, List.getElem?_toArray]
  have key : ∀ (l : List (List Value)) (i : Nat) (r : List Value), (∀ r ∈ l, r.length = m) → l[i]? = some r → ∀ j v, r[j]? = some v → l.flatten[i * m + j]? = some v := by
    intro l
    induction l with
    | nil => intro i r _ hi; simp at hi
    | cons a l ih =>
      intro i r hm hi j v hv
      have ha : a.length = m := hm a (List.mem_cons_self ..)
      rw [List.flatten_cons]
      cases i with
      | zero =>
        simp at hi
        subst hi
        have := (List.getElem?_eq_some_iff.1 hv).1
        rw [Nat.zero_mul, Nat.zero_add, List.getElem?_append_left this]
        exact hv
      | succ i =>
        rw [List.getElem?_append_right (by rw [ha, Nat.succ_mul]; omega), ha, show (i + 1) * m + j - m = i * m + j by rw [Nat.succ_mul]; omega]
        exact ih i r (fun r hr => hm r (List.mem_cons_of_mem _ hr)) (by simpa using hi) j v hv
  exact key l i r h4 hr j v hv
theorem QLies.thr (h : QLies W n1 n2 nr nc nh no nt np) : ThrIn W W.heap.size (qTh n2 nr nc nh no) :=
  ⟨rowsN_block (by intro r hr; simp [qTh] at hr; rcases hr with rfl | rfl <;> rfl) h.o, Nat.le_refl _, by show 2 ≤ maxLen; simp [maxLen], fun o ho => by
    simp [qTh] at ho
    rcases ho with rfl | rfl
    · exact h.cfg (ls := [qWeb, qIn]) h.l2 (by simp)
    · exact nilcfg⟩
theorem QLies.scr (h : QLies W n1 n2 nr nc nh no nt np) {pa : Option Addr} {pc : Nat} {ps : List Int} (hp : Reads W W.heap.size pa (ps.map (Value.int .i64))) (h1 : ps.length ≤ pc) (h2 : pc ≤ maxLen) : ScrIn W W.heap.size (qScr n1 n2 nr nc nh no nt pa pc ps) :=
  ⟨h.cfg (ls := [qIn]) h.l1 (by simp), reads_block (l := [.slice (some ⟨no, 0, none⟩) 2 2]) h.t, Nat.le_refl _, by show 1 ≤ maxLen; simp [maxLen], fun t ht => by
    simp [qScr] at ht
    subst ht
    exact h.thr, hp, h1, h2, fun x hx => by
    simp [qScr, qC] at hx
    subst hx
    show 2 ≤ maxLen
    simp [maxLen]⟩
end
theorem q_few (n1 n2 nr nc nh no nt : Nat) (pa : Option Addr) (pc : Nat) (ps : List Int) (h : ps.length ≤ 5000) : FewQ (qScr n1 n2 nr nc nh no nt pa pc ps) :=
  ⟨by kernel_rfl, by show 1 ≤ 20; decide, h, fun t ht => by
    simp [qScr] at ht
    subst ht
    exact ⟨by show 2 ≤ 40; decide, fun o ho => by
      simp [qTh] at ho
      rcases ho with rfl | rfl <;> kernel_rfl⟩⟩
theorem q_ok (n1 n2 nr nc nh no nt : Nat) (pa : Option Addr) (pc : Nat) : scrOk (qScr n1 n2 nr nc nh no nt pa pc [0, 300]) = true := by kernel_rfl
theorem q_bad (n1 n2 nr nc nh no nt : Nat) (pa : Option Addr) (pc : Nat) : scrOk (qScr n1 n2 nr nc nh no nt pa pc [-1]) = false := by kernel_rfl
theorem q_names (n1 n2 nr nc nh no nt : Nat) (pa : Option Addr) (pc : Nat) (ps : List Int) : scrNames (qScr n1 n2 nr nc nh no nt pa pc ps) = [qIn, qWeb] := by kernel_rfl
theorem q_b1 : bytesI [0, 300] = ([0, 172, 2], 0) := by
  simp [bytesI, encL, enc_small, enc_big]
theorem q_p1 : picksI [0, 172, 2] = ([0, 300], 0) := by kernel_rfl
theorem q_b2 : bytesI [-1] = ([], 1) := by simp [bytesI]
theorem q_p2 : picksI [128] = ([], 11) := by kernel_rfl
theorem q_p3 : picksI [128, 0] = ([], 11) := by kernel_rfl

def Plain8 (w : World) (e : Ending) (w' : World) : Prop := ∃ n1 n2 nr nc nh no nt np, e = .returned (qScr n1 n2 nr nc nh no nt (some ⟨np, 0, none⟩) 2 [0, 300]).val ∧ QLies w' n1 n2 nr nc nh no nt np ∧ Below w.heap.size w w'
def allocs (w : World) (l : List Obj) : World := l.foldl World.alloc w
theorem allocs_kept {w : World} {l : List Obj} {g : Nat} {x : Obj} (h : w.heap[g]? = some x) : (allocs w l).heap[g]? = some x := by
  induction l generalizing w with
  | nil => exact h
  | cons o l ih => exact ih (kept_alloc h)
theorem allocs_at (w : World) (l : List Obj) (i : Nat) (h : i < l.length) : (allocs w l).heap[w.heap.size + i]? = some l[i] := by
  induction l generalizing w i with
  | nil => simp at h
  | cons o l ih =>
    cases i with
    | zero => exact allocs_kept (l := l) (one_alloc w o)
    | succ i =>
      have := ih (w.alloc o) i (by simpa using h)
      rw [World.size_alloc] at this
      show (allocs (w.alloc o) l).heap[_]? = _
      rw [show w.heap.size + (i + 1) = w.heap.size + 1 + i by omega, this]
      rfl
theorem allocs_below (w : World) (l : List Obj) : Below w.heap.size w (allocs w l) := by
  have key : ∀ (l : List Obj) (w' : World), Below w.heap.size w w' → Below w.heap.size w (allocs w' l) := by
    intro l
    induction l with
    | nil => exact fun w' h => h
    | cons o l ih => exact fun w' h => ih _ (below_alloc h (Nat.le_refl _))
  exact key l w (Below.refl _ _)
set_option maxHeartbeats 4000000 in
theorem plain8_is (w : World) : Calls Try.prog 23 #[] w (Plain8 w) := by
  go_enter Try.func23, Try.ntmps23
  go_wp2
  refine bodyPost_ret (v := (qScr (w.heap.size + 1) (w.heap.size + 7) (w.heap.size + 4) (w.heap.size + 3) (w.heap.size + 2) (w.heap.size + 8) (w.heap.size + 9) (some ⟨w.heap.size + 10, 0, none⟩) 2 [0, 300]).val) ?_ rfl
    ⟨w.heap.size + 1, w.heap.size + 7, w.heap.size + 4, w.heap.size + 3, w.heap.size + 2, w.heap.size + 8, w.heap.size + 9, w.heap.size + 10, rfl, ⟨?_, ?_, ?_, ?_, ?_, ?_, ?_⟩, ?_⟩
  · have key : ∀ (W : World), W.heap[w.heap.size]? = some (.cells #[.slice (some ⟨w.heap.size + 1, 0, none⟩) 1 1, .slice (some ⟨w.heap.size + 4, 0, none⟩) 1 1, .slice (some ⟨w.heap.size + 3, 0, none⟩) 1 1, .slice (some ⟨w.heap.size + 9, 0, none⟩) 1 1, .slice (some ⟨w.heap.size + 10, 0, none⟩) 2 2] 30 (0, 0)) →
        W.cell? ⟨w.heap.size, 0, none⟩ = some (.slice (some ⟨w.heap.size + 1, 0, none⟩) 1 1) ∧ W.cell? ⟨w.heap.size, 1, none⟩ = some (.slice (some ⟨w.heap.size + 4, 0, none⟩) 1 1) ∧ W.cell? ⟨w.heap.size, 2, none⟩ = some (.slice (some ⟨w.heap.size + 3, 0, none⟩) 1 1) ∧ W.cell? ⟨w.heap.size, 3, none⟩ = some (.slice (some ⟨w.heap.size + 9, 0, none⟩) 1 1) ∧ W.cell? ⟨w.heap.size, 4, none⟩ = some (.slice (some ⟨w.heap.size + 10, 0, none⟩) 2 2) :=
      fun W h => ⟨by rw [block_cell h]; rfl, by rw [block_cell h]; rfl, by rw [block_cell h]; rfl, by rw [block_cell h]; rfl, by rw [block_cell h]; rfl⟩
    generalize hW : World.alloc _ _ = W
    obtain ⟨h0, h1, h2, h3, h4⟩ := key W (by rw [← hW]; exact allocs_at w [_, _, _, _, _, _, _, _, _, _, _] 0 (by simp))
    simp [results, Try.f23, go_sem, h0, h1, h2, h3, h4, Scr.val, qScr, qC]
  · exact allocs_at w [_, _, _, _, _, _, _, _, _, _, _] 1 (by simp)
  · exact allocs_at w [_, _, _, _, _, _, _, _, _, _, _] 7 (by simp)
  · exact allocs_at w [_, _, _, _, _, _, _, _, _, _, _] 4 (by simp)
  · exact allocs_at w [_, _, _, _, _, _, _, _, _, _, _] 3 (by simp)
  · exact allocs_at w [_, _, _, _, _, _, _, _, _, _, _] 8 (by simp)
  · exact allocs_at w [_, _, _, _, _, _, _, _, _, _, _] 9 (by simp)
  · exact allocs_at w [_, _, _, _, _, _, _, _, _, _, _] 10 (by simp)
  · exact allocs_below w [_, _, _, _, _, _, _, _, _, _, _]
end Go.Proofs.Ytmjdamcbdclgpaa
