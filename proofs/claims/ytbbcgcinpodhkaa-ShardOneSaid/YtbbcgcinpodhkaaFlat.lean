/- Slices of structs of four cells, that came in or that a call made; known blocks; worlds that grow: no word of the program. -/
import Derived.Test.YtbbcgcinpodhkaaNsay
import Derived.Test.YtbbcgcinpodhkaaArgs
import Derived.Test.YtbbcgcinpodhkaaPtr
import Derived.DataElems
import Derived.Lib.SmallJoins
import Derived.Deep.Slices
import Derived.Deep.Fields
import Derived.ChangeSame
namespace Go.Proofs.Ytbbcgcinpodhkaa
open Go.Joins Go.ChangeShapes Go.WideShapes Go.RowKit Go.Deep
set_option linter.unusedVariables false
set_option linter.unusedSimpArgs false
set_option maxRecDepth 100000

section
variable {α : Type} {p : α → Bool} {xs : List α} {k : Nat}
theorem any_next (hk : k < xs.length) : (xs.take (k + 1)).any p = ((xs.take k).any p || p xs[k]) := by
  rw [List.take_succ_eq_append_getElem hk, List.any_append]
  simp
theorem any_hit (hk : k < xs.length) (h : p xs[k] = true) : xs.any p = true := List.any_eq_true.2 ⟨_, List.getElem_mem hk, h⟩
theorem any_end (hk : ¬ k < xs.length) (h : (xs.take k).any p = false) : xs.any p = false := by rwa [List.take_of_length_le (by omega)] at h
end

/-- The slice value '.slice A n c' holds elements of four cells each, and lies below block B. -/
def Rows4 (w : World) (B : Nat) (A : Option Addr) (rs : List (List Value)) : Prop :=
  0 < rs.length → ∃ ad, A = some ad ∧ ad.block < B ∧ ∀ i r, rs[i]? = some r → ∀ j v, r[j]? = some v → w.cell? (ad.add (i * 4 + j)) = some v

section
variable {w w' : World} {B B' : Nat} {A : Option Addr} {rs : List (List Value)}
theorem Rows4.keep (h : Rows4 w B A rs) (hk : ∀ p : Addr, p.block < B → w'.cell? p = w.cell? p) : Rows4 w' B A rs := fun hn => by
  obtain ⟨ad, e, hb, hc⟩ := h hn
  exact ⟨ad, e, hb, fun i r hr j v hv => (hk _ (by rw [block_of_add]; exact hb)).trans (hc i r hr j v hv)⟩
theorem Rows4.more (h : Rows4 w B A rs) (hB : B ≤ B') : Rows4 w B' A rs := fun hn => by
  obtain ⟨ad, e, hb, hc⟩ := h hn
  exact ⟨ad, e, by omega, hc⟩
theorem Rows4.below (h : Rows4 w B A rs) (hb : Below B w w') : Rows4 w' B A rs := h.keep fun _ hp => hb.cell hp
theorem Rows4.take (h : Rows4 w B A rs) (k : Nat) : Rows4 w B A (rs.take k) := fun hn => by
  obtain ⟨ad, e, hb, hc⟩ := h (by simp at hn; omega)
  refine ⟨ad, e, hb, fun i r hr => hc i r ?_⟩
  have hi : i < k := by
    have := (List.getElem?_eq_some_iff.1 hr).1
    rw [List.length_take] at this
    omega
  rwa [List.getElem?_take_of_lt hi] at hr
theorem Reads.take {xs : List Value} (h : Reads w B A xs) (k : Nat) : Reads w B A (xs.take k) := fun hn => by
  obtain ⟨ad, e, hb, hc⟩ := h (by simp at hn; omega)
  refine ⟨ad, e, hb, fun i r hr => hc i r ?_⟩
  have hi : i < k := by
    have := (List.getElem?_eq_some_iff.1 hr).1
    rw [List.length_take] at this
    omega
  rwa [List.getElem?_take_of_lt hi] at hr
end

theorem add_field (ad : Addr) (n j : Nat) : ad.add (n + (j + 1)) = ⟨(ad.add n).block, (ad.add n).off + (j + 1), none⟩ := by
  rw [← Addr.add_add, Addr.add_succ']
/-- Four cells that lie in a row. -/
def Four (w : World) (p : Addr) (a b c d : Value) : Prop :=
  w.cell? p = some a ∧ w.cell? ⟨p.block, p.off + 1, none⟩ = some b ∧ w.cell? ⟨p.block, p.off + 2, none⟩ = some c ∧ w.cell? ⟨p.block, p.off + 3, none⟩ = some d
theorem four_of {w : World} {ad : Addr} {k : Nat} {l : List Value} (h : ∀ j v, l[j]? = some v → w.cell? (ad.add (k * 4 + j)) = some v) {a b c d : Value} (hl : l = [a, b, c, d]) : Four w (ad.add (k * 4)) a b c d := by
  subst hl
  refine ⟨h 0 a rfl, ?_, ?_, ?_⟩
  · rw [← add_field]; exact h 1 b rfl
  · rw [← add_field]; exact h 2 c rfl
  · rw [← add_field]; exact h 3 d rfl
theorem four_below {w W : World} {p : Nat} {a b c d : Value} (hp : p < w.heap.size) (h : Four w ⟨p, 0, none⟩ a b c d) (B : Below w.heap.size w W) : Four W ⟨p, 0, none⟩ a b c d :=
  ⟨(B.cell (p := ⟨p, 0, none⟩) hp).trans h.1, (B.cell (p := ⟨p, 1, none⟩) hp).trans h.2.1, (B.cell (p := ⟨p, 2, none⟩) hp).trans h.2.2.1, (B.cell (p := ⟨p, 3, none⟩) hp).trans h.2.2.2⟩
theorem four_in4' (w : World) (a b c d : Value) (t : TypeId) : Four (w.alloc (.cells #[a, b, c, d] t)) ⟨w.heap.size, 0, none⟩ a b c d := by
  have h := fun i => World.cell?_alloc_new w #[a, b, c, d] t i
  exact ⟨h 0, h 1, h 2, h 3⟩
theorem four_in4 (w : World) (o : Obj) (a b c d : Value) (t : TypeId) : Four ((w.alloc o).alloc (.cells #[a, b, c, d] t)) ⟨w.heap.size + 1, 0, none⟩ a b c d := by
  have h := fun i => World.cell?_alloc_new (w.alloc o) #[a, b, c, d] t i
  simp only [World.size_alloc] at h
  exact ⟨h 0, h 1, h 2, h 3⟩
theorem boxed (w : World) (o : Obj) : Below w.heap.size w (w.alloc o) := (Below.refl _ _).alloc (Nat.le_refl _) _
theorem below_alloc {B : Nat} {a b : World} {o : Obj} (h : Below B a b) (hB : B ≤ a.heap.size) : Below B a (b.alloc o) := h.alloc (Nat.le_trans hB h.size) o
theorem below_drew {B : Nat} {a w : World} (h : Below B a w) : Below B a w.drew := ⟨h.os, h.tape, h.output, h.size, h.block⟩
theorem row_made (w : World) (l : List Value) (t : TypeId) (n : Nat) (hn : n = w.heap.size) {W : World} (B : Below (w.alloc (.cells l.toArray t)).heap.size (w.alloc (.cells l.toArray t)) W) :
    Reads W W.heap.size (some ⟨n, 0, none⟩) l := fun h => by
  subst hn
  refine ⟨_, rfl, ?_, fun j u hu => ?_⟩
  · have := B.size
    simp at this ⊢
    omega
  · refine (B.cell (by rw [block_of_add]; simp)).trans ?_
    rw [Addr.add_lit]
    have := World.cell?_alloc_new w l.toArray t (0 + j)
    rw [this, Nat.zero_add]
    simpa using hu
theorem flat4 {l : List (List Value)} (h : ∀ r ∈ l, r.length = 4) {i : Nat} {r : List Value} (hi : l[i]? = some r) {j : Nat} (hj : j < 4) : l.flatten[i * 4 + j]? = r[j]? := by
  induction l generalizing i with
  | nil => simp at hi
  | cons a l ih =>
    have ha : a.length = 4 := h a (List.mem_cons_self ..)
    rw [List.flatten_cons]
    cases i with
    | zero =>
      simp at hi
      subst hi
      rw [Nat.zero_mul, Nat.zero_add, List.getElem?_append_left (by omega)]
    | succ i =>
      rw [List.getElem?_append_right (by rw [ha]; omega), ha, show (i + 1) * 4 + j - 4 = i * 4 + j by omega]
      exact ih (fun r hr => h r (List.mem_cons_of_mem _ hr)) (by simpa using hi)
theorem rows4_block {w : World} {n : Nat} {l : List (List Value)} {t : TypeId} (h4 : ∀ r ∈ l, r.length = 4) (h : w.heap[n]? = some (.cells l.flatten.toArray t (0, 0))) : Rows4 w w.heap.size (some ⟨n, 0, none⟩) l := fun hp => by
  refine ⟨_, rfl, block_lt h, fun i r hr j v hv => ?_⟩
  rw [Addr.add_lit, Nat.zero_add, block_cell h, List.getElem?_toArray]
  have hj : j < 4 := by
    rw [← h4 r (List.mem_of_getElem? hr)]
    exact (List.getElem?_eq_some_iff.1 hv).1
  rw [flat4 h4 hr hj]
  exact hv
theorem reads_block {w : World} {n : Nat} {l : List Value} {t : TypeId} (h : w.heap[n]? = some (.cells l.toArray t (0, 0))) : Reads w w.heap.size (some ⟨n, 0, none⟩) l := fun hp => by
  refine ⟨_, rfl, block_lt h, fun j v hv => ?_⟩
  rw [Addr.add_lit, Nat.zero_add, block_cell h, List.getElem?_toArray]
  exact hv
theorem kept_alloc {w : World} {o x : Obj} {g : Nat} (h : w.heap[g]? = some x) : (w.alloc o).heap[g]? = some x := (Below.heap_alloc w o g (block_lt h)).trans h
theorem list_of {α : Type} {Q : Nat → α → Prop} (n : Nat) (h : ∀ i, i < n → ∃ r, Q i r) : ∃ l : List α, l.length = n ∧ ∀ i r, l[i]? = some r → Q i r := by
  induction n with
  | zero => exact ⟨[], rfl, fun i r hi => by simp at hi⟩
  | succ n ih =>
    obtain ⟨l, hl, hq⟩ := ih fun i hi => h i (by omega)
    obtain ⟨r, hr⟩ := h n (by omega)
    refine ⟨l ++ [r], by simp [hl], fun i x hx => ?_⟩
    by_cases e : i < l.length
    · rw [List.getElem?_append_left e] at hx
      exact hq i x hx
    · have hi : i = n := by
        have := (List.getElem?_eq_some_iff.1 hx).1
        simp at this
        omega
      subst hi
      rw [List.getElem?_append_right (by omega), hl, Nat.sub_self] at hx
      simp at hx
      subst hx
      exact hr
section
variable {H : Type} {enc : TypeId × Value → H} {P : Program} {w : World} {spare : Nat → Bool} {held : Bool}
theorem strs_cells {t e : TypeId} {fuel : Nat} {v : Value} {x : DataW H × List MemPlace} (ht : P.underlying t = some (.slice e)) (he : P.underlying e = some .string) (hc : P.cellsOf e = 1) (hs : ∀ k, spare k = true)
    (h : DataW.trod enc P w 0 spare held fuel t [v] = some x) : ∃ (A : Option Addr) (c : Nat) (xs : List ByteArray), v = .slice A xs.length c ∧ Reads w w.heap.size A (xs.map Value.string) ∧ xs.length ≤ c ∧ c ≤ maxLen := by
  rcases open_slice1 ht hc h with ⟨h0, _⟩ | ⟨a, len, cap, m, n, V, D, Pl, h0, _, hl, hm, hmm, _, hi⟩
  · simp at h0
    exact ⟨none, 0, [], h0, fun hn => by simp at hn, by simp, by simp [maxLen]⟩
  · simp at h0
    rw [hs, if_pos rfl] at hmm
    obtain ⟨l, hlen, hq⟩ := list_of (Q := fun i (s : ByteArray) => w.cell? (a.add i) = some (.string s)) len fun i hi' => by
      obtain ⟨hcell, ht'⟩ := hi i (by omega)
      obtain ⟨s, e1, _, _⟩ := DataW.trod_string he ht'
      simp at e1
      exact ⟨s, by rw [hcell, e1]⟩
    refine ⟨some a, cap, l, by rw [h0, hlen], fun hn => ⟨a, rfl, ?_, fun j u hu => ?_⟩, by omega, hm⟩
    · have hlt : 0 < len := by simp at hn; omega
      obtain ⟨hcell, _⟩ := hi 0 (by omega)
      have := World.block_lt_of_cell? w _ hcell
      rwa [block_of_add] at this
    · rw [List.getElem?_map] at hu
      obtain ⟨z, hz, rfl⟩ := Option.map_eq_some_iff.1 hu
      exact hq j z hz
/-- A slice of structs of four fields of one cell: its elements, one by one. -/
theorem rows_cells {α : Type} {f : α → List Value} {t e : TypeId} {fs : Array Field} {fuel : Nat} {v : Value} {x : DataW H × List MemPlace} (ht : P.underlying t = some (.slice e)) (he : P.underlying e = some (.struct fs))
    (hone : oneCellFields P fs = true) (hC : P.cellsOf e = 4) (h4 : fs.size = 4) (hs : ∀ k, spare k = true) {T : α → Prop}
    (hel : ∀ (p : Addr), (∀ (j : Nat) (g : Field), fs[j]? = some g → ∃ (u : Value) (y : DataW H × List MemPlace) (n : Nat), w.cell? (p.add j) = some u ∧ DataW.trod enc P w 0 spare held n g.type [u] = some y) →
      ∃ r : α, T r ∧ ∀ (j : Nat) (u : Value), (f r)[j]? = some u → w.cell? (p.add j) = some u)
    (h : DataW.trod enc P w 0 spare held fuel t [v] = some x) :
    ∃ (A : Option Addr) (c : Nat) (rs : List α), v = .slice A rs.length c ∧ Rows4 w w.heap.size A (rs.map f) ∧ rs.length ≤ c ∧ c ≤ maxLen ∧ ∀ r ∈ rs, T r := by
  rcases open_slice ht h with ⟨h0, _⟩ | ⟨a, len, cap, m, n, D, Pl, h0, _, hl, hm, hmm, _, hi⟩
  · simp at h0
    exact ⟨none, 0, [], h0, fun hn => by simp at hn, by simp, by simp [maxLen], fun r hr => by simp at hr⟩
  · simp at h0
    rw [hs, if_pos rfl] at hmm
    have hfield : ∀ i, i < len → ∀ (j : Nat) (g : Field), fs[j]? = some g → ∃ (u : Value) (y : DataW H × List MemPlace) (n : Nat), w.cell? ((a.add (i * 4)).add j) = some u ∧ DataW.trod enc P w 0 spare held n g.type [u] = some y := fun i him j g hj => by
      obtain ⟨cs', hc, ht'⟩ := hi i (by omega)
      rw [hC] at hc
      obtain ⟨ys, n', hn', hy, hlen, hyl, hf⟩ := DataW.trod_struct he ht'
      obtain ⟨_, hcl, hat⟩ := World.cells?_some hc
      obtain ⟨ho, hk⟩ := hone_of hone j g hj
      have hjl : j < fs.size := (Array.getElem?_eq_some_iff.1 hj).1
      have hcell := hat j (by omega)
      have h1 := hf j g hj
      rw [ho, hk] at h1
      have hone' : (cs'.drop j).take 1 = [cs'[j]'(by omega)] := by
        rw [List.drop_eq_getElem_cons (by omega)]
        rfl
      rw [hone'] at h1
      have hys : ys[j]? = some (ys[j]'(by omega)) := List.getElem?_eq_getElem (by omega)
      exact ⟨_, _, _, by rw [hcell, List.getElem?_eq_getElem (by omega)], h1.trans hys⟩
    obtain ⟨l, hlen, hq⟩ := list_of (Q := fun i (r : α) => T r ∧ ∀ (j : Nat) (u : Value), (f r)[j]? = some u → w.cell? ((a.add (i * 4)).add j) = some u) len fun i hi' => hel _ (hfield i hi')
    refine ⟨some a, cap, l, by rw [h0, hlen], fun hn => ⟨a, rfl, ?_, fun i r hr j u hu => ?_⟩, by omega, hm, fun r hr => ?_⟩
    · have hlt : 0 < len := by simp at hn; omega
      obtain ⟨g, hg⟩ : ∃ g, fs[0]? = some g := ⟨_, Array.getElem?_eq_getElem (by omega)⟩
      obtain ⟨u, y, n, hcell, _⟩ := hfield 0 hlt 0 g hg
      have := World.block_lt_of_cell? w _ hcell
      rwa [block_of_add, block_of_add] at this
    · rw [List.getElem?_map] at hr
      obtain ⟨z, hz, rfl⟩ := Option.map_eq_some_iff.1 hr
      have := (hq i z hz).2 j u hu
      rwa [Go.Deep.add_add] at this
    · obtain ⟨i, hi, rfl⟩ := List.getElem_of_mem hr
      exact (hq i _ (List.getElem?_eq_getElem hi)).1
end

theorem at4 {α : Type} {P : α → Prop} {a b c d : α} {l : List α} (hl : l = [a, b, c, d]) {Q : Nat → α → Prop} (h0 : Q 0 a) (h1 : Q 1 b) (h2 : Q 2 c) (h3 : Q 3 d) : ∀ (j : Nat) (u : α), l[j]? = some u → Q j u := by
  subst hl
  intro j u hu
  match j, hu with
  | 0, hu => cases hu; exact h0
  | 1, hu => cases hu; exact h1
  | 2, hu => cases hu; exact h2
  | 3, hu => cases hu; exact h3
  | j + 4, hu => simp at hu

/-- The call answers these two numbers, and nothing that was there has turned. -/
def Tells2 (w : World) (p : Int × Int) (e : Ending) (w' : World) : Prop := e = .returned (.tuple #[.int .i64 p.1, .int .i64 p.2]) ∧ Below w.heap.size w w'
theorem Tells2.of {w w' : World} {b c : Int × Int} {e : Ending} (h : Tells2 w b e w') (hc : b = c) : Tells2 w c e w' := hc ▸ h
end Go.Proofs.Ytbbcgcinpodhkaa
