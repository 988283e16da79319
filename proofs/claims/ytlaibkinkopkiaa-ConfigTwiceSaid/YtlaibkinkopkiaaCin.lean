/- A configuration in memory. -/
import Derived.Test.YtlaibkinkopkiaaCpure
import Derived.Test.YtlaibkinkopkiaaArgs
import Derived.DataElems
namespace Go.Proofs.Ytlaibkinkopkiaa
open Go.RowKit Go.ChangeShapes Go.WideShapes
set_option linter.unusedVariables false

/-- The slice value '.slice A n c' holds elements of four cells each, and lies below block B. -/
def Rows4 (w : World) (B : Nat) (A : Option Addr) (rs : List (List Value)) : Prop :=
  0 < rs.length → ∃ ad, A = some ad ∧ ad.block < B ∧ ∀ i r, rs[i]? = some r → ∀ j v, r[j]? = some v → w.cell? (ad.add (i * 4 + j)) = some v

section
variable {w w' : World} {B B' : Nat} {A : Option Addr} {rs : List (List Value)}
theorem Rows4.keep (h : Rows4 w B A rs) (hk : ∀ p : Addr, p.block < B → w'.cell? p = w.cell? p) : Rows4 w' B A rs := fun hn => by
  obtain ⟨ad, e, hb, hc⟩ := h hn
  exact ⟨ad, e, hb, fun i r hr j v hv => (hk _ (by rw [block_of_add]; exact hb)).trans (hc i r hr j v hv)⟩
theorem Rows4.more (h : Rows4 w B A rs) (hB : B ≤ B') : Rows4 w B' A rs := fun hn => by
  obtain ⟨ad, e, hb, hc⟩ := h hn
  exact ⟨ad, e, by omega, hc⟩
theorem Rows4.below (h : Rows4 w B A rs) (hb : Below B w w') : Rows4 w' B A rs := h.keep fun _ hp => hb.cell hp
theorem Rows4.take (h : Rows4 w B A rs) (k : Nat) : Rows4 w B A (rs.take k) := fun hn => by
  obtain ⟨ad, e, hb, hc⟩ := h (by simp at hn; omega)
  refine ⟨ad, e, hb, fun i r hr => hc i r ?_⟩
  have hi : i < k := by
    have := (List.getElem?_eq_some_iff.1 hr).1
    rw [List.length_take] at this
    omega
  rwa [List.getElem?_take_of_lt hi] at hr
theorem Reads.take {xs : List Value} (h : Reads w B A xs) (k : Nat) : Reads w B A (xs.take k) := fun hn => by
  obtain ⟨ad, e, hb, hc⟩ := h (by simp at hn; omega)
  refine ⟨ad, e, hb, fun i r hr => hc i r ?_⟩
  have hi : i < k := by
    have := (List.getElem?_eq_some_iff.1 hr).1
    rw [List.length_take] at this
    omega
  rwa [List.getElem?_take_of_lt hi] at hr
end

/-- A configuration's three lists, and where they lie. -/
structure Cfg where
  la : Option Addr
  lc : Nat
  ls : List ByteArray
  ra : Option Addr
  rc : Nat
  rs : List Rt
  ca : Option Addr
  cc : Nat
  cs : List Cl
def Cfg.val (c : Cfg) : Value := .agg #[.slice c.la c.ls.length c.lc, .slice c.ra c.rs.length c.rc, .slice c.ca c.cs.length c.cc]
def Cl.wf (c : Cl) : Prop := (Lit.int .i64 c.policy).wf = true ∧ (Lit.int .i64 c.slots).wf = true ∧ c.hn ≤ maxLen
/-- It lies below block B. -/
structure CfgIn (w : World) (B : Nat) (c : Cfg) : Prop where
  pl : Reads w B c.la (c.ls.map Value.string)
  pr : Rows4 w B c.ra (c.rs.map Rt.cells)
  pc : Rows4 w B c.ca (c.cs.map Cl.cells)
  ll : c.ls.length ≤ c.lc
  rl : c.rs.length ≤ c.rc
  cl : c.cs.length ≤ c.cc
  lm : c.lc ≤ maxLen
  rm : c.rc ≤ maxLen
  cm : c.cc ≤ maxLen
  wf : ∀ x ∈ c.cs, x.wf

section
variable {w w' : World} {B B' : Nat} {c : Cfg}
theorem CfgIn.keep (h : CfgIn w B c) (hk : ∀ p : Addr, p.block < B → w'.cell? p = w.cell? p) : CfgIn w' B c :=
  ⟨h.pl.keep hk, h.pr.keep hk, h.pc.keep hk, h.ll, h.rl, h.cl, h.lm, h.rm, h.cm, h.wf⟩
theorem CfgIn.more (h : CfgIn w B c) (hB : B ≤ B') : CfgIn w B' c := ⟨h.pl.more hB, h.pr.more hB, h.pc.more hB, h.ll, h.rl, h.cl, h.lm, h.rm, h.cm, h.wf⟩
theorem CfgIn.below (h : CfgIn w B c) (hb : Below B w w') : CfgIn w' B c := h.keep fun _ hp => hb.cell hp
theorem CfgIn.listen {k : Nat} (h : CfgIn w B c) (hk : k < c.ls.length) : ∃ ad, c.la = some ad ∧ ad.block < B ∧ w.cell? (ad.add k) = some (.string (lAt c.ls k)) := by
  obtain ⟨ad, e, hb, hc⟩ := h.pl.str hk
  refine ⟨ad, e, hb, ?_⟩
  rw [hc, lAt, List.getD, List.getElem?_eq_getElem hk]
  rfl
theorem CfgIn.cluster {k : Nat} (h : CfgIn w B c) (hk : k < c.cs.length) : ∃ ad, c.ca = some ad ∧ ad.block < B ∧ ∀ j v, (cAt c.cs k).cells[j]? = some v → w.cell? (ad.add (k * 4 + j)) = some v := by
  obtain ⟨ad, e, hb, hc⟩ := h.pc (by rw [List.length_map]; omega)
  refine ⟨ad, e, hb, hc k _ ?_⟩
  rw [List.getElem?_map, cAt, List.getD, List.getElem?_eq_getElem hk]
  rfl
theorem CfgIn.route {k : Nat} (h : CfgIn w B c) (hk : k < c.rs.length) : ∃ ad, c.ra = some ad ∧ ad.block < B ∧ ∀ j v, (rAt c.rs k).cells[j]? = some v → w.cell? (ad.add (k * 4 + j)) = some v := by
  obtain ⟨ad, e, hb, hc⟩ := h.pr (by rw [List.length_map]; omega)
  refine ⟨ad, e, hb, hc k _ ?_⟩
  rw [List.getElem?_map, rAt, List.getD, List.getElem?_eq_getElem hk]
  rfl
end

theorem add_field (ad : Addr) (n j : Nat) : ad.add (n + (j + 1)) = ⟨(ad.add n).block, (ad.add n).off + (j + 1), none⟩ := by
  rw [← Addr.add_add, Addr.add_succ']

/-- Four cells that lie in a row. -/
def Four (w : World) (p : Addr) (a b c d : Value) : Prop :=
  w.cell? p = some a ∧ w.cell? ⟨p.block, p.off + 1, none⟩ = some b ∧ w.cell? ⟨p.block, p.off + 2, none⟩ = some c ∧ w.cell? ⟨p.block, p.off + 3, none⟩ = some d
theorem four_of {w : World} {ad : Addr} {k : Nat} {l : List Value} (h : ∀ j v, l[j]? = some v → w.cell? (ad.add (k * 4 + j)) = some v) {a b c d : Value} (hl : l = [a, b, c, d]) : Four w (ad.add (k * 4)) a b c d := by
  subst hl
  refine ⟨h 0 a rfl, ?_, ?_, ?_⟩
  · rw [← add_field]; exact h 1 b rfl
  · rw [← add_field]; exact h 2 c rfl
  · rw [← add_field]; exact h 3 d rfl

section
variable {w W : World} {B k : Nat} {c : Cfg}
theorem CfgIn.listenAt (h : CfgIn w B c) (hk : k < c.ls.length) (hb : Below B w W) : ∃ ad, c.la = some ad ∧ W.cell? (ad.add k) = some (.string (lAt c.ls k)) := by
  obtain ⟨ad, e, _, hc⟩ := (h.below hb).listen hk
  exact ⟨ad, e, hc⟩
theorem CfgIn.clusterAt (h : CfgIn w B c) (hk : k < c.cs.length) (hb : Below B w W) :
    ∃ ad, c.ca = some ad ∧ Four W (ad.add (k * 4)) (.string (cAt c.cs k).name) (.int .i64 (cAt c.cs k).policy) (.int .i64 (cAt c.cs k).slots) (.slice (cAt c.cs k).ha (cAt c.cs k).hn (cAt c.cs k).hc) := by
  obtain ⟨ad, e, _, hc⟩ := (h.below hb).cluster hk
  exact ⟨ad, e, four_of hc rfl⟩
theorem CfgIn.routeAt (h : CfgIn w B c) (hk : k < c.rs.length) (hb : Below B w W) :
    ∃ ad, c.ra = some ad ∧ Four W (ad.add (k * 4)) (.string (rAt c.rs k).listen) (.string (rAt c.rs k).host) (.string (rAt c.rs k).path) (.string (rAt c.rs k).cluster) := by
  obtain ⟨ad, e, _, hc⟩ := (h.below hb).route hk
  exact ⟨ad, e, four_of hc rfl⟩
end

/-- The call answers n, and nothing that was there has turned. -/
def TellsI (w : World) (n : Int) (e : Ending) (w' : World) : Prop := e = .returned (.int .i64 n) ∧ Below w.heap.size w w'
theorem TellsI.of {w w' : World} {b c : Int} {e : Ending} (h : TellsI w b e w') (hc : b = c) : TellsI w c e w' := hc ▸ h
end Go.Proofs.Ytlaibkinkopkiaa
