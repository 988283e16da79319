/- What package config asks of one part: the calls that look at other parts. -/
import Derived.Test.YtmjdamcbdclgpaaCfunc
import Derived.StillTailTactics
namespace Go.Proofs.Ytmjdamcbdclgpaa
open Go.RowKit
set_option linter.unusedVariables false
set_option linter.unusedSimpArgs false
set_option maxRecDepth 100000


theorem cell_in3 (w : World) (a b c : Value) (t : TypeId) :
    (w.alloc (.cells #[a, b, c] t)).cell? ⟨w.heap.size, 0, none⟩ = some a ∧ (w.alloc (.cells #[a, b, c] t)).cell? ⟨w.heap.size, 1, none⟩ = some b ∧ (w.alloc (.cells #[a, b, c] t)).cell? ⟨w.heap.size, 2, none⟩ = some c :=
  ⟨World.cell?_alloc_new w #[a, b, c] t 0, World.cell?_alloc_new w #[a, b, c] t 1, World.cell?_alloc_new w #[a, b, c] t 2⟩

theorem listenOnce_is (c : Cfg) (i : Nat) (w : World) (h : CfgIn w w.heap.size c) (hi : i < c.ls.length) :
    Calls Try.prog 44 #[c.val, .int .i64 i] w (TellsI w (lOnce c.ls i)) := by
  obtain ⟨ad, e, f0⟩ := h.listenAt hi (boxed w (.cells #[.slice c.la c.ls.length c.lc, .slice c.ra c.rs.length c.rc, .slice c.ca c.cs.length c.cc] 64))
  have HP := h.pl
  have hl := h.ll
  have hm := h.lm
  clear h
  obtain ⟨la, lc, ls, ra, rc, rs, ca, cc, cs⟩ := c
  simp only at e f0 hi HP hl hm
  subst e
  unfold Cfg.val lOnce
  simp only
  generalize lAt ls i = nm at f0 ⊢
  have B := boxed w (.cells #[.slice (some ad) ls.length lc, .slice ra rs.length rc, .slice ca cs.length cc] 64)
  obtain ⟨b, hb⟩ : ∃ b, hasL (ls.take i) nm = b := ⟨_, rfl⟩
  have HI : ∀ w2, Below w.heap.size w w2 → Calls Try.prog 61 #[.slice (some ad) i lc, .string nm] w2 fun e w' => e = .returned (.bool b) ∧ w2 = w' := fun w2 B => by
    have := contains_is (some ad) lc w.heap.size (ls.take i) nm w2 (by rw [List.map_take]; exact (HP.take i).below B) (by rw [List.length_take]; omega) hm
    rwa [hb, List.length_take, Nat.min_eq_left (by omega)] at this
  rw [hb]
  clear hb
  go_enter Try.func44, Try.ntmps44
  go_wp2_with fail
  have g0 := cell_in3 w (.slice (some ad) ls.length lc) (.slice ra rs.length rc) (.slice ca cs.length cc) 64
  generalize w.alloc (.cells #[.slice (some ad) ls.length lc, .slice ra rs.length rc, .slice ca cs.length cc] 64) = W at *
  obtain ⟨g0, g1, g2⟩ := g0
  have hle : i ≤ lc := by omega
  go_still_tail 9, (by kernel_rfl)
  change wpList _ _ _ _ _ W.drew
  replace B := below_drew B
  clear f0
  clear g0 g1 g2
  generalize W.drew = w2 at B ⊢
  replace HI := HI w2 B
  go_wp2_with (first | (go_at_call 61; ((with_reducible refine HI.mono ?_); rintro e wx ⟨rfl, rfl⟩)) | (go_at_call 59; ((with_reducible refine (unless_is _ _ _).mono ?_); rintro e wx ⟨rfl, rfl⟩)))
  go_ret
  exact ⟨rfl, B⟩

theorem routeListen_is (c : Cfg) (i : Nat) (w : World) (h : CfgIn w w.heap.size c) (hi : i < c.rs.length) :
    Calls Try.prog 50 #[c.val, .int .i64 i] w (TellsI w (rListen c.ls c.rs i)) := by
  obtain ⟨ad, e, f0, f1, f2, f3⟩ := h.routeAt hi (boxed w (.cells #[.slice c.la c.ls.length c.lc, .slice c.ra c.rs.length c.rc, .slice c.ca c.cs.length c.cc] 64))
  have HP := h.pl
  have hl := h.ll
  have hm := h.lm
  clear h
  obtain ⟨la, lc, ls, ra, rc, rs, ca, cc, cs⟩ := c
  simp only at e f0 f1 f2 f3 hi HP hl hm
  subst e
  unfold Cfg.val rListen
  simp only
  generalize rAt rs i = x at f0 f1 f2 f3 ⊢
  obtain ⟨li, ho, pa, cl⟩ := x
  simp only at f0 f1 f2 f3 ⊢
  have B := boxed w (.cells #[.slice la ls.length lc, .slice (some ad) rs.length rc, .slice ca cs.length cc] 64)
  obtain ⟨b, hb⟩ : ∃ b, hasL ls li = b := ⟨_, rfl⟩
  have HI : ∀ w2, Below w.heap.size w w2 → Calls Try.prog 61 #[.slice la ls.length lc, .string li] w2 fun e w' => e = .returned (.bool b) ∧ w2 = w' := fun w2 B => by
    have := contains_is la lc w.heap.size ls li w2 (HP.below B) hl hm
    rwa [hb] at this
  rw [hb]
  clear hb
  go_enter Try.func50, Try.ntmps50
  go_wp2_with fail
  have g0 := cell_in3 w (.slice la ls.length lc) (.slice (some ad) rs.length rc) (.slice ca cs.length cc) 64
  generalize w.alloc (.cells #[.slice la ls.length lc, .slice (some ad) rs.length rc, .slice ca cs.length cc] 64) = W at *
  obtain ⟨g0, g1, g2⟩ := g0
  go_still_tail 8, (by kernel_rfl)
  change wpList _ _ _ _ _ W.drew
  replace B := below_drew B
  clear f0 f1 f2 f3
  clear g0 g1 g2
  generalize W.drew = w2 at B ⊢
  replace HI := HI w2 B
  go_wp2_with (first | (go_at_call 61; ((with_reducible refine HI.mono ?_); rintro e wx ⟨rfl, rfl⟩)) | (go_at_call 59; ((with_reducible refine (unless_is _ _ _).mono ?_); rintro e wx ⟨rfl, rfl⟩)))
  go_ret
  exact ⟨rfl, B⟩

theorem clusterOnce_is (c : Cfg) (i : Nat) (w : World) (h : CfgIn w w.heap.size c) (hi : i < c.cs.length) :
    Calls Try.prog 46 #[c.val, .int .i64 i] w (TellsI w (cOnce c.cs i)) := by
  obtain ⟨ad, e, f0, f1, f2, f3⟩ := h.clusterAt hi (boxed w (.cells #[.slice c.la c.ls.length c.lc, .slice c.ra c.rs.length c.rc, .slice c.ca c.cs.length c.cc] 64))
  have HP := h.pc
  have hl := h.cl
  have hm := h.cm
  clear h
  obtain ⟨la, lc, ls, ra, rc, rs, ca, cc, cs⟩ := c
  simp only at e f0 f1 f2 f3 hi HP hl hm
  subst e
  unfold Cfg.val cOnce
  simp only
  generalize cAt cs i = x at f0 f1 f2 f3 ⊢
  obtain ⟨nm, pol, sl, ha, hn, hcc⟩ := x
  simp only at f0 f1 f2 f3 ⊢
  have B := boxed w (.cells #[.slice la ls.length lc, .slice ra rs.length rc, .slice (some ad) cs.length cc] 64)
  obtain ⟨b, hb⟩ : ∃ b, hasC (cs.take i) nm = b := ⟨_, rfl⟩
  have HI : ∀ w2, Below w.heap.size w w2 → Calls Try.prog 62 #[.slice (some ad) i cc, .string nm] w2 (Says w2 b) := fun w2 B => by
    have := isNamed_is (some ad) cc (cs.take i) nm w2 (by rw [List.map_take]; exact ((HP.take i).below B).more B.size) (by rw [List.length_take]; omega) hm
    rwa [hb, List.length_take, Nat.min_eq_left (by omega)] at this
  rw [hb]
  clear hb
  go_enter Try.func46, Try.ntmps46
  go_wp2_with fail
  have g0 := cell_in3 w (.slice la ls.length lc) (.slice ra rs.length rc) (.slice (some ad) cs.length cc) 64
  generalize w.alloc (.cells #[.slice la ls.length lc, .slice ra rs.length rc, .slice (some ad) cs.length cc] 64) = W at *
  obtain ⟨g0, g1, g2⟩ := g0
  have hle : i ≤ cc := by omega
  go_still_tail 10, (by kernel_rfl)
  change wpList _ _ _ _ _ W.drew
  replace B := below_drew B
  clear f0 f1 f2 f3
  clear g0 g1 g2
  generalize W.drew = w2 at B ⊢
  replace HI := HI w2 B
  go_wp2_with (first | (go_at_call 62; ((with_reducible refine HI.mono ?_); rintro e wx ⟨rfl, kk⟩; replace B := below_next B kk; clear kk)) | (go_at_call 59; ((with_reducible refine (unless_is _ _ _).mono ?_); rintro e wx ⟨rfl, rfl⟩)))
  go_ret
  exact ⟨rfl, B⟩

theorem routeCluster_is (c : Cfg) (i : Nat) (w : World) (h : CfgIn w w.heap.size c) (hi : i < c.rs.length) :
    Calls Try.prog 53 #[c.val, .int .i64 i] w (TellsI w (rCluster c.cs c.rs i)) := by
  obtain ⟨ad, e, f0, f1, f2, f3⟩ := h.routeAt hi (boxed w (.cells #[.slice c.la c.ls.length c.lc, .slice c.ra c.rs.length c.rc, .slice c.ca c.cs.length c.cc] 64))
  have HP := h.pc
  have hl := h.cl
  have hm := h.cm
  clear h
  obtain ⟨la, lc, ls, ra, rc, rs, ca, cc, cs⟩ := c
  simp only at e f0 f1 f2 f3 hi HP hl hm
  subst e
  unfold Cfg.val rCluster
  simp only
  generalize rAt rs i = x at f0 f1 f2 f3 ⊢
  obtain ⟨li, ho, pa, cl⟩ := x
  simp only at f0 f1 f2 f3 ⊢
  have B := boxed w (.cells #[.slice la ls.length lc, .slice (some ad) rs.length rc, .slice ca cs.length cc] 64)
  obtain ⟨b, hb⟩ : ∃ b, hasC cs cl = b := ⟨_, rfl⟩
  have HI : ∀ w2, Below w.heap.size w w2 → Calls Try.prog 62 #[.slice ca cs.length cc, .string cl] w2 (Says w2 b) := fun w2 B => by
    have := isNamed_is ca cc cs cl w2 ((HP.below B).more B.size) hl hm
    rwa [hb] at this
  rw [hb]
  clear hb
  go_enter Try.func53, Try.ntmps53
  go_wp2_with fail
  have g0 := cell_in3 w (.slice la ls.length lc) (.slice (some ad) rs.length rc) (.slice ca cs.length cc) 64
  generalize w.alloc (.cells #[.slice la ls.length lc, .slice (some ad) rs.length rc, .slice ca cs.length cc] 64) = W at *
  obtain ⟨g0, g1, g2⟩ := g0
  go_still_tail 8, (by kernel_rfl)
  change wpList _ _ _ _ _ W.drew
  replace B := below_drew B
  clear f0 f1 f2 f3
  clear g0 g1 g2
  generalize W.drew = w2 at B ⊢
  replace HI := HI w2 B
  go_wp2_with (first | (go_at_call 62; ((with_reducible refine HI.mono ?_); rintro e wx ⟨rfl, kk⟩; replace B := below_next B kk; clear kk)) | (go_at_call 59; ((with_reducible refine (unless_is _ _ _).mono ?_); rintro e wx ⟨rfl, rfl⟩)))
  go_ret
  exact ⟨rfl, B⟩



theorem routeOnce_is (c : Cfg) (i : Nat) (w : World) (h : CfgIn w w.heap.size c) (hi : i < c.rs.length) :
    Calls Try.prog 54 #[c.val, .int .i64 i] w (TellsI w (rOnce c.rs i)) := by
  obtain ⟨ad, e, f0, f1, f2, f3⟩ := h.routeAt hi (boxed w (.cells #[.slice c.la c.ls.length c.lc, .slice c.ra c.rs.length c.rc, .slice c.ca c.cs.length c.cc] 64))
  have HP := h.pr
  have hl := h.rl
  have hm := h.rm
  clear h
  obtain ⟨la, lc, ls, ra, rc, rs, ca, cc, cs⟩ := c
  simp only at e f0 f1 f2 f3 hi HP hl hm
  subst e
  unfold Cfg.val rOnce
  simp only
  generalize rAt rs i = x at f0 f1 f2 f3 ⊢
  obtain ⟨li, ho, pa, cl⟩ := x
  simp only at f0 f1 f2 f3 ⊢
  have B := boxed w (.cells #[.slice la ls.length lc, .slice (some ad) rs.length rc, .slice ca cs.length cc] 64)
  obtain ⟨b, hb⟩ : ∃ b, hasR (rs.take i) ⟨li, ho, pa, cl⟩ = b := ⟨_, rfl⟩
  have HI : ∀ w2, Below w.heap.size w w2 → w.heap.size + 1 < w2.heap.size → Four w2 ⟨w.heap.size + 1, 0, none⟩ (.string li) (.string ho) (.string pa) (.string cl) →
      Calls Try.prog 66 #[.slice (some ad) i rc, .func (.func 65) #[] #[.pointer (some ⟨w.heap.size + 1, 0, none⟩)]] w2 (Says w2 b) := fun w2 B hlt hf => by
    have := hasR_is (some ad) rc (rs.take i) ⟨li, ho, pa, cl⟩ (w.heap.size + 1) w2 (by rw [List.map_take]; exact ((HP.take i).below B).more B.size) (by rw [List.length_take]; omega) hm hlt hf
    rwa [hb, List.length_take, Nat.min_eq_left (by omega)] at this
  rw [hb]
  clear hb
  have hmf : ∀ (fn : Fn) (first cap : Array Value) (w : World), (Instr.makeFunc fn first cap).run Try.prog w = .ok (.func fn first cap) w := fun _ _ _ _ => rfl
  go_enter Try.func54, Try.ntmps54
  go_wp2_with fail
  have B2 : Below w.heap.size w ((w.alloc (.cells #[.slice la ls.length lc, .slice (some ad) rs.length rc, .slice ca cs.length cc] 64)).alloc (.cells #[.string li, .string ho, .string pa, .string cl] 74)) := B.alloc (by simp) _
  refine (HI _ B2 (by simp) (four_in4 _ _ _ _ _ _ _)).mono ?_
  rintro e wx ⟨rfl, kk⟩
  replace B := below_next B2 kk
  clear kk B2 HI f0 f1 f2 f3
  go_wp2_with (first | (go_at_call 59; ((with_reducible refine (unless_is _ _ _).mono ?_); rintro e wx ⟨rfl, rfl⟩)))
  go_ret
  exact ⟨rfl, B⟩
end Go.Proofs.Ytmjdamcbdclgpaa
