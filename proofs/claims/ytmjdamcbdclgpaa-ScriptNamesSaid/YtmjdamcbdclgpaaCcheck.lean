/- config.Check: the first error of a configuration, and its place. -/
import Derived.Test.YtmjdamcbdclgpaaCfirst
namespace Go.Proofs.Ytmjdamcbdclgpaa
open Go.RowKit
set_option linter.unusedVariables false
set_option linter.unusedSimpArgs false
set_option maxRecDepth 100000

def fnV (m : Nat) (cv : Value) : Value := .func (.func m) #[cv] #[]
def fnsL (c : Cfg) : List Value := [fnV 43 c.val, fnV 44 c.val]
def fnsC (c : Cfg) : List Value := [fnV 45 c.val, fnV 46 c.val, fnV 47 c.val, fnV 48 c.val, fnV 49 c.val]
def fnsR (c : Cfg) : List Value := [fnV 50 c.val, fnV 51 c.val, fnV 52 c.val, fnV 53 c.val, fnV 54 c.val]

theorem askIs_of {W : World} {n m : Nat} {cv : Value} {e : Nat → Int} (h1 : ∀ args w, Sem.run Try.prog (callFunc m args) w = .ok (.enter m args) w)
    (h2 : ∀ i : Nat, i < n → ∀ w, Below W.heap.size W w → Calls Try.prog m #[cv, .int .i64 i] w (TellsI w (e i))) : AskIs W n (fnV m cv) e := ⟨m, cv, rfl, h1, h2⟩

theorem CfgIn.next {W w : World} {c : Cfg} (h : CfgIn W W.heap.size c) (hb : Below W.heap.size W w) : CfgIn w w.heap.size c := (h.below hb).more hb.size

theorem allAsk2 {W : World} {n : Nat} {f0 f1 : Value} {e0 e1 : Nat → Int} (h0 : AskIs W n f0 e0) (h1 : AskIs W n f1 e1) : AllAsk W n [f0, f1] [e0, e1] :=
  ⟨rfl, fun k f e hf he => by
    match k with
    | 0 => cases hf; cases he; exact h0
    | 1 => cases hf; cases he; exact h1
    | k + 2 => simp at hf⟩
theorem allAsk5 {W : World} {n : Nat} {f0 f1 f2 f3 f4 : Value} {e0 e1 e2 e3 e4 : Nat → Int} (h0 : AskIs W n f0 e0) (h1 : AskIs W n f1 e1) (h2 : AskIs W n f2 e2) (h3 : AskIs W n f3 e3) (h4 : AskIs W n f4 e4) : AllAsk W n [f0, f1, f2, f3, f4] [e0, e1, e2, e3, e4] :=
  ⟨rfl, fun k f e hf he => by
    match k with
    | 0 => cases hf; cases he; exact h0
    | 1 => cases hf; cases he; exact h1
    | 2 => cases hf; cases he; exact h2
    | 3 => cases hf; cases he; exact h3
    | 4 => cases hf; cases he; exact h4
    | k + 5 => simp at hf⟩

theorem asksL_are {W : World} {c : Cfg} (h : CfgIn W W.heap.size c) : AllAsk W c.ls.length (fnsL c) (asksL c.ls) :=
  allAsk2 (askIs_of Try.call43 fun i hi w hb => listenName_is c i w (h.next hb) hi) (askIs_of Try.call44 fun i hi w hb => listenOnce_is c i w (h.next hb) hi)
theorem asksC_are {W : World} {c : Cfg} (h : CfgIn W W.heap.size c) : AllAsk W c.cs.length (fnsC c) (asksC c.cs) :=
  allAsk5 (askIs_of Try.call45 fun i hi w hb => clusterName_is c i w (h.next hb) hi) (askIs_of Try.call46 fun i hi w hb => clusterOnce_is c i w (h.next hb) hi)
    (askIs_of Try.call47 fun i hi w hb => policy_is c i w (h.next hb) hi) (askIs_of Try.call48 fun i hi w hb => slots_is c i w (h.next hb) hi)
    (askIs_of Try.call49 fun i hi w hb => health_is c i w (h.next hb) hi)
theorem asksR_are {W : World} {c : Cfg} (h : CfgIn W W.heap.size c) : AllAsk W c.rs.length (fnsR c) (asksR c.ls c.rs c.cs) :=
  allAsk5 (askIs_of Try.call50 fun i hi w hb => routeListen_is c i w (h.next hb) hi) (askIs_of Try.call51 fun i hi w hb => hostAsk_is c i w (h.next hb) hi)
    (askIs_of Try.call52 fun i hi w hb => pathAsk_is c i w (h.next hb) hi) (askIs_of Try.call53 fun i hi w hb => routeCluster_is c i w (h.next hb) hi)
    (askIs_of Try.call54 fun i hi w hb => routeOnce_is c i w (h.next hb) hi)

/-- The world behind kinds: a box, three rows of askings, a row of parts. -/
def kindsW (c : Cfg) (w : World) : World :=
  ((((w.alloc (.cells #[.slice c.la c.ls.length c.lc, .slice c.ra c.rs.length c.rc, .slice c.ca c.cs.length c.cc] 64)).alloc
    (.cells (fnsL c).toArray 80)).alloc (.cells (fnsC c).toArray 80)).alloc (.cells (fnsR c).toArray 80)).alloc
    (.cells #[.int .i64 c.ls.length, .slice (some ⟨w.heap.size + 1, 0, none⟩) 2 2, .int .i64 c.cs.length, .slice (some ⟨w.heap.size + 2, 0, none⟩) 5 5, .int .i64 c.rs.length, .slice (some ⟨w.heap.size + 3, 0, none⟩) 5 5] 68)

theorem kinds_is (c : Cfg) (w : World) : Calls Try.prog 34 #[c.val] w fun e w' => e = .returned (.slice (some ⟨w.heap.size + 4, 0, none⟩) 3 3) ∧ kindsW c w = w' := by
  unfold kindsW fnsL fnsC fnsR fnV Cfg.val
  obtain ⟨la, lc, ls, ra, rc, rs, ca, cc, cs⟩ := c
  have hmf : ∀ (fn : Fn) (first cap : Array Value) (w : World), (Instr.makeFunc fn first cap).run Try.prog w = .ok (.func fn first cap) w := fun _ _ _ _ => rfl
  simp only [List.toArray]
  go_enter Try.func34, Try.ntmps34
  go_wp2
  go_ret
  exact ⟨rfl, rfl⟩
end Go.Proofs.Ytmjdamcbdclgpaa
