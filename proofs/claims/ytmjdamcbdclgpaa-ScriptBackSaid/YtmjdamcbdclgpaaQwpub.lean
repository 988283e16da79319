/- script.published: the configurations that listeners may come from, told one by one. -/
import Derived.Test.YtmjdamcbdclgpaaQwnum
namespace Go.Proofs.Ytmjdamcbdclgpaa
open Go.RowKit Go.Shelf
attribute [local go_sem] Oper.semAt_some
set_option linter.unusedVariables false
set_option linter.unusedSimpArgs false
set_option maxRecDepth 100000

/-! What is told. -/
def opPub (o : Opn) : Bool := (o.kind == 3) && ((checkI o.cfg.ls o.cfg.rs o.cfg.cs).1 == 0)
def opsPubs (os : List Opn) : List Cfg := (os.filter opPub).map Opn.cfg
def thrPubs (t : Thr) : List Cfg := opsPubs t.os
def pubsTo (s : Scr) (k : Nat) : List Cfg := s.first :: ((s.ts.take k).map thrPubs).flatten
def pubsIn (s : Scr) (k : Nat) (t : Thr) (q : Nat) : List Cfg := pubsTo s k ++ opsPubs (t.os.take q)
def pubs (s : Scr) : List Cfg := s.first :: (s.ts.map thrPubs).flatten
theorem opsPubs_append (a b : List Opn) : opsPubs (a ++ b) = opsPubs a ++ opsPubs b := by simp [opsPubs]
theorem pubsTo_zero (s : Scr) : pubsTo s 0 = [s.first] := by simp [pubsTo]
theorem pubsIn_zero (s : Scr) (k : Nat) (t : Thr) : pubsIn s k t 0 = pubsTo s k := by simp [pubsIn, opsPubs]
section
variable {s : Scr} {k q : Nat} {t : Thr}
theorem pubsIn_succ (hq : q < t.os.length) : pubsIn s k t (q + 1) = pubsIn s k t q ++ (bif opPub t.os[q] then [t.os[q].cfg] else []) := by
  unfold pubsIn
  rw [List.take_succ_eq_append_getElem hq, opsPubs_append, List.append_assoc]
  congr 2
  unfold opsPubs
  rcases hp : opPub t.os[q] with _ | _
  · rw [List.filter_cons_of_neg (by rw [hp]; decide)]; rfl
  · rw [List.filter_cons_of_pos hp]; rfl
theorem pubsTo_succ (hk : k < s.ts.length) : pubsTo s (k + 1) = pubsIn s k s.ts[k] s.ts[k].os.length := by
  unfold pubsIn pubsTo
  rw [List.take_succ_eq_append_getElem hk, List.take_length, List.map_append, List.flatten_append]
  simp only [List.map_cons, List.map_nil, List.flatten_cons, List.flatten_nil, List.append_nil, thrPubs, List.cons_append]
theorem pubsTo_all (hk : s.ts.length ≤ k) : pubsTo s k = pubs s := by
  unfold pubsTo pubs
  rw [List.take_of_length_le hk]
theorem pubsTo_pre (k : Nat) : pubsTo s k <+: pubs s := by
  refine ⟨((s.ts.drop k).map thrPubs).flatten, ?_⟩
  unfold pubsTo pubs
  rw [List.cons_append, ← List.flatten_append, ← List.map_append, List.take_append_drop]
theorem pubsIn_pre (hk : k < s.ts.length) (q : Nat) : pubsIn s k s.ts[k] q <+: pubs s := by
  refine List.IsPrefix.trans ⟨opsPubs (s.ts[k].os.drop q), ?_⟩ (pubsTo_pre (k + 1))
  rw [pubsTo_succ hk]
  unfold pubsIn
  rw [List.append_assoc, ← opsPubs_append, List.take_append_drop, List.take_length]
theorem pub_mem (hk : k < s.ts.length) (hq : q < s.ts[k].os.length) (hp : opPub s.ts[k].os[q] = true) : s.ts[k].os[q].cfg ∈ pubs s := by
  refine (pubsIn_pre hk (q + 1)).subset ?_
  rw [pubsIn_succ hq, hp]
  simp
theorem pub_lt (hk : k < s.ts.length) (hq : q < s.ts[k].os.length) (hp : opPub s.ts[k].os[q] = true) : (pubsIn s k s.ts[k] q).length < (pubs s).length := by
  have := (pubsIn_pre hk (q + 1)).length_le
  rw [pubsIn_succ hq, hp, cond_true, List.length_append, List.length_singleton] at this
  omega
end
theorem opsPubs_names (os : List Opn) (out : List ByteArray) : (opsPubs os).foldl (fun o c => addL o c.ls) out = os.foldl opNames out := by
  induction os generalizing out with
  | nil => rfl
  | cons o os ih =>
    rw [List.foldl_cons, ← ih]
    unfold opsPubs
    rcases hp : opPub o with _ | _
    · rw [List.filter_cons_of_neg (by rw [hp]; decide)]
      unfold opNames
      rw [show ((o.kind == 3) && ((checkI o.cfg.ls o.cfg.rs o.cfg.cs).1 == 0)) = false from hp]
      rfl
    · rw [List.filter_cons_of_pos hp]
      unfold opNames
      rw [show ((o.kind == 3) && ((checkI o.cfg.ls o.cfg.rs o.cfg.cs).1 == 0)) = true from hp]
      rfl
theorem pubs_names (s : Scr) : (pubs s).foldl (fun o c => addL o c.ls) [] = scrNames s := by
  have key : ∀ (ts : List Thr) (out : List ByteArray), ((ts.map thrPubs).flatten).foldl (fun o c => addL o c.ls) out = ts.foldl thrNames out := by
    intro ts
    induction ts with
    | nil => intro out; rfl
    | cons t ts ih =>
      intro out
      rw [List.map_cons, List.flatten_cons, List.foldl_append, ih, List.foldl_cons]
      congr 1
      exact opsPubs_names t.os out
  exact key s.ts _

/-- What a round must keep: what lies below block B0, and the script's box. -/
structure KeptQ (B0 Bs : Nat) (W W' : World) : Prop where
  size : W.heap.size ≤ W'.heap.size
  same : ∀ p : Addr, p.block < B0 ∨ p.block = Bs → W'.cell? p = W.cell? p
theorem KeptQ.refl (B0 Bs : Nat) (W : World) : KeptQ B0 Bs W W := ⟨Nat.le_refl _, fun _ _ => rfl⟩
theorem KeptQ.trans {B0 Bs : Nat} {X Y Z : World} (h : KeptQ B0 Bs X Y) (k : KeptQ B0 Bs Y Z) : KeptQ B0 Bs X Z := ⟨Nat.le_trans h.size k.size, fun p hp => (k.same p hp).trans (h.same p hp)⟩
theorem KeptQ.below {B0 Bs n : Nat} {W W' : World} (h : Below n W W') (hB : B0 ≤ n) (hs : Bs < n) : KeptQ B0 Bs W W' := ⟨h.size, fun p hp => h.cell (by omega)⟩
theorem KeptQ.putObj {B0 Bs : Nat} {w : World} (hB : B0 ≤ w.heap.size) (hs : Bs < w.heap.size) (W : World) (l : Nat) (o o' : Obj) (hl : w.heap.size ≤ l) (h : W.heap[l]? = some o) (h1 : o.isCells = false) (h2 : o.isWalk = false) : KeptQ B0 Bs W (W.putObj l o') :=
  KeptQ.below (belowK_b (w := w) (n₀ := w.heap.size) (Nat.le_refl _) W l o o' hl h h1 h2) hB hs
theorem Ten.keep {w W : World} {p : Addr} {o : Opn} (h : Ten w p o) (hk : ∀ a : Addr, a.block = p.block → W.cell? a = w.cell? a) : Ten W p o :=
  ⟨(hk _ rfl).trans h.c0, (hk ⟨p.block, p.off + 1, none⟩ rfl).trans h.c1, (hk ⟨p.block, p.off + 2, none⟩ rfl).trans h.c2, (hk ⟨p.block, p.off + 3, none⟩ rfl).trans h.c3, (hk ⟨p.block, p.off + 4, none⟩ rfl).trans h.c4, (hk ⟨p.block, p.off + 5, none⟩ rfl).trans h.c5, (hk ⟨p.block, p.off + 6, none⟩ rfl).trans h.c6, (hk ⟨p.block, p.off + 7, none⟩ rfl).trans h.c7, (hk ⟨p.block, p.off + 8, none⟩ rfl).trans h.c8, (hk ⟨p.block, p.off + 9, none⟩ rfl).trans h.c9⟩

theorem published_in (n : Nat) (s : Scr) (w : World) :
    CallsIn Fence.wide n Try.prog 28 #[s.val] w fun e w' =>
      e = .returned (.func (.func 40) #[] #[.pointer (some ⟨w.heap.size, 0, none⟩)]) ∧ w' = w.alloc (.cells #[.slice s.first.la s.first.ls.length s.first.lc, .slice s.first.ra s.first.rs.length s.first.rc, .slice s.first.ca s.first.cs.length s.first.cc, .slice s.ta s.ts.length s.tc, .slice s.pa s.ps.length s.pc] 30) := by
  unfold Scr.val
  refine callsIn_of_wp Try.func28 rfl trivial ?_ rfl
  simp only [Try.ntmps28, List.size_toArray, List.length_cons, List.length_nil, Nat.reduceAdd, Nat.reduceSub, Array.replicate_succ, Array.replicate_zero, List.push_toArray, List.append_toArray, List.nil_append, List.cons_append]
  gi_wp2
  go_ret
  exact ⟨rfl, rfl⟩

set_option maxHeartbeats 4000000 in
/-- The told function: for every loop body that keeps what lies below B0, and the box. -/
theorem published1_in (n l : Nat) (hn : 1 ≤ n) (B0 Bs : Nat) (s : Scr) (J Jx : List {c : Cfg // c ∈ pubs s} → World → Prop)
    (hJ : ∀ pre A B, J pre A → A.grownBy B none → J pre B)
    (hY : ∀ pre (x : {c : Cfg // c ∈ pubs s}) W, J pre W → pre.length < (pubs s).length → YieldAt Fence.wide (n - 1) Try.prog l #[.agg #[.slice x.1.la x.1.ls.length x.1.lc, .slice x.1.ra x.1.rs.length x.1.rc, .slice x.1.ca x.1.cs.length x.1.cc]] W fun e W' =>
      (e = .returned (.bool true) ∧ J (pre ++ [x]) W' ∧ KeptQ B0 Bs W W') ∨ (e = .returned (.bool false) ∧ Jx (pre ++ [x]) W'))
    (W : World) (hB : B0 ≤ W.heap.size) (hBs : Bs < W.heap.size) (hin : ScrIn W B0 s)
    (c0 : W.cell? ⟨Bs, 0, none⟩ = some (.slice s.first.la s.first.ls.length s.first.lc)) (c1 : W.cell? ⟨Bs, 1, none⟩ = some (.slice s.first.ra s.first.rs.length s.first.rc)) (c2 : W.cell? ⟨Bs, 2, none⟩ = some (.slice s.first.ca s.first.cs.length s.first.cc)) (c3 : W.cell? ⟨Bs, 3, none⟩ = some (.slice s.ta s.ts.length s.tc)) (h0 : J [] W) :
    CallsIn Fence.wide n Try.prog 40 #[.func (.yield l) #[] #[], .pointer (some ⟨Bs, 0, none⟩)] W fun e W' => (∃ v, e = .returned v) ∧
      ((∃ ys : List {c : Cfg // c ∈ pubs s}, ys.map Subtype.val = pubs s ∧ J ys W') ∨ (∃ pre, True ∧ Jx pre W')) := by
  have HI := Lib.hid hin
  have HB := Lib.hid hB
  have HBs := Lib.hid hBs
  have HC3 := Lib.hid c3
  have ht1 := Nat.le_trans hin.tl hin.tm
  unfold maxLen at ht1
  clear hin hB hBs c3
  obtain ⟨fn, tmps, assign, body, hy, hR⟩ := hY [] ⟨s.first, by simp [pubs]⟩ W h0 (by simp [pubs])
  simp only at hy
  refine callsIn_of_wp Try.func40 rfl trivial ?_ rfl
  simp only [Try.ntmps40, List.size_toArray, List.length_cons, List.length_nil, Nat.reduceAdd, Nat.reduceSub, Array.replicate_succ, Array.replicate_zero, List.push_toArray, List.append_toArray, List.nil_append, List.cons_append]
  gi_wp2_with fail
  refine hR.mono ?_
  rintro e W3 (⟨rfl, hJ3, hk3⟩ | ⟨rfl, hJx3⟩)
  case inr =>
    gi_wp2_with fail
    refine bodyPost_ret (results_none rfl _ _ _) rfl ?_
    exact ⟨⟨_, rfl⟩, .inr ⟨_, trivial, hJx3⟩⟩
  case inl =>
  have c3 := (hk3.same ⟨Bs, 3, none⟩ (.inr rfl)).trans HC3.out
  clear c0 c1 c2 hy h0
  gi_wp2_with fail
  clear c3
  gi_loopg [15] s.ts.length (fun g i wr => ∃ (k : Nat) (ys : List {c : Cfg // c ∈ pubs s}), k ≤ s.ts.length ∧ g = s.ts.length - k ∧ i = .int .i64 k ∧ ys.map Subtype.val = pubsTo s k ∧ J ys wr ∧ KeptQ B0 Bs W wr)
  case atStart => exact ⟨0, _, Nat.zero_le _, rfl, rfl, by rw [pubsTo_zero]; rfl, hJ3, hk3⟩
  case round =>
    clear hJ3 hk3
    obtain ⟨k, ys, hk, rfl, rfl, hys, hJs, hkp⟩ := hrel
    have HK := Lib.hid hkp
    have HYS := Lib.hid hys
    clear hkp hys
    by_cases hlt : k < s.ts.length
    · obtain ⟨ad, e, hadb, g0⟩ := HI.out.thread hlt
      have g0 := (HK.out.same (ad.add k) (.inl (by rw [block_of_add]; exact hadb))).trans g0
      have HTI := Lib.hid (HI.out.ti _ (List.getElem_mem hlt))
      have HS1 := Lib.hid (fun (q : Nat) (hq : q < s.ts[k].os.length) => pubsIn_succ (s := s) (k := k) (t := s.ts[k]) hq)
      have HS2 := Lib.hid (pubsTo_succ hlt)
      have HM := Lib.hid (fun (q : Nat) (hq : q < s.ts[k].os.length) hp => pub_mem hlt hq hp)
      have HL := Lib.hid (fun (q : Nat) (hq : q < s.ts[k].os.length) hp => pub_lt hlt hq hp)
      obtain ⟨t, ht⟩ : ∃ t, s.ts[k] = t := ⟨_, rfl⟩
      rw [ht] at g0 HTI HS1 HS2 HM HL
      have hol := Nat.le_trans HTI.out.ol HTI.out.om
      unfold maxLen at hol
      clear ht
      rw [e]
      have HE := Lib.hid e
      clear e
      gi_wp2_with fail
      clear g0
      gi_loopg [21] t.os.length (fun g i wi => ∃ (q : Nat) (zs : List {c : Cfg // c ∈ pubs s}), q ≤ t.os.length ∧ g = t.os.length - q ∧ i = .int .i64 q ∧ zs.map Subtype.val = pubsIn s k t q ∧ J zs wi ∧ KeptQ B0 Bs W wi)
      case atStart => exact ⟨0, ys, Nat.zero_le _, rfl, rfl, by rw [pubsIn_zero]; exact HYS.out, hJs, HK.out⟩
      case round =>
        clear hJs
        obtain ⟨q, zs, hq, rfl, rfl, hzs, hJz, hkz⟩ := hrel
        have HKZ := Lib.hid hkz
        have HZS := Lib.hid hzs
        clear hkz hzs
        by_cases hql : q < t.os.length
        · obtain ⟨ad', e', hadb', hten⟩ := HTI.out.op hql
          have hten := hten.keep (W := wr) fun a ha => HKZ.out.same a (.inl (by rw [ha, block_of_add]; exact hadb'))
          have hcf := HTI.out.oi _ (List.getElem_mem hql)
          have hsu := HS1.out q hql
          have hme := HM.out q hql
          have hle := HL.out q hql
          obtain ⟨o, ho⟩ : ∃ o, t.os[q] = o := ⟨_, rfl⟩
          rw [ho] at hten hcf hsu hme hle
          obtain ⟨x0, x1, x2, x3, x4, x5, x6, x7, x8, x9⟩ := hten
          rw [e']
          have HE' := Lib.hid e'
          clear e' ho
          obtain ⟨w4, hw4⟩ : ∃ w4, wr.alloc (.cells #[.int .i64 o.kind, .string o.listen, .string o.host, .string o.path, .int .i64 o.d0, .int .i64 o.d1, .int .i64 o.n, .slice o.cfg.la o.cfg.ls.length o.cfg.lc, .slice o.cfg.ra o.cfg.rs.length o.cfg.rc, .slice o.cfg.ca o.cfg.cs.length o.cfg.cc] 49) = w4 := ⟨_, rfl⟩
          have hbox : Ten w4 ⟨wr.heap.size, 0, none⟩ o := by rw [← hw4]; exact ten_box wr o
          have B4 : Below wr.heap.size wr w4 := by rw [← hw4]; exact boxed wr _
          have hlt4 : wr.heap.size < w4.heap.size := by rw [← hw4]; simp
          have hsz0 := Nat.le_trans HB.out HKZ.out.size
          have hsz1 := Nat.lt_of_lt_of_le HBs.out HKZ.out.size
          have K4 := HKZ.out.trans (KeptQ.below B4 hsz0 hsz1)
          have hcall := (callsIn_wide (n := n - 1)).2 (passes_is o.cfg w4 ((hcf.keep fun p hp => K4.same p (.inl hp)).more (Nat.le_trans hsz0 B4.size)))
          have hJ4 := hJ _ _ w4 hJz (grownBy_below B4)
          have HK4 := Lib.hid K4
          have HBOX := Lib.hid hbox
          have hlen := congrArg List.length HZS.out
          rw [List.length_map] at hlen
          obtain ⟨y0, y1, y2, y3, y4, y5, y6, y7, y8, y9⟩ := hbox
          unfold Cfg.val at hcall
          unfold opPub at hsu hme hle
          obtain ⟨kd, hkd⟩ : ∃ kd, (o.kind == (3 : Int)) = kd := ⟨_, rfl⟩
          generalize ((checkI o.cfg.ls o.cfg.rs o.cfg.cs).1 == 0) = b at hcall hsu hme hle
          rw [hkd] at hsu hme hle
          clear hcf B4 hJz K4 hsz0 hsz1 y1 y2 y3 y4 y5 y6
          cases kd with
          | false =>
            have HSU : Hid (pubsIn s k t (q + 1) = pubsIn s k t q) := Lib.hid (by rw [hsu]; simp)
            clear hsu hme hle hcall
            gi_wp2_with fail
            refine ⟨trivial, ?_⟩
            gi_wp2_with fail
            refine ⟨fun _ h => (by cases h), ?_⟩
            gi_wp2_with fail
            rw [← HE'.out]
            go_roundg (t.os.length - (q + 1))
            case measure => omega
            case rel => exact ⟨q + 1, zs, by omega, rfl, by go_num, by rw [HSU.out, HZS.out], hJ4, HK4.out⟩
          | true =>
            cases b with
            | false =>
              have HSU : Hid (pubsIn s k t (q + 1) = pubsIn s k t q) := Lib.hid (by rw [hsu]; simp)
              clear hsu hme hle
              gi_wp2_with fail
              refine ⟨trivial, hcall.mono ?_⟩
              rintro e W5 ⟨rfl, kk⟩
              have hJ5 := hJ _ _ W5 hJ4 (grownBy_below kk)
              have K5 := Lib.hid (HK4.out.trans (KeptQ.below kk (Nat.le_trans HB.out HK4.out.size) (Nat.lt_of_lt_of_le HBs.out HK4.out.size)))
              clear hcall y0 y7 y8 y9 hJ4 kk
              gi_wp2_with fail
              refine ⟨fun _ h => (by cases h), ?_⟩
              gi_wp2_with fail
              rw [← HE'.out]
              go_roundg (t.os.length - (q + 1))
              case measure => omega
              case rel => exact ⟨q + 1, zs, by omega, rfl, by go_num, by rw [HSU.out, HZS.out], hJ5, K5.out⟩
            | true =>
              have HSU : Hid (pubsIn s k t (q + 1) = pubsIn s k t q ++ [o.cfg]) := Lib.hid (by rw [hsu]; simp)
              have hmem := hme rfl
              have hlt8 := hle rfl
              have HYY := Lib.hid (hY zs ⟨o.cfg, hmem⟩)
              clear hsu hme hle
              gi_wp2_with fail
              refine ⟨trivial, hcall.mono ?_⟩
              rintro e W5 ⟨rfl, kk⟩
              have hJ5 := hJ _ _ W5 hJ4 (grownBy_below kk)
              have K5 := Lib.hid (HK4.out.trans (KeptQ.below kk (Nat.le_trans HB.out HK4.out.size) (Nat.lt_of_lt_of_le HBs.out HK4.out.size)))
              have hb5 := HBOX.out.keep (W := W5) fun a ha => kk.cell (by rw [ha]; exact hlt4)
              obtain ⟨fn, tmps, assign, body, hy, hR⟩ := HYY.out W5 hJ5 (by omega)
              clear hcall y0 y7 y8 y9 hJ4 hJ5 kk
              obtain ⟨y0, y1, y2, y3, y4, y5, y6, y7, y8, y9⟩ := hb5
              clear y0 y1 y2 y3 y4 y5 y6
              gi_wp2_with fail
              refine hR.mono ?_
              rintro e W6 (⟨rfl, hJ6, hk6⟩ | ⟨rfl, hJx6⟩)
              · gi_wp2_with fail
                rw [← HE'.out]
                go_roundg (t.os.length - (q + 1))
                case measure => omega
                case rel => exact ⟨q + 1, zs ++ [⟨o.cfg, hmem⟩], by omega, rfl, by go_num, by rw [HSU.out, List.map_append, HZS.out]; rfl, hJ6, K5.out.trans hk6⟩
              · gi_wp2_with fail
                refine bodyPost_ret (results_none rfl _ _ _) rfl ?_
                exact ⟨⟨_, rfl⟩, .inr ⟨_, trivial, hJx6⟩⟩
        · obtain rfl : q = t.os.length := by omega
          gi_wp2_with fail
          rw [← HE.out]
          go_roundg (s.ts.length - (k + 1))
          case measure => omega
          case rel => exact ⟨k + 1, zs, by omega, rfl, by go_num, by rw [HZS.out, HS2.out], hJz, HKZ.out⟩
    · obtain rfl : k = s.ts.length := by omega
      gi_wp2_with fail
      go_end0
      exact ⟨⟨_, rfl⟩, .inl ⟨_, by rw [HYS.out, pubsTo_all (Nat.le_refl _)], hJs⟩⟩

/-- What script.published hands back tells the configurations, in their order; or some of them, where a round has said 'no more'. -/
theorem published_stops (n : Nat) (hn : 1 ≤ n) (B0 : Nat) (s : Scr) (w : World) (hin : ScrIn w B0 s) (hB : B0 ≤ w.heap.size) :
    SeqStopsK Fence.wide n Try.prog 40 #[.pointer (some ⟨w.heap.size, 0, none⟩)]
      (fun x : {c : Cfg // c ∈ pubs s} => #[.agg #[.slice x.1.la x.1.ls.length x.1.lc, .slice x.1.ra x.1.rs.length x.1.rc, .slice x.1.ca x.1.cs.length x.1.cc]]) (KeptQ B0 w.heap.size)
      (fun ys => ys.map Subtype.val = pubs s) (fun _ => True) (pubs s).length (w.alloc (.cells #[.slice s.first.la s.first.ls.length s.first.lc, .slice s.first.ra s.first.rs.length s.first.rc, .slice s.first.ca s.first.cs.length s.first.cc, .slice s.ta s.ts.length s.tc, .slice s.pa s.ps.length s.pc] 30)) := fun l J Jx W hW hJ _ hY h0 => by
  obtain ⟨f0, f1, f2, f3, _⟩ := scr_box w (.slice s.first.la s.first.ls.length s.first.lc) (.slice s.first.ra s.first.rs.length s.first.rc) (.slice s.first.ca s.first.cs.length s.first.cc) (.slice s.ta s.ts.length s.tc) (.slice s.pa s.ps.length s.pc) 30 W hW
  have hb := boxed w (.cells #[.slice s.first.la s.first.ls.length s.first.lc, .slice s.first.ra s.first.rs.length s.first.rc, .slice s.first.ca s.first.cs.length s.first.cc, .slice s.ta s.ts.length s.tc, .slice s.pa s.ps.length s.pc] 30)
  have hbw : Below w.heap.size w W := below_next hb hW
  have hs := hW.size
  rw [World.size_alloc] at hs
  exact published1_in n l hn B0 w.heap.size s J Jx (fun pre A B hj hg => hJ pre A B none hj hg (fun r e => by cases e)) hY W (by omega) (by omega) (hin.keep fun p hp => hbw.cell (by omega)) f0 f1 f2 f3 h0
end Go.Proofs.Ytmjdamcbdclgpaa
