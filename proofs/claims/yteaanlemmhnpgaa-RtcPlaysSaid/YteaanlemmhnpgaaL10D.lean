/- A call of both, a clock and the document's. (Written by tools/gen_l10d.py.) -/
import Derived.Test.YteaanlemmhnpgaaL10A
import Derived.BigRegion
import Derived.Deep.RegionWith
namespace Go.Proofs.Yteaanlemmhnpgaa.B
set_option linter.unusedVariables false
set_option linter.unusedSimpArgs false
open Go.ChangeShapes Go.WideShapes Go.RowKit Go.Sort Go.MapKept
def actT (K n o v : Int) : Obj := .cells #[.int .i64 K, .int .u64 n, .int .u32 o, .int .u32 v] 35 (0, 0)
/-- A clock, the document's, an act, and the result's block. -/
structure Tp (w : World) (p b : Nat) (t tm tr : Rk) (K n o v : Int) : Prop where
  a : EAt w p tRtc t
  m : KAt w b tm
  x : w.heap[b + 1]? = some (actT K n o v)
  r : KAt w (b + 2) tr
  lt : p < b
section
variable {w w' : World} {p b : Nat} {t tm tr : Rk} {K n o v : Int}
theorem Tp.below (h : Tp w p b t tm tr K n o v) (hb : Below w.heap.size w w') : Tp w' p b t tm tr K n o v :=
  ⟨h.a.below hb, h.m.below hb, blk_below hb h.x (lt_of_block h.x), h.r.below hb, h.lt⟩
theorem Tp.offp (h : Tp w p b t tm tr K n o v) {t' : Rk} (a : EAt w' p tRtc t') (ho : Off (· = p) w w') : Tp w' p b t' tm tr K n o v :=
  ⟨a, h.m.off ho (fun e => by have := h.lt; omega), ho.at h.x (fun e => by have := h.lt; omega), h.r.off ho (fun e => by have := h.lt; omega), h.lt⟩
theorem Tp.row (h : Tp w p b t tm tr K n o v) (s : Rk) : Tp (w.setRow (b + 2) (kl s).toArray) p b t tm s K n o v :=
  ⟨h.a.elseRow _ _ (by have := h.lt; omega), h.m.elseRow _ _ (by omega), row_else _ _ h.x (by omega), KAt.row h.r s, h.lt⟩
theorem Tp.x0 (h : Tp w p b t tm tr K n o v) : w.cell? ⟨b + 1, 0, none⟩ = some (.int .i64 K) := by have := blk_cell h.x 0; simpa using this
theorem Tp.x1 (h : Tp w p b t tm tr K n o v) : w.cell? ⟨b + 1, 1, none⟩ = some (.int .u64 n) := by have := blk_cell h.x 1; simpa using this
theorem Tp.x2 (h : Tp w p b t tm tr K n o v) : w.cell? ⟨b + 1, 2, none⟩ = some (.int .u32 o) := by have := blk_cell h.x 2; simpa using this
theorem Tp.x3 (h : Tp w p b t tm tr K n o v) : w.cell? ⟨b + 1, 3, none⟩ = some (.int .u32 v) := by have := blk_cell h.x 3; simpa using this
end
/-- A row stored cell by cell. -/
def put8 (w : World) (b : Nat) (t : Rk) : World :=
  (((((((w.setCell ⟨b, 0, none⟩ (.int .u32 t.div)).setCell ⟨b, 1, none⟩ (.int .u32 t.rest)).setCell ⟨b, 2, none⟩ (.int .u32 t.set)).setCell ⟨b, 3, none⟩ (.int .u64 t.sec)).setCell ⟨b, 4, none⟩ (.int .u32 t.al)).setCell ⟨b, 5, none⟩ (.int .u32 t.ah)).setCell ⟨b, 6, none⟩ (.bool t.en)).setCell ⟨b, 7, none⟩ (.bool t.st)
theorem put8_at {w : World} {b : Nat} {s : Rk} (h : KAt w b s) (t : Rk) : KAt (put8 w b t) b t := (((((((h.s0 t.div).s1 t.rest).s2 t.set).s3 t.sec).s4 t.al).s5 t.ah).s6 t.en).s7 t.st
theorem put8_off (w : World) (b : Nat) (t : Rk) : Off (· = b) w (put8 w b t) :=
  (((((((off_set _ _ _ _).trans (off_set _ _ _ _)).trans (off_set _ _ _ _)).trans (off_set _ _ _ _)).trans (off_set _ _ _ _)).trans (off_set _ _ _ _)).trans (off_set _ _ _ _)).trans (off_set _ _ _ _)
theorem Tp.put {w : World} {p b : Nat} {t tm tr : Rk} {K n o v : Int} (h : Tp w p b t tm tr K n o v) (s : Rk) : Tp (put8 w (b + 2) s) p b t tm s K n o v :=
  have ho := put8_off w (b + 2) s
  ⟨h.a.off ho (fun e => by have := h.lt; omega), h.m.off ho (fun e => by omega), ho.at h.x (fun e => by omega), put8_at h.r s, h.lt⟩
theorem Tp.drew {w : World} {p b : Nat} {t tm tr : Rk} {K n o v : Int} (h : Tp w p b t tm tr K n o v) : Tp w.drew p b t tm tr K n o v := h.below (trD (tr0 w))
theorem Off.drewr {S : Nat → Prop} {a b : World} (h : Off S a b) : Off S a b.drew := h.trans (Off.ofBelow (trD (tr0 b)))
theorem resT {fn : Func} {p q r : Tmp} (h : fn.results = #[.tmp q, .cell p 31, .tmp r]) (tmps : Array Value) (w : World) {b : Nat} {t : Rk} (x y : Value) (hq : tmps[q]? = some x) (hp : tmps[p]? = some (.pointer (some ⟨b, 0, none⟩))) (hr : tmps[r]? = some y) (hg : KAt w b t) :
    (results fn tmps).run Try.prog w = .ok (.tuple #[x, .agg (kl t).toArray, y]) w := by
  simp [results, h, hp, hq, hr, asAddr, loadVar_part w b 0 _ _ _ _ _ (kl t) hg Try.underlying31 rfl iK (part_all _)]
/-- What is asked of a call of both. -/
def DoPost (w : World) (p : Nat) (e : Ending) (w' : World) : Prop :=
  ∃ (p' : Nat) (t' : Rk), e = .returned (.tuple #[.pointer (some ⟨p', 0, none⟩), .agg (kl t').toArray, .bool true]) ∧ t'.ok ∧ EAt w' p' tRtc t' ∧ (p' = p ∨ w.heap.size ≤ p') ∧ Off (· = p) w w'
theorem off_new {w a b : World} {p q : Nat} (h : Off (· = p) w a) (k : Off (· = q) a b) (hq : w.heap.size ≤ q) : Off (· = p) w b := h.next k (fun i hi e => by omega)
set_option maxRecDepth 100000 in
set_option maxHeartbeats 6400000 in
theorem eDoTick (t : Rk) (K n o v : Int) (p : Nat) (w : World) (h : t.ok) (a : EAt w p tRtc t) (n0 : 0 ≤ n) (n1 : n < 18446744073709551616) (o0 : 0 ≤ o) (o1 : o < 4294967296) (v0 : 0 ≤ v) (v1 : v < 4294967296) (hK : K = 0) :
    Calls Try.prog 9 #[.pointer (some ⟨p, 0, none⟩), .agg (kl t).toArray, .agg #[.int .i64 K, .int .u64 n, .int .u32 o, .int .u32 v]] w (DoPost w p) := by
  have D : Tp (((w.alloc (oK t)).alloc (actT K n o v)).alloc zK) p w.heap.size t t rkz K n o v :=
    ⟨a.below (trA (trA (trA (tr0 w) _) _) _), b3_0 w _ _ _, b3_1 w _ _ _, b3_2 w _ _ _, a.lt⟩
  have ho : Off (· = p) w (((w.alloc (oK t)).alloc (actT K n o v)).alloc zK) := Off.ofBelow (trA (trA (trA (tr0 w) _) _) _)
  have hpl := a.lt
  clear a
  subst hK
  go_enter Try.func9, Try.ntmps9
  go_upto_region 1 with (fail)
  rw [oK_eq, zK_eq, show Obj.cells #[.int .i64 0, .int .u64 n, .int .u32 o, .int .u32 v] 35 (0, 0) = actT 0 n o v from rfl]
  generalize (((w.alloc (oK t)).alloc (actT 0 n o v)).alloc zK) = W at *
  have x0 := D.x0
  obtain ⟨s, hs⟩ : ∃ s, t.tick n = s := ⟨_, rfl⟩
  have hso : s.ok := by rw [← hs]; exact Rk.tick_ok h n0
  have CS := Lib.hid (fun w a => by have := eTick t n p w h a n0 n1; rw [hs] at this; exact this)
  have MS := Lib.hid (fun w => by have := kTick t n w h n0 n1; rw [hs] at this; exact this)
  clear hs
  have x1 := D.x1
  go_wp2_with fail
  refine (CS.out _ D.a).mono ?_
  rintro e W1 ⟨rfl, a1, k1⟩
  have D1 := D.offp a1 k1
  have ho1 := ho.trans k1
  clear D ho a1 k1 x0 x1 CS
  have x1 := D1.x1
  go_wp2_with (refine loadK rfl (.tmp 4) rfl rfl D1.m ?_)
  refine (MS.out _).mono ?_
  rintro e W2 ⟨rfl, hb⟩
  have D2 := D1.below hb
  have ho2 := ho1.trans (Off.ofBelow hb)
  clear D1 ho1 hb x1 MS
  have D3 := D2.row s
  have ho4 := off_new ho2 (off_rowE W2 (w.heap.size + 2) (kl s).toArray) (by omega)
  go_wp2_with (refine storeK rfl (.tmp 7) (.tmp 28) rfl rfl (t := s) rfl D2.r ?_)
  refine bodyPost_ret (resT rfl _ _ _ _ rfl rfl rfl D3.r) rfl ⟨p, _, rfl, hso, D3.a, .inl rfl, ho4⟩
set_option maxRecDepth 100000 in
set_option maxHeartbeats 6400000 in
theorem eDoLoad (t : Rk) (K n o v : Int) (p : Nat) (w : World) (h : t.ok) (a : EAt w p tRtc t) (n0 : 0 ≤ n) (n1 : n < 18446744073709551616) (o0 : 0 ≤ o) (o1 : o < 4294967296) (v0 : 0 ≤ v) (v1 : v < 4294967296) (hK : K = 1) :
    Calls Try.prog 9 #[.pointer (some ⟨p, 0, none⟩), .agg (kl t).toArray, .agg #[.int .i64 K, .int .u64 n, .int .u32 o, .int .u32 v]] w (DoPost w p) := by
  have D : Tp (((w.alloc (oK t)).alloc (actT K n o v)).alloc zK) p w.heap.size t t rkz K n o v :=
    ⟨a.below (trA (trA (trA (tr0 w) _) _) _), b3_0 w _ _ _, b3_1 w _ _ _, b3_2 w _ _ _, a.lt⟩
  have ho : Off (· = p) w (((w.alloc (oK t)).alloc (actT K n o v)).alloc zK) := Off.ofBelow (trA (trA (trA (tr0 w) _) _) _)
  have hpl := a.lt
  clear a
  subst hK
  go_enter Try.func9, Try.ntmps9
  go_upto_region 1 with (fail)
  rw [oK_eq, zK_eq, show Obj.cells #[.int .i64 1, .int .u64 n, .int .u32 o, .int .u32 v] 35 (0, 0) = actT 1 n o v from rfl]
  generalize (((w.alloc (oK t)).alloc (actT 1 n o v)).alloc zK) = W at *
  have x0 := D.x0
  obtain ⟨V, hV⟩ : ∃ V, t.valE o = V := ⟨_, rfl⟩
  obtain ⟨E, hE⟩ : ∃ E, sErrT o = E := ⟨_, rfl⟩
  have CL := Lib.hid (fun w a => by have := eLoad t o p w h a o0 o1; rw [hV, hE] at this; exact this)
  have RL := Lib.hid (fun w => by have := kLoad t o w h o0 o1; rw [hV, hE] at this; exact this)
  have zV : (V == V) = true := by simp
  have zE : (E == E) = true := by simp
  clear hV hE
  have x2 := D.x2
  go_wp2_with (refine loadK rfl (.tmp 4) rfl rfl D.m ?_)
  refine (RL.out _).mono ?_
  rintro e W1 ⟨rfl, hb⟩
  have D1 := D.below hb
  have ho1 := ho.trans (Off.ofBelow hb)
  clear D ho hb x0 x2
  have D := D1
  have ho := ho1
  clear D1 ho1
  have x2 := D.x2
  go_wp2_with fail
  refine (CL.out _ D.a).mono ?_
  rintro e W2 ⟨rfl, hb⟩
  have D1 := D.below hb
  have ho1 := ho.trans (Off.ofBelow hb)
  clear D ho hb x2
  have D := D1
  have ho := ho1
  clear D1 ho1
  go_wp2_with fail
  have c0 := D.m.c0
  have c1 := D.m.c1
  have c2 := D.m.c2
  have c3 := D.m.c3
  have c4 := D.m.c4
  have c5 := D.m.c5
  have c6 := D.m.c6
  have c7 := D.m.c7
  have r0 := D.r.c0
  have r1 := D.r.c1
  have r2 := D.r.c2
  have r3 := D.r.c3
  have r4 := D.r.c4
  have r5 := D.r.c5
  have r6 := D.r.c6
  have r7 := D.r.c7
  have f := D.r.free
  go_big_region
  have D3 := (D.put t).drew
  have ho4 := (off_new ho (put8_off W2 (w.heap.size + 2) t) (by omega)).drewr
  all_goals
    go_wp2_with fail
    refine bodyPost_ret (resT rfl _ _ _ _ rfl rfl rfl D3.r) rfl ⟨p, _, rfl, h, D3.a, .inl rfl, ho4⟩
set_option maxRecDepth 100000 in
set_option maxHeartbeats 6400000 in
theorem eDoStore (t : Rk) (K n o v : Int) (p : Nat) (w : World) (h : t.ok) (a : EAt w p tRtc t) (n0 : 0 ≤ n) (n1 : n < 18446744073709551616) (o0 : 0 ≤ o) (o1 : o < 4294967296) (v0 : 0 ≤ v) (v1 : v < 4294967296) (hK : K = 2) :
    Calls Try.prog 9 #[.pointer (some ⟨p, 0, none⟩), .agg (kl t).toArray, .agg #[.int .i64 K, .int .u64 n, .int .u32 o, .int .u32 v]] w (DoPost w p) := by
  have D : Tp (((w.alloc (oK t)).alloc (actT K n o v)).alloc zK) p w.heap.size t t rkz K n o v :=
    ⟨a.below (trA (trA (trA (tr0 w) _) _) _), b3_0 w _ _ _, b3_1 w _ _ _, b3_2 w _ _ _, a.lt⟩
  have ho : Off (· = p) w (((w.alloc (oK t)).alloc (actT K n o v)).alloc zK) := Off.ofBelow (trA (trA (trA (tr0 w) _) _) _)
  have hpl := a.lt
  clear a
  subst hK
  go_enter Try.func9, Try.ntmps9
  go_upto_region 1 with (fail)
  rw [oK_eq, zK_eq, show Obj.cells #[.int .i64 2, .int .u64 n, .int .u32 o, .int .u32 v] 35 (0, 0) = actT 2 n o v from rfl]
  generalize (((w.alloc (oK t)).alloc (actT 2 n o v)).alloc zK) = W at *
  have x0 := D.x0
  obtain ⟨s, hs⟩ : ∃ s, t.sto o v = s := ⟨_, rfl⟩
  obtain ⟨E, hE⟩ : ∃ E, wErrT o = E := ⟨_, rfl⟩
  have hso : s.ok := by rw [← hs]; exact Rk.sto_ok h v0 v1
  have CS := Lib.hid (fun w a => by have := eStore t o v p w h a o0 o1 v0 v1; rw [hs, hE] at this; exact this)
  have MS := Lib.hid (fun w => by have := kStore t o v w h o0 o1 v0 v1; unfold KPost at this; rw [hs, hE] at this; exact this)
  have zE : (E == E) = true := by simp
  clear hs hE
  have x2 := D.x2
  have x3 := D.x3
  go_wp2_with (refine loadK rfl (.tmp 4) rfl rfl D.m ?_)
  refine (MS.out _).mono ?_
  rintro e W1 ⟨rfl, hb⟩
  have D1 := D.below hb
  have ho1 := ho.trans (Off.ofBelow hb)
  clear D ho hb x0 x2 x3 MS
  have hsz : w.heap.size + 2 < W1.heap.size := D1.r.lt
  have Z : KAt (W1.alloc zK) W1.heap.size rkz := blk_new W1 zK
  have hb := below_setRow (trA (tr0 W1) zK) (kl s).toArray (Nat.le_refl W1.heap.size)
  have D := D1.below hb
  have ho := ho1.trans (Off.ofBelow hb)
  have Q := KAt.row Z s
  go_upto_region 11 with (refine storeK rfl (.tmp 13) (.tmp 64) rfl rfl rfl Z ?_)
  rw [zK_eq]
  clear D1 ho1 Z hb
  generalize ((W1.alloc zK).setRow W1.heap.size (kl s).toArray) = W2 at *
  generalize W1.heap.size = q at *
  have x2 := D.x2
  have x3 := D.x3
  have c0 := Q.c0
  have c1 := Q.c1
  have c2 := Q.c2
  have c3 := Q.c3
  have c4 := Q.c4
  have c5 := Q.c5
  have c6 := Q.c6
  have c7 := Q.c7
  have r0 := D.r.c0
  have r1 := D.r.c1
  have r2 := D.r.c2
  have r3 := D.r.c3
  have r4 := D.r.c4
  have r5 := D.r.c5
  have r6 := D.r.c6
  have r7 := D.r.c7
  have f := D.r.free
  have HD := Lib.hid D
  have HQ := Lib.hid Q
  clear D Q
  go_region_with (go_at_call 18; refine (CS.out _ HD.out.drew.a).mono ?_; rintro e w5 ⟨rfl, a5, ho5⟩; have D5 := HD.out.drew.offp a5 ho5; have Q5 := (HQ.out.below (trD (tr0 _))).off ho5 (fun e => by have := HD.out.lt; omega); clear x2 x3 c0 c1 c2 c3 c4 c5 c6 c7 r0 r1 r2 r3 r4 r5 r6 r7 f; have c0 := Q5.c0; have c1 := Q5.c1; have c2 := Q5.c2; have c3 := Q5.c3; have c4 := Q5.c4; have c5 := Q5.c5; have c6 := Q5.c6; have c7 := Q5.c7; have r0 := D5.r.c0; have r1 := D5.r.c1; have r2 := D5.r.c2; have r3 := D5.r.c3; have r4 := D5.r.c4; have r5 := D5.r.c5; have r6 := D5.r.c6; have r7 := D5.r.c7; have f := D5.r.free)
  all_goals
    have D3 := D5.put s
    have ho4 := off_new (ho.drewr.trans ho5) (put8_off w5 (w.heap.size + 2) s) (by omega)
    go_wp2_with fail
    refine bodyPost_ret (resT rfl _ _ _ _ rfl rfl rfl D3.r) rfl ⟨p, _, rfl, hso, D3.a, .inl rfl, ho4⟩
set_option maxRecDepth 100000 in
set_option maxHeartbeats 6400000 in
theorem eDoReset (t : Rk) (K n o v : Int) (p : Nat) (w : World) (h : t.ok) (a : EAt w p tRtc t) (n0 : 0 ≤ n) (n1 : n < 18446744073709551616) (o0 : 0 ≤ o) (o1 : o < 4294967296) (v0 : 0 ≤ v) (v1 : v < 4294967296) (hK : K = 3) :
    Calls Try.prog 9 #[.pointer (some ⟨p, 0, none⟩), .agg (kl t).toArray, .agg #[.int .i64 K, .int .u64 n, .int .u32 o, .int .u32 v]] w (DoPost w p) := by
  have D : Tp (((w.alloc (oK t)).alloc (actT K n o v)).alloc zK) p w.heap.size t t rkz K n o v :=
    ⟨a.below (trA (trA (trA (tr0 w) _) _) _), b3_0 w _ _ _, b3_1 w _ _ _, b3_2 w _ _ _, a.lt⟩
  have ho : Off (· = p) w (((w.alloc (oK t)).alloc (actT K n o v)).alloc zK) := Off.ofBelow (trA (trA (trA (tr0 w) _) _) _)
  have hpl := a.lt
  clear a
  subst hK
  go_enter Try.func9, Try.ntmps9
  go_upto_region 1 with (fail)
  rw [oK_eq, zK_eq, show Obj.cells #[.int .i64 3, .int .u64 n, .int .u32 o, .int .u32 v] 35 (0, 0) = actT 3 n o v from rfl]
  generalize (((w.alloc (oK t)).alloc (actT 3 n o v)).alloc zK) = W at *
  have x0 := D.x0
  have hso := Rk.zero_ok h
  have KR := Lib.hid (fun w => kReset t w)
  have CR := Lib.hid (fun w a => eReset t p w a)
  generalize t.zero = s at *
  go_wp2_with fail
  refine (CR.out _ D.a).mono ?_
  rintro e w1 ⟨rfl, a1, k1⟩
  have D1 := D.offp a1 k1
  have ho1 := ho.trans k1
  clear D ho a1 k1 x0 CR
  go_wp2_with (refine loadK rfl (.tmp 4) rfl rfl D1.m ?_)
  refine (KR.out _).mono ?_
  rintro e W2 ⟨rfl, hb⟩
  have D2 := D1.below hb
  have ho2 := ho1.trans (Off.ofBelow hb)
  clear D1 ho1 hb KR
  have D3 := D2.row s
  have ho4 := off_new ho2 (off_rowE W2 (w.heap.size + 2) (kl s).toArray) (by omega)
  go_wp2_with (refine storeK rfl (.tmp 7) (.tmp 82) rfl rfl (t := s) rfl D2.r ?_)
  refine bodyPost_ret (resT rfl _ _ _ _ rfl rfl rfl D3.r) rfl ⟨p, _, rfl, hso, D3.a, .inl rfl, ho4⟩
set_option maxRecDepth 100000 in
set_option maxHeartbeats 6400000 in
theorem eDoCopy (t : Rk) (K n o v : Int) (p : Nat) (w : World) (h : t.ok) (a : EAt w p tRtc t) (n0 : 0 ≤ n) (n1 : n < 18446744073709551616) (o0 : 0 ≤ o) (o1 : o < 4294967296) (v0 : 0 ≤ v) (v1 : v < 4294967296) (hK : K = 4) :
    Calls Try.prog 9 #[.pointer (some ⟨p, 0, none⟩), .agg (kl t).toArray, .agg #[.int .i64 K, .int .u64 n, .int .u32 o, .int .u32 v]] w (DoPost w p) := by
  have D : Tp (((w.alloc (oK t)).alloc (actT K n o v)).alloc zK) p w.heap.size t t rkz K n o v :=
    ⟨a.below (trA (trA (trA (tr0 w) _) _) _), b3_0 w _ _ _, b3_1 w _ _ _, b3_2 w _ _ _, a.lt⟩
  have ho : Off (· = p) w (((w.alloc (oK t)).alloc (actT K n o v)).alloc zK) := Off.ofBelow (trA (trA (trA (tr0 w) _) _) _)
  have hpl := a.lt
  clear a
  subst hK
  go_enter Try.func9, Try.ntmps9
  go_upto_region 1 with (fail)
  rw [oK_eq, zK_eq, show Obj.cells #[.int .i64 4, .int .u64 n, .int .u32 o, .int .u32 v] 35 (0, 0) = actT 4 n o v from rfl]
  generalize (((w.alloc (oK t)).alloc (actT 4 n o v)).alloc zK) = W at *
  have x0 := D.x0
  go_wp2_with fail
  refine (eCopy t p _ D.a).mono ?_
  rintro e W1 ⟨rfl, A, hb⟩
  have hWs := ho.size
  have hpp : p ≠ W.heap.size := by have := D.a.lt; omega
  have hrp : W.heap.size ≠ w.heap.size + 2 := by have := D.r.lt; omega
  have D1 := D.below hb
  have ho1 := ho.trans (Off.ofBelow hb)
  clear D ho hb x0
  generalize W.heap.size = p' at *
  go_wp2_with (refine loadKg (.tmp 4) rfl rfl rfl D1.m ?_)
  refine (eAlike t p' _ h A).mono ?_
  rintro e W2 ⟨rfl, hb⟩
  have A2 := A.below hb
  have D2 := D1.below hb
  have ho2 := ho1.trans (Off.ofBelow hb)
  clear A D1 ho1 hb
  go_wp2_with fail
  refine (eTick t 77 _ _ h D2.a (by omega) (by omega)).mono ?_
  rintro e W3 ⟨rfl, a3, k3⟩
  have A3 := A2.off k3 (fun e => hpp e.symm)
  have D3 := D2.offp a3 k3
  have ho3 := ho2.trans k3
  clear A2 D2 ho2 a3 k3
  go_wp2_with fail
  refine (eReset _ _ _ D3.a).mono ?_
  rintro e W5 ⟨rfl, a5, k5⟩
  have A := A3.off k5 (fun e => hpp e.symm)
  have D := D3.offp a5 k5
  have ho := ho3.trans k5
  clear A3 D3 ho3 a5 k5
  go_wp2_with fail
  have c0 := D.m.c0
  have c1 := D.m.c1
  have c2 := D.m.c2
  have c3 := D.m.c3
  have c4 := D.m.c4
  have c5 := D.m.c5
  have c6 := D.m.c6
  have c7 := D.m.c7
  have r0 := D.r.c0
  have r1 := D.r.c1
  have r2 := D.r.c2
  have r3 := D.r.c3
  have r4 := D.r.c4
  have r5 := D.r.c5
  have r6 := D.r.c6
  have r7 := D.r.c7
  have f := D.r.free
  go_big_region
  have D3 := (D.put t).drew
  have A3 := (A.off (put8_off W5 (w.heap.size + 2) t) hrp).below (trD (tr0 _))
  have ho4 := (off_new ho (put8_off W5 (w.heap.size + 2) t) (by omega)).drewr
  all_goals
    go_wp2_with fail
    refine bodyPost_ret (resT rfl _ _ _ _ rfl rfl rfl D3.r) rfl ⟨p', _, rfl, h, A3, .inr hWs, ho4⟩
set_option maxRecDepth 100000 in
set_option maxHeartbeats 6400000 in
theorem eDoElse (t : Rk) (K n o v : Int) (p : Nat) (w : World) (h : t.ok) (a : EAt w p tRtc t) (n0 : 0 ≤ n) (n1 : n < 18446744073709551616) (o0 : 0 ≤ o) (o1 : o < 4294967296) (v0 : 0 ≤ v) (v1 : v < 4294967296) (q0 : (K == 0) = false) (q1 : (K == 1) = false) (q2 : (K == 2) = false) (q3 : (K == 3) = false) (q4 : (K == 4) = false) :
    Calls Try.prog 9 #[.pointer (some ⟨p, 0, none⟩), .agg (kl t).toArray, .agg #[.int .i64 K, .int .u64 n, .int .u32 o, .int .u32 v]] w (DoPost w p) := by
  have D : Tp (((w.alloc (oK t)).alloc (actT K n o v)).alloc zK) p w.heap.size t t rkz K n o v :=
    ⟨a.below (trA (trA (trA (tr0 w) _) _) _), b3_0 w _ _ _, b3_1 w _ _ _, b3_2 w _ _ _, a.lt⟩
  have ho : Off (· = p) w (((w.alloc (oK t)).alloc (actT K n o v)).alloc zK) := Off.ofBelow (trA (trA (trA (tr0 w) _) _) _)
  have hpl := a.lt
  clear a
  go_enter Try.func9, Try.ntmps9
  go_upto_region 1 with (fail)
  rw [oK_eq, zK_eq, show Obj.cells #[.int .i64 K, .int .u64 n, .int .u32 o, .int .u32 v] 35 (0, 0) = actT K n o v from rfl]
  generalize (((w.alloc (oK t)).alloc (actT K n o v)).alloc zK) = W at *
  have x0 := D.x0
  have c0 := D.m.c0
  have c1 := D.m.c1
  have c2 := D.m.c2
  have c3 := D.m.c3
  have c4 := D.m.c4
  have c5 := D.m.c5
  have c6 := D.m.c6
  have c7 := D.m.c7
  have r0 := D.r.c0
  have r1 := D.r.c1
  have r2 := D.r.c2
  have r3 := D.r.c3
  have r4 := D.r.c4
  have r5 := D.r.c5
  have r6 := D.r.c6
  have r7 := D.r.c7
  have f := D.r.free
  go_wp2_with fail
  go_big_region
  have D3 := (D.put t).drew
  have ho4 := (off_new ho (put8_off W (w.heap.size + 2) t) (by omega)).drewr
  all_goals
    go_wp2_with fail
    refine bodyPost_ret (resT rfl _ _ _ _ rfl rfl rfl D3.r) rfl ⟨p, _, rfl, h, D3.a, .inl rfl, ho4⟩
theorem eDo (t : Rk) (K n o v : Int) (p : Nat) (w : World) (h : t.ok) (a : EAt w p tRtc t) (n0 : 0 ≤ n) (n1 : n < 18446744073709551616) (o0 : 0 ≤ o) (o1 : o < 4294967296) (v0 : 0 ≤ v) (v1 : v < 4294967296) :
    Calls Try.prog 9 #[.pointer (some ⟨p, 0, none⟩), .agg (kl t).toArray, .agg #[.int .i64 K, .int .u64 n, .int .u32 o, .int .u32 v]] w (DoPost w p) := by
  have hK : K = 0 ∨ K = 1 ∨ K = 2 ∨ K = 3 ∨ K = 4 ∨ ((K == 0) = false ∧ (K == 1) = false ∧ (K == 2) = false ∧ (K == 3) = false ∧ (K == 4) = false) := by simp; omega
  rcases hK with hK | hK | hK | hK | hK | ⟨q0, q1, q2, q3, q4⟩
  · exact eDoTick t K n o v p w h a n0 n1 o0 o1 v0 v1 hK
  · exact eDoLoad t K n o v p w h a n0 n1 o0 o1 v0 v1 hK
  · exact eDoStore t K n o v p w h a n0 n1 o0 o1 v0 v1 hK
  · exact eDoReset t K n o v p w h a n0 n1 o0 o1 v0 v1 hK
  · exact eDoCopy t K n o v p w h a n0 n1 o0 o1 v0 v1 hK
  · exact eDoElse t K n o v p w h a n0 n1 o0 o1 v0 v1 q0 q1 q2 q3 q4
end Go.Proofs.Yteaanlemmhnpgaa.B
