/- A call of both, a timer and the document's. -/
import Derived.Test.YtpgnieejikennaaL06A
import Derived.BigRegion
import Derived.Deep.RegionWith
namespace Go.Proofs.Ytpgnieejikennaa.B
set_option linter.unusedVariables false
set_option linter.unusedSimpArgs false
open Go.ChangeShapes Go.WideShapes Go.RowKit Go.Sort Go.MapKept
def actN (K n o v : Int) : Obj := .cells #[.int .i64 K, .int .u64 n, .int .u32 o, .int .u32 v] 32 (0, 0)
/-- A timer, the document's, an act, and the result's block. -/
structure Dp (w : World) (p b : Nat) (t tm tr : Tm) (K n o v : Int) : Prop where
  a : TAt w p tC t
  m : MAt w b tm
  x : w.heap[b + 1]? = some (actN K n o v)
  r : MAt w (b + 2) tr
  lt : p < b
section
variable {w w' : World} {p b : Nat} {t tm tr : Tm} {K n o v : Int}
theorem Dp.below (h : Dp w p b t tm tr K n o v) (hb : Below w.heap.size w w') : Dp w' p b t tm tr K n o v :=
  ⟨h.a.below hb, h.m.below hb, blk_below hb h.x (lt_of_block h.x), h.r.below hb, h.lt⟩
theorem Dp.offp (h : Dp w p b t tm tr K n o v) {t' : Tm} (a : TAt w' p tC t') (ho : Off (· = p) w w') : Dp w' p b t' tm tr K n o v :=
  ⟨a, h.m.off ho (fun e => by have := h.lt; omega), ho.at h.x (fun e => by have := h.lt; omega), h.r.off ho (fun e => by have := h.lt; omega), h.lt⟩
theorem Dp.row (h : Dp w p b t tm tr K n o v) (s : Tm) : Dp (w.setRow (b + 2) (rl s).toArray) p b t tm s K n o v :=
  ⟨h.a.elseRow _ _ (by have := h.lt; omega), h.m.elseRow _ _ (by omega), row_else _ _ h.x (by omega), MAt.row h.r s, h.lt⟩
theorem Dp.x0 (h : Dp w p b t tm tr K n o v) : w.cell? ⟨b + 1, 0, none⟩ = some (.int .i64 K) := by have := blk_cell h.x 0; simpa using this
theorem Dp.x1 (h : Dp w p b t tm tr K n o v) : w.cell? ⟨b + 1, 1, none⟩ = some (.int .u64 n) := by have := blk_cell h.x 1; simpa using this
theorem Dp.x2 (h : Dp w p b t tm tr K n o v) : w.cell? ⟨b + 1, 2, none⟩ = some (.int .u32 o) := by have := blk_cell h.x 2; simpa using this
theorem Dp.x3 (h : Dp w p b t tm tr K n o v) : w.cell? ⟨b + 1, 3, none⟩ = some (.int .u32 v) := by have := blk_cell h.x 3; simpa using this
end
/-- A row stored cell by cell. -/
def put8 (w : World) (b : Nat) (t : Tm) : World :=
  (((((((w.setCell ⟨b, 0, none⟩ (.int .u32 t.ld)).setCell ⟨b, 1, none⟩ (.int .u32 t.v)).setCell ⟨b, 2, none⟩ (.bool t.en)).setCell ⟨b, 3, none⟩ (.bool t.re)).setCell ⟨b, 4, none⟩ (.bool t.iq)).setCell ⟨b, 5, none⟩ (.int .u32 t.sc)).setCell ⟨b, 6, none⟩ (.int .u32 t.ph)).setCell ⟨b, 7, none⟩ (.bool t.st)
theorem put8_at {w : World} {b : Nat} {s : Tm} (h : MAt w b s) (t : Tm) : MAt (put8 w b t) b t := (((((((h.s0 t.ld).s1 t.v).s2 t.en).s3 t.re).s4 t.iq).s5 t.sc).s6 t.ph).s7 t.st
theorem put8_off (w : World) (b : Nat) (t : Tm) : Off (· = b) w (put8 w b t) :=
  (((((((off_set _ _ _ _).trans (off_set _ _ _ _)).trans (off_set _ _ _ _)).trans (off_set _ _ _ _)).trans (off_set _ _ _ _)).trans (off_set _ _ _ _)).trans (off_set _ _ _ _)).trans (off_set _ _ _ _)
theorem Dp.put {w : World} {p b : Nat} {t tm tr : Tm} {K n o v : Int} (h : Dp w p b t tm tr K n o v) (s : Tm) : Dp (put8 w (b + 2) s) p b t tm s K n o v :=
  have ho := put8_off w (b + 2) s
  ⟨h.a.off ho (fun e => by have := h.lt; omega), h.m.off ho (fun e => by omega), ho.at h.x (fun e => by omega), put8_at h.r s, h.lt⟩
theorem Dp.drew {w : World} {p b : Nat} {t tm tr : Tm} {K n o v : Int} (h : Dp w p b t tm tr K n o v) : Dp w.drew p b t tm tr K n o v := h.below (trD (tr0 w))
theorem Off.drewr {S : Nat → Prop} {a b : World} (h : Off S a b) : Off S a b.drew := h.trans (Off.ofBelow (trD (tr0 b)))
theorem resD {fn : Func} {p q r : Tmp} (h : fn.results = #[.tmp q, .cell p 27, .tmp r]) (tmps : Array Value) (w : World) {b : Nat} {t : Tm} (x y : Value) (hq : tmps[q]? = some x) (hp : tmps[p]? = some (.pointer (some ⟨b, 0, none⟩))) (hr : tmps[r]? = some y) (hg : MAt w b t) :
    (results fn tmps).run Try.prog w = .ok (.tuple #[x, .agg (rl t).toArray, y]) w := by
  simp [results, h, hp, hq, hr, asAddr, loadVar_part w b 0 _ _ _ _ _ (rl t) hg Try.underlying27 rfl iM (part_all _)]
/-- What is asked of a call of both. -/
def DoPost (w : World) (p : Nat) (e : Ending) (w' : World) : Prop :=
  ∃ (p' : Nat) (t' : Tm), e = .returned (.tuple #[.pointer (some ⟨p', 0, none⟩), .agg (rl t').toArray, .bool true]) ∧ t'.ok ∧ TAt w' p' tC t' ∧ (p' = p ∨ w.heap.size ≤ p') ∧ Off (· = p) w w'
theorem off_new {w a b : World} {p q : Nat} (h : Off (· = p) w a) (k : Off (· = q) a b) (hq : w.heap.size ≤ q) : Off (· = p) w b := h.next k (fun i hi e => by omega)
set_option maxRecDepth 100000 in
set_option maxHeartbeats 6400000 in
theorem nDo (t : Tm) (K n o v : Int) (p : Nat) (w : World) (h : t.ok) (a : TAt w p tC t) (n0 : 0 ≤ n) (n1 : n < 18446744073709551616) (o0 : 0 ≤ o) (o1 : o < 4294967296) (v0 : 0 ≤ v) (v1 : v < 4294967296) :
    Calls Try.prog 8 #[.pointer (some ⟨p, 0, none⟩), .agg (rl t).toArray, .agg #[.int .i64 K, .int .u64 n, .int .u32 o, .int .u32 v]] w (DoPost w p) := by
  have D : Dp (((w.alloc (oM t)).alloc (actN K n o v)).alloc zM) p w.heap.size t t tz K n o v :=
    ⟨a.below (trA (trA (trA (tr0 w) _) _) _), b3_0 w _ _ _, b3_1 w _ _ _, b3_2 w _ _ _, a.lt⟩
  have ho : Off (· = p) w (((w.alloc (oM t)).alloc (actN K n o v)).alloc zM) := Off.ofBelow (trA (trA (trA (tr0 w) _) _) _)
  have hpl := a.lt
  clear a
  go_enter Try.func8, Try.ntmps8
  go_upto_region 1 with (fail)
  rw [show Obj.cells (rl t).toArray 27 (0, 0) = oM t from rfl, zM_eq, show Obj.cells #[.int .i64 K, .int .u64 n, .int .u32 o, .int .u32 v] 32 (0, 0) = actN K n o v from rfl]
  generalize (((w.alloc (oM t)).alloc (actN K n o v)).alloc zM) = W at *
  have x0 := D.x0
  have hK : K = 0 ∨ K = 1 ∨ K = 2 ∨ K = 3 ∨ K = 4 ∨ ((K == 0) = false ∧ (K == 1) = false ∧ (K == 2) = false ∧ (K == 3) = false ∧ (K == 4) = false) := by simp; omega
  rcases hK with rfl | rfl | rfl | rfl | rfl | ⟨q0, q1, q2, q3, q4⟩
  · have x1 := D.x1
    go_wp2_with fail
    refine (nTick t n _ _ h D.a n0 n1).mono ?_
    rintro e w1 ⟨rfl, a1, ho1⟩
    have D1 := D.offp a1 ho1
    have ho2 := ho.trans ho1
    clear D ho a1 ho1 x0 x1
    have x1 := D1.x1
    go_wp2_with (refine loadM rfl (.tmp 4) rfl rfl D1.m ?_)
    refine (mTick t n _ h n0 n1).mono ?_
    rintro e w2 ⟨rfl, hb⟩
    have D2 := D1.below hb
    have ho3 := ho2.trans (Off.ofBelow hb)
    clear D1 ho2 hb x1
    have D3 := D2.row (t.tick n)
    have ho4 := off_new ho3 (off_row w2 (w.heap.size + 2) (rl (t.tick n)).toArray) (by omega)
    go_wp2_with (refine storeM rfl (.tmp 7) (.tmp 28) rfl rfl rfl D2.r ?_)
    refine bodyPost_ret (resD rfl _ _ _ _ rfl rfl rfl D3.r) rfl ⟨p, _, rfl, Tm.tick_ok h n0, D3.a, .inl rfl, ho4⟩
  · obtain ⟨V, hV⟩ : ∃ V, t.val o = V := ⟨_, rfl⟩
    obtain ⟨E, hE⟩ : ∃ E, nErr o = E := ⟨_, rfl⟩
    have CL := Lib.hid (fun w a => by have := nLoad t o p w h a o0 o1; rw [hV, hE] at this; exact this)
    have RL := Lib.hid (fun w => by have := mLoad t o w h o0 o1; rw [hV, hE] at this; exact this)
    have zV : (V == V) = true := by simp
    have zE : (E == E) = true := by simp
    clear hV hE
    have x2 := D.x2
    go_wp2_with (refine loadM rfl (.tmp 4) rfl rfl D.m ?_)
    refine (RL.out _).mono ?_
    rintro e W1 ⟨rfl, hb⟩
    have D1 := D.below hb
    have ho1 := ho.trans (Off.ofBelow hb)
    clear D ho hb x0 x2
    have D := D1
    have ho := ho1
    clear D1 ho1
    have x2 := D.x2
    go_wp2_with fail
    refine (CL.out _ D.a).mono ?_
    rintro e w' ⟨rfl, rfl⟩
    go_wp2_with fail
    have c0 := D.m.c0
    have c1 := D.m.c1
    have c2 := D.m.c2
    have c3 := D.m.c3
    have c4 := D.m.c4
    have c5 := D.m.c5
    have c6 := D.m.c6
    have c7 := D.m.c7
    have r0 := D.r.c0
    have r1 := D.r.c1
    have r2 := D.r.c2
    have r3 := D.r.c3
    have r4 := D.r.c4
    have r5 := D.r.c5
    have r6 := D.r.c6
    have r7 := D.r.c7
    have f := D.r.free
    go_big_region
    have D3 := (D.put t).drew
    have ho4 := (off_new ho (put8_off W1 (w.heap.size + 2) t) (by omega)).drewr
    all_goals
      go_wp2_with fail
      refine bodyPost_ret (resD rfl _ _ _ _ rfl rfl rfl D3.r) rfl ⟨p, _, rfl, h, D3.a, .inl rfl, ho4⟩
  · obtain ⟨s, hs⟩ : ∃ s, (if nSErr o = 0 then t.sto o v else t) = s := ⟨_, rfl⟩
    obtain ⟨E, hE⟩ : ∃ E, nSErr o = E := ⟨_, rfl⟩
    have hso : s.ok := by rw [← hs]; split <;> first | exact Tm.sto_ok h o v v0 v1 | exact h
    have CS := Lib.hid (fun w a => by have := nStore t o v p w h a o0 o1 v0 v1; rw [hs, hE] at this; exact this)
    have MS := Lib.hid (fun w => by have := mStore t o v w h o0 o1 v0 v1; rw [hs, hE] at this; exact this)
    have zE : (E == E) = true := by simp
    clear hs hE
    have x2 := D.x2
    have x3 := D.x3
    go_wp2_with (refine loadM rfl (.tmp 4) rfl rfl D.m ?_)
    refine (MS.out _).mono ?_
    rintro e W1 ⟨rfl, hb⟩
    have D1 := D.below hb
    have ho1 := ho.trans (Off.ofBelow hb)
    clear D ho hb x0 x2 x3 MS
    have hsz : w.heap.size + 2 < W1.heap.size := D1.r.lt
    have Z : MAt (W1.alloc zM) W1.heap.size tz := blk_new W1 zM
    have hb := below_setRow (trA (tr0 W1) zM) (rl s).toArray (Nat.le_refl W1.heap.size)
    have D := D1.below hb
    have ho := ho1.trans (Off.ofBelow hb)
    have Q := MAt.row Z s
    go_upto_region 11 with (refine storeM rfl (.tmp 13) (.tmp 64) rfl rfl rfl Z ?_)
    rw [zM_eq]
    clear D1 ho1 Z hb
    generalize ((W1.alloc zM).setRow W1.heap.size (rl s).toArray) = W2 at *
    generalize W1.heap.size = q at *
    have x2 := D.x2
    have x3 := D.x3
    have c0 := Q.c0
    have c1 := Q.c1
    have c2 := Q.c2
    have c3 := Q.c3
    have c4 := Q.c4
    have c5 := Q.c5
    have c6 := Q.c6
    have c7 := Q.c7
    have r0 := D.r.c0
    have r1 := D.r.c1
    have r2 := D.r.c2
    have r3 := D.r.c3
    have r4 := D.r.c4
    have r5 := D.r.c5
    have r6 := D.r.c6
    have r7 := D.r.c7
    have f := D.r.free
    have HD := Lib.hid D
    have HQ := Lib.hid Q
    clear D Q
    go_region_with (go_at_call 16; refine (CS.out _ HD.out.drew.a).mono ?_; rintro e w5 ⟨rfl, a5, ho5⟩; have D5 := HD.out.drew.offp a5 ho5; have Q5 := (HQ.out.below (trD (tr0 _))).off ho5 (fun e => by have := HD.out.lt; omega); clear x2 x3 c0 c1 c2 c3 c4 c5 c6 c7 r0 r1 r2 r3 r4 r5 r6 r7 f; have c0 := Q5.c0; have c1 := Q5.c1; have c2 := Q5.c2; have c3 := Q5.c3; have c4 := Q5.c4; have c5 := Q5.c5; have c6 := Q5.c6; have c7 := Q5.c7; have r0 := D5.r.c0; have r1 := D5.r.c1; have r2 := D5.r.c2; have r3 := D5.r.c3; have r4 := D5.r.c4; have r5 := D5.r.c5; have r6 := D5.r.c6; have r7 := D5.r.c7; have f := D5.r.free)
    all_goals
      have D3 := D5.put s
      have ho4 := off_new (ho.drewr.trans ho5) (put8_off w5 (w.heap.size + 2) s) (by omega)
      go_wp2_with fail
      refine bodyPost_ret (resD rfl _ _ _ _ rfl rfl rfl D3.r) rfl ⟨p, _, rfl, hso, D3.a, .inl rfl, ho4⟩
  · go_wp2_with fail
    refine (nReset t _ _ D.a).mono ?_
    rintro e w1 ⟨rfl, rfl⟩
    have ho1 := off_row W p (wl tz).toArray
    have D1 := D.offp (TAt.row D.a tz) ho1
    have ho2 := ho.trans ho1
    clear D ho ho1 x0
    generalize W.setRow p (wl tz).toArray = W1 at *
    have D3 := D1.row tz
    have ho4 := off_new ho2 (off_row W1 (w.heap.size + 2) (rl tz).toArray) (by omega)
    go_wp2_with (refine storeM rfl (.tmp 7) (.tmp 81) rfl rfl (t := tz) rfl D1.r ?_)
    refine bodyPost_ret (resD rfl _ _ _ _ rfl rfl rfl D3.r) rfl ⟨p, _, rfl, tz_ok, D3.a, .inl rfl, ho4⟩
  · go_wp2_with fail
    refine (nCopy t p _ D.a).mono ?_
    rintro e w1 ⟨rfl, rfl⟩
    have A : TAt (W.alloc (.cells (wl t).toArray tC (0, 0))) W.heap.size tC t := blk_new W _
    have hb := trA (tr0 W) (.cells (wl t).toArray tC (0, 0))
    have hWs := ho.size
    have hpp : p ≠ W.heap.size := by have := D.a.lt; omega
    have hrp : W.heap.size ≠ w.heap.size + 2 := by have := D.r.lt; omega
    have D1 := D.below hb
    have ho1 := ho.trans (Off.ofBelow hb)
    clear D ho hb x0
    generalize W.alloc (.cells (wl t).toArray tC (0, 0)) = W1 at *
    generalize W.heap.size = p' at *
    go_wp2_with (refine loadMg (.tmp 4) rfl rfl rfl D1.m ?_)
    refine (nAlike t p' _ h A).mono ?_
    rintro e W2 ⟨rfl, hb⟩
    have A2 := A.below hb
    have D2 := D1.below hb
    have ho2 := ho1.trans (Off.ofBelow hb)
    clear A D1 ho1 hb
    go_wp2_with fail
    refine (nTick t 7 _ _ h D2.a (by omega) (by omega)).mono ?_
    rintro e W3 ⟨rfl, a3, k3⟩
    have A3 := A2.off k3 (fun e => hpp e.symm)
    have D3 := D2.offp a3 k3
    have ho3 := ho2.trans k3
    clear A2 D2 ho2 a3 k3
    go_wp2_with fail
    refine (nReset _ _ _ D3.a).mono ?_
    rintro e W4 ⟨rfl, rfl⟩
    have k4 := off_row W3 p (wl tz).toArray
    have A := A3.off k4 (fun e => hpp e.symm)
    have D := D3.offp (TAt.row D3.a tz) k4
    have ho := ho3.trans k4
    clear A3 D3 ho3 k4
    generalize W3.setRow p (wl tz).toArray = W4 at *
    go_wp2_with fail
    have c0 := D.m.c0
    have c1 := D.m.c1
    have c2 := D.m.c2
    have c3 := D.m.c3
    have c4 := D.m.c4
    have c5 := D.m.c5
    have c6 := D.m.c6
    have c7 := D.m.c7
    have r0 := D.r.c0
    have r1 := D.r.c1
    have r2 := D.r.c2
    have r3 := D.r.c3
    have r4 := D.r.c4
    have r5 := D.r.c5
    have r6 := D.r.c6
    have r7 := D.r.c7
    have f := D.r.free
    go_big_region
    have D3 := (D.put t).drew
    have A3 := (A.off (put8_off W4 (w.heap.size + 2) t) hrp).below (trD (tr0 _))
    have ho4 := (off_new ho (put8_off W4 (w.heap.size + 2) t) (by omega)).drewr
    all_goals
      go_wp2_with fail
      refine bodyPost_ret (resD rfl _ _ _ _ rfl rfl rfl D3.r) rfl ⟨p', _, rfl, h, A3, .inr hWs, ho4⟩
  · have c0 := D.m.c0
    have c1 := D.m.c1
    have c2 := D.m.c2
    have c3 := D.m.c3
    have c4 := D.m.c4
    have c5 := D.m.c5
    have c6 := D.m.c6
    have c7 := D.m.c7
    have r0 := D.r.c0
    have r1 := D.r.c1
    have r2 := D.r.c2
    have r3 := D.r.c3
    have r4 := D.r.c4
    have r5 := D.r.c5
    have r6 := D.r.c6
    have r7 := D.r.c7
    have f := D.r.free
    go_wp2_with fail
    go_big_region
    have D3 := (D.put t).drew
    have ho4 := (off_new ho (put8_off W (w.heap.size + 2) t) (by omega)).drewr
    all_goals
      go_wp2_with fail
      refine bodyPost_ret (resD rfl _ _ _ _ rfl rfl rfl D3.r) rfl ⟨p, _, rfl, h, D3.a, .inl rfl, ho4⟩
end Go.Proofs.Ytpgnieejikennaa.B
