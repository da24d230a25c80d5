/- A call of both, a bank and the document's row. -/
import Derived.Test.YtijjapmdkalfaaaL07A
import Derived.Test.YtijjapmdkalfaaaGR1
import Derived.Test.YtijjapmdkalfaaaGR3
import Derived.Test.YtijjapmdkalfaaaGMake
import Derived.BigRegion
import Derived.Deep.Cut
namespace Go.Proofs.Ytijjapmdkalfaaa.B
set_option linter.unusedVariables false
set_option linter.unusedSimpArgs false
open Go.ChangeShapes Go.WideShapes Go.RowKit Go.Sort Go.MapKept
def actB (K n o v : Int) : Obj := .cells #[.int .i64 K, .int .u64 n, .int .u32 o, .int .u32 v] 34 (0, 0)
/-- A bank and the document's row, all above a place. -/
structure Pr (w : World) (B p g n : Nat) (q : Nat → Nat) (gm cap : Nat) (t : Nat → Tm) : Prop where
  k : BkAt w p g n q t
  r : RwAt w gm n cap t
  hp : B ≤ p
  hg : B ≤ g
  hq : ∀ i, i < n → B ≤ q i
  n1 : 1 ≤ n
section
variable {w w' : World} {B p g n gm cap : Nat} {q : Nat → Nat} {t s : Nat → Tm}
theorem Pr.below (h : Pr w B p g n q gm cap t) (hb : Below w.heap.size w w') : Pr w' B p g n q gm cap t := ⟨h.k.below hb, h.r.below hb, h.hp, h.hg, h.hq, h.n1⟩
theorem BkAt.notRow (k : BkAt w p g n q t) (r : RwAt w gm n cap s) : ¬ own n q gm := by
  rintro ⟨i, hi, e⟩
  exact r.ne (k.rm.tms i hi) rfl e
theorem BkAt.notOld (k : BkAt w p g n q t) {b : Nat} (hb : w.heap.size ≤ b) : ¬ own n q b := by
  rintro ⟨i, hi, e⟩
  have := k.rm.ltq hi
  omega
theorem BkAt.notTy (k : BkAt w p g n q t) {b : Nat} {x : Array Value} {T : TypeId} {f : Nat × Nat} (hb : w.heap[b]? = some (.cells x T f)) (hne : (tC == T) = false) : ¬ own n q b := by
  rintro ⟨i, hi, e⟩
  exact apart_types (k.rm.tms i hi) hb hne e.symm
end
/-- What is asked of a call of both. -/
def Do7 (w : World) (B n : Nat) (e : Ending) (w' : World) : Prop :=
  ∃ (p' g' : Nat) (q' : Nat → Nat) (gm' cap' : Nat) (t' : Nat → Tm), e = .returned (.tuple #[.pointer (some ⟨p', 0, none⟩), .slice (some ⟨gm', 0, none⟩) n cap', .bool true]) ∧ Pr w' B p' g' n q' gm' cap' t' ∧ Below B w w'
set_option maxRecDepth 100000 in
set_option maxHeartbeats 6400000 in
theorem bDo {w : World} {B p g n gm cap : Nat} {q : Nat → Nat} {t : Nat → Tm} (P0 : Pr w B p g n q gm cap t) (hB : B ≤ w.heap.size) (K N o v : Int) (N0 : 0 ≤ N) (N1 : N < 18446744073709551616) (o0 : 0 ≤ o) (o1 : o < 4294967296) (v0 : 0 ≤ v) (v1 : v < 4294967296) :
    Calls Try.prog 9 #[.pointer (some ⟨p, 0, none⟩), .slice (some ⟨gm, 0, none⟩) n cap, .agg #[.int .i64 K, .int .u64 N, .int .u32 o, .int .u32 v]] w (Do7 w B n) := by
  have n8 := P0.k.rm.n8
  have n1 := P0.n1
  have OK := Lib.hid P0.k.rm.ok
  have hcm := P0.r.cm
  have hnc := P0.r.nc
  unfold maxLen at hcm
  have hq := Lib.hid P0.hq
  have hp := P0.hp
  have hg := P0.hg
  have P := P0.below (trA (tr0 w) (actB K N o v))
  have hX := blk_new w (actB K N o v)
  have nb : ¬ own n q w.heap.size := P0.k.notOld (Nat.le_refl _)
  have hb : Below B w (w.alloc (actB K N o v)) := (trA (tr0 w) (actB K N o v)).mono hB
  clear P0
  go_enter Try.func9, Try.ntmps9
  go_upto_region 1 with (fail)
  rw [show Obj.cells #[.int .i64 K, .int .u64 N, .int .u32 o, .int .u32 v] 34 (0, 0) = actB K N o v from rfl]
  generalize w.alloc (actB K N o v) = W at *
  have x0 : W.cell? ⟨w.heap.size, 0, none⟩ = some (.int .i64 K) := by have := blk_cell hX 0; simpa using this
  have x1 : W.cell? ⟨w.heap.size, 1, none⟩ = some (.int .u64 N) := by have := blk_cell hX 1; simpa using this
  have x2 : W.cell? ⟨w.heap.size, 2, none⟩ = some (.int .u32 o) := by have := blk_cell hX 2; simpa using this
  have x3 : W.cell? ⟨w.heap.size, 3, none⟩ = some (.int .u32 v) := by have := blk_cell hX 3; simpa using this
  have hx := blk_lt hX
  have HX := Lib.hid hX
  have HP := Lib.hid P
  clear hX P
  have hK : K = 0 ∨ K = 1 ∨ K = 2 ∨ K = 3 ∨ K = 4 ∨ ((K == 0) = false ∧ (K == 1) = false ∧ (K == 2) = false ∧ (K == 3) = false ∧ (K == 4) = false) := by simp; omega
  rcases hK with rfl | rfl | rfl | rfl | rfl | ⟨q0, q1, q2, q3, q4⟩
  · clear x2 x3
    go_wp2_with fail
    refine (bTick HP.out.k N N0 N1).mono ?_
    rintro e w1 ⟨rfl, K1, ho1⟩
    have y1 := (ho1.cell (p := ⟨w.heap.size, 1, none⟩) hx nb).trans x1
    have R1 := HP.out.r.off ho1 (HP.out.k.notRow HP.out.r)
    have B1 := own_below hb ho1 hq.out hB
    clear HP HX x0 x1 hb ho1
    go_wp2_with fail
    refine (gTick R1 OK.out n1 n8 N N0 N1).mono ?_
    rintro e w2 ⟨gm', cap', rfl, hgm, R2, hb2⟩
    have K2 := K1.below hb2
    have B2 := B1.trans (hb2.mono (Nat.le_trans hB B1.size))
    clear K1 R1 B1 hb2
    go_wp2_with fail
    go_ret3
    exact ⟨p, g, q, gm', cap', _, rfl, ⟨K2, R2, hp, hg, hq.out, n1⟩, B2⟩
  · obtain ⟨V, hV⟩ : ∃ V, kVal n t o = V := ⟨_, rfl⟩
    obtain ⟨E, hE⟩ : ∃ E, kLErr n o = E := ⟨_, rfl⟩
    have CG := Lib.hid (fun (w : World) (r : RwAt w gm n cap t) => by have := gLoad r OK.out n8 o o0 o1; rw [hV, hE] at this; exact this)
    have CB := Lib.hid (fun (w : World) (k : BkAt w p g n q t) => by have := bLoad k o o0 o1; rw [hV, hE] at this; exact this)
    have zV : (V == V) = true := by simp
    have zE : (E == E) = true := by simp
    clear hV hE x1 x3
    go_wp2_with fail
    refine (CG.out _ HP.out.r).mono ?_
    rintro e w1 ⟨rfl, hb1⟩
    have y2 := (hb1.cell (p := ⟨w.heap.size, 2, none⟩) hx).trans x2
    have P1 := HP.out.below hb1
    have B1 := hb.trans (hb1.mono (Nat.le_trans hB hb.size))
    clear HP HX x0 x2 hb hb1
    go_wp2_with fail
    refine (CB.out _ P1.k).mono ?_
    rintro e w' ⟨rfl, rfl⟩
    go_wp2_with fail
    go_ret3
    exact ⟨p, g, q, gm, cap, t, rfl, P1, B1⟩
  · obtain ⟨T, hT⟩ : ∃ T, kSto n t o v = T := ⟨_, rfl⟩
    obtain ⟨E, hE⟩ : ∃ E, kSErr n o = E := ⟨_, rfl⟩
    have CG := Lib.hid (fun (w : World) (r : RwAt w gm n cap t) => by have := gStore r OK.out n1 n8 o v o0 o1 v0 v1; rw [hT, hE] at this; exact this)
    have CB := Lib.hid (fun (w : World) (k : BkAt w p g n q t) => by have := bStore k o v o0 o1 v0 v1; rw [hT, hE] at this; exact this)
    have zE : (E == E) = true := by simp
    clear hT hE x1
    go_wp2_with fail
    refine (CG.out _ HP.out.r).mono ?_
    rintro e w1 ⟨gm', cap', rfl, R1, hb1, _⟩
    have y2 := (hb1.cell (p := ⟨w.heap.size, 2, none⟩) hx).trans x2
    have y3 := (hb1.cell (p := ⟨w.heap.size, 3, none⟩) hx).trans x3
    have K1 := HP.out.k.below hb1
    have B1 := hb.trans (hb1.mono (Nat.le_trans hB hb.size))
    clear HP HX x0 x2 x3 hb hb1
    go_wp2_with fail
    refine (CB.out _ K1).mono ?_
    rintro e w2 ⟨rfl, K2, ho2⟩
    have R2 := R1.off ho2 (K1.notRow R1)
    have B2 := own_below B1 ho2 hq.out hB
    clear K1 R1 B1 ho2
    go_wp2_with fail
    go_ret3
    exact ⟨p, g, q, gm', cap', T, rfl, ⟨K2, R2, hp, hg, hq.out, n1⟩, B2⟩
  · clear x1 x2 x3
    go_wp2_with fail
    refine (bReset HP.out.k).mono ?_
    rintro e w1 ⟨rfl, K1, ho1⟩
    have B1 := own_below hb ho1 hq.out hB
    have hmk := mkRun n n8
    clear HP HX x0 hb ho1
    go_wp2_with fail
    have hb2 := trD (trA (tr0 w1) (zR n))
    have R2 := (rwMade n n8 w1).below (trD (tr0 _))
    have K2 := K1.below hb2
    have B2 := B1.trans (hb2.mono (Nat.le_trans hB B1.size))
    clear K1 B1 hb2
    go_region
    all_goals
      go_wp2_with fail
      go_ret3
      exact ⟨p, g, q, _, n, _, rfl, ⟨K2, R2, hp, hg, hq.out, n1⟩, B2⟩
  · clear x1 x2 x3
    go_wp2_with fail
    refine (bCopy HP.out.k).mono ?_
    rintro e w1 ⟨p', g', q', rfl, K1, hb1, hp', hg', hq'⟩
    have P1 := HP.out.below hb1
    have hd : ∀ i, i < n → ¬ own n q (q' i) := fun i hi => HP.out.k.notOld (hq' i hi)
    have B1 := hb.trans (hb1.mono (Nat.le_trans hB hb.size))
    have hBW : B ≤ W.heap.size := Nat.le_trans hB hb.size
    have hq2 := Lib.hid (show ∀ i, i < n → B ≤ q' i from fun i hi => Nat.le_trans hBW (hq' i hi))
    have HD := Lib.hid hd
    clear HP HX x0 hb hb1 hd hq'
    go_wp2_with fail
    refine (bAlike K1 P1.r).mono ?_
    rintro e w2 ⟨rfl, hb2⟩
    have K2 := K1.below hb2
    have P2 := P1.below hb2
    have B2 := B1.trans (hb2.mono (Nat.le_trans hB B1.size))
    clear K1 P1 B1 hb2
    go_wp2_with fail
    refine (bTick P2.k 9 (by omega) (by omega)).mono ?_
    rintro e w3 ⟨rfl, L3, ho3⟩
    have K3 := K2.off ho3 (P2.k.notTy K2.cell rfl) (P2.k.notTy K2.rm.room rfl) HD.out
    have R3 := P2.r.off ho3 (P2.k.notRow P2.r)
    have B3 := own_below B2 ho3 hq.out hB
    clear K2 P2 B2 ho3
    go_wp2_with fail
    refine (bReset L3).mono ?_
    rintro e w4 ⟨rfl, L4, ho4⟩
    have K4 := K3.off ho4 (L3.notTy K3.cell rfl) (L3.notTy K3.rm.room rfl) HD.out
    have R4 := R3.off ho4 (L3.notRow R3)
    have B4 := own_below B3 ho4 hq.out hB
    clear K3 L3 R3 B3 ho4 L4
    go_wp2_with fail
    go_ret3
    exact ⟨p', g', q', gm, cap, t, rfl, ⟨K4, R4, Nat.le_trans hBW hp', Nat.le_trans hBW hg', hq2.out, n1⟩, B4⟩
  · clear x1 x2 x3
    go_wp2_with fail
    go_ret3
    exact ⟨p, g, q, gm, cap, t, rfl, HP.out, hb⟩
end Go.Proofs.Ytijjapmdkalfaaa.B
