/- The law ClintPlays: whatever a clint is asked. -/
import Derived.Test.YtfkkimbdjobpmaaL05A
namespace Go.Proofs.Ytfkkimbdjobpmaa.B
set_option linter.unusedVariables false
set_option linter.unusedSimpArgs false
open Go.ChangeShapes Go.WideShapes Go.RowKit Go.Sort Go.MapKept
def actO (K n o v : Int) : Obj := .cells #[.int .i64 K, .int .u64 n, .int .u32 o, .int .u32 v] 35 (0, 0)
/-- A clint, the document's, and an act. -/
structure Pl (w0 w : World) (p m : Nat) (t : Int) (N : Nat) (D S : Nat → Int) (r : Nat) (t2 : Int) (D2 S2 : Nat → Int) (x : Nat) (K n o v : Int) : Prop where
  a : CAt w p m t N D S
  q : RcAt w r t2 N (fun i => lo (D2 i)) (fun i => hi (D2 i)) S2
  c : w.heap[x]? = some (actO K n o v)
  hb : Below w0.heap.size w0 w
  h1 : w0.heap.size ≤ p
  h2 : w0.heap.size ≤ r
section
variable {w0 w w' : World} {p m r x N : Nat} {t t2 K n o v : Int} {D S D2 S2 : Nat → Int}
theorem Pl.pr (h : Pl w0 w p m t N D S r t2 D2 S2 x K n o v) : p ≠ r := apart_types h.a.cell h.q rfl
theorem Pl.px (h : Pl w0 w p m t N D S r t2 D2 S2 x K n o v) : p ≠ x := apart_types h.a.cell h.c rfl
theorem Pl.rx (h : Pl w0 w p m t N D S r t2 D2 S2 x K n o v) : r ≠ x := apart_types h.q h.c rfl
theorem Pl.mr (h : Pl w0 w p m t N D S r t2 D2 S2 x K n o v) : m ≠ r := fun e => by
  obtain ⟨_, _, hb, _⟩ := h.a.map; have := h.q; unfold RcAt at this; rw [e, this] at hb; cases hb
theorem Pl.below (h : Pl w0 w p m t N D S r t2 D2 S2 x K n o v) (hb : Below w.heap.size w w') : Pl w0 w' p m t N D S r t2 D2 S2 x K n o v :=
  ⟨h.a.below hb, RcAt.below h.q hb, blk_below hb h.c (lt_of_block h.c), tr h.hb hb, h.h1, h.h2⟩
theorem Pl.offp (h : Pl w0 w p m t N D S r t2 D2 S2 x K n o v) {t' : Int} {D' S' : Nat → Int} (a : CAt w' p m t' N D' S') (ho : Off (· = p) w w') : Pl w0 w' p m t' N D' S' r t2 D2 S2 x K n o v :=
  ⟨a, ho.at h.q (fun e => h.pr e.symm), ho.at h.c (fun e => h.px e.symm), off_below h.hb ho h.h1 (Nat.le_refl _), h.h1, h.h2⟩
/-- Another clint turns. -/
theorem Pl.offo (h : Pl w0 w p m t N D S r t2 D2 S2 x K n o v) {k : Nat} (hk : k ≠ p ∧ k ≠ m ∧ k ≠ r ∧ k ≠ x ∧ w0.heap.size ≤ k) (ho : Off (· = k) w w') : Pl w0 w' p m t N D S r t2 D2 S2 x K n o v :=
  ⟨h.a.off ho (fun e => hk.1 e.symm) (fun e => hk.2.1 e.symm), ho.at h.q (fun e => hk.2.2.1 e.symm), ho.at h.c (fun e => hk.2.2.2.1 e.symm), off_below h.hb ho hk.2.2.2.2 (Nat.le_refl _), h.h1, h.h2⟩
theorem Pl.row (h : Pl w0 w p m t N D S r t2 D2 S2 x K n o v) (t3 : Int) (D3 S3 : Nat → Int) : Pl w0 (w.setRow r (rcr t3 N (fun i => lo (D3 i)) (fun i => hi (D3 i)) S3).toArray) p m t N D S r t3 D3 S3 x K n o v :=
  ⟨h.a.kept (setRow_other _ _ _ _ h.pr) (setRow_other _ _ _ _ h.mr), RcAt.row h.q, row_else r _ h.c (fun e => h.rx e.symm), below_setRow h.hb _ h.h2, h.h1, h.h2⟩
theorem Pl.x0 (h : Pl w0 w p m t N D S r t2 D2 S2 x K n o v) : w.cell? ⟨x, 0, none⟩ = some (.int .i64 K) := by have := blk_cell h.c 0; simpa using this
theorem Pl.x1 (h : Pl w0 w p m t N D S r t2 D2 S2 x K n o v) : w.cell? ⟨x, 1, none⟩ = some (.int .u64 n) := by have := blk_cell h.c 1; simpa using this
theorem Pl.x2 (h : Pl w0 w p m t N D S r t2 D2 S2 x K n o v) : w.cell? ⟨x, 2, none⟩ = some (.int .u32 o) := by have := blk_cell h.c 2; simpa using this
theorem Pl.x3 (h : Pl w0 w p m t N D S r t2 D2 S2 x K n o v) : w.cell? ⟨x, 3, none⟩ = some (.int .u32 v) := by have := blk_cell h.c 3; simpa using this
theorem Pl.size (h : Pl w0 w p m t N D S r t2 D2 S2 x K n o v) : (rcr t2 N (fun i => lo (D2 i)) (fun i => hi (D2 i)) S2).toArray.size = 26 := by rw [List.size_toArray, rcr_len]
end
set_option maxRecDepth 100000 in
set_option maxHeartbeats 6400000 in
theorem clintPlays (w : World) (N : Nat) (y : Option Addr) (len cap : Nat) (h1 : 1 ≤ N) (n8 : N ≤ 8)
    (hy : len = 0 ∨ ∃ b off, y = some ⟨b, off, none⟩ ∧ len ≤ cap ∧ cap ≤ maxLen ∧ b < w.heap.size ∧ ∀ i, i < cap → ∃ K n o v : Int, w.cell? ⟨b, off + i * 4, none⟩ = some (.int .i64 K) ∧ w.cell? ⟨b, off + i * 4 + 1, none⟩ = some (.int .u64 n) ∧ w.cell? ⟨b, off + i * 4 + 2, none⟩ = some (.int .u32 o) ∧ w.cell? ⟨b, off + i * 4 + 3, none⟩ = some (.int .u32 v) ∧
      (-9223372036854775808 ≤ K ∧ K < 9223372036854775808) ∧ (0 ≤ n ∧ n < 18446744073709551616) ∧ (0 ≤ o ∧ o < 4294967296) ∧ (0 ≤ v ∧ v < 4294967296)) :
    Calls Try.prog 3 #[.int .i64 N, .slice y len cap] w fun e w' => e = .returned (.bool true) ∧ Below w.heap.size w w' := by
  have HY := Lib.hid hy
  clear hy
  go_enter Try.func3, Try.ntmps3
  go_wp2_with fail
  refine (cNew N w h1 n8).mono ?_
  rintro e w1 ⟨p, hp, rfl, A, hb⟩
  go_wp2_with fail
  refine (rcNew N w1).mono ?_
  unfold rcl
  rintro e w2 ⟨rfl, hb2⟩
  have A3 := (A.below hb2).below (below_setRow (trA (tr0 w2) zC) (rcr 0 N (fun i => lo (nvD i)) (fun i => hi (nvD i)) zeS).toArray (Nat.le_refl w2.heap.size))
  have R3 : RcAt ((w2.alloc zC).setRow w2.heap.size (rcr 0 N (fun i => lo (nvD i)) (fun i => hi (nvD i)) zeS).toArray) w2.heap.size 0 N (fun i => lo (nvD i)) (fun i => hi (nvD i)) zeS := RcAt.row (blk_new w2 zC)
  have b2 := tr hb hb2
  have hr : w.heap.size ≤ w2.heap.size := b2.size
  have b3 := tr b2 (below_setRow (trA (tr0 w2) zC) (rcr 0 N (fun i => lo (nvD i)) (fun i => hi (nvD i)) zeS).toArray (Nat.le_refl w2.heap.size))
  clear A hb hb2 b2
  go_upto_region 7 with (refine storeC rfl (.tmp 7) (.tmp 44) rfl rfl rfl (blk_new _ _) (by rfl) ?_)
  rw [zC_eq]
  generalize ((w2.alloc zC).setRow w2.heap.size (rcr 0 N (fun i => lo (nvD i)) (fun i => hi (nvD i)) zeS).toArray) = W3 at *
  generalize w2.heap.size = r at *
  generalize w.heap.size = m0 at A3
  go_wp2_with fail
  go_loopw [5, 8] (fun l i wr => ∃ (k p m : Nat) (t : Int) (D S : Nat → Int), k ≤ len ∧ k ≤ 80 ∧ i = .int .i64 k ∧ l = .pointer (some ⟨p, 0, none⟩) ∧ CAt wr p m t N D S ∧ RcAt wr r t N (fun i => lo (D i)) (fun i => hi (D i)) S ∧ Below w.heap.size w wr ∧ w.heap.size ≤ p) (fun _ i _ => 80 - (intOf i).toNat)
  case atStart => exact ⟨0, p, m0, 0, nvD, zeS, by omega, by omega, rfl, rfl, A3, R3, b3, hp⟩
  case round =>
    clear A3 R3 b3 hp
    obtain ⟨k, p, m, t, D, S, hk, hk80, rfl, rfl, A, R, hb, hp⟩ := hrel
    by_cases hlt : k < len ∧ k < 80
    · obtain ⟨hlt, h80⟩ := hlt
      rcases HY.out with hy | ⟨b, off, rfl, hlc, hcm, hbl, hz⟩
      · omega
      unfold maxLen at hcm
      obtain ⟨K, n, o, v, c0, c1, c2, c3, ⟨k0, k1⟩, ⟨n0, n1⟩, ⟨o0, o1⟩, ⟨v0, v1⟩⟩ := hz k (by omega)
      rw [← hb.cell (p := ⟨b, _, none⟩) (by simpa using hbl)] at c0 c1 c2 c3
      clear hz
      have P : Pl w (wr.alloc (actO K n o v)) p m t N D S r t D S wr.heap.size K n o v := ⟨A.below (trA (tr0 wr) _), RcAt.below R (trA (tr0 wr) _), blk_new wr _, trA hb _, hp, hr⟩
      have hA := A.ltp
      have hR := R.lt
      clear A R hb hp
      go_upto_region 11 with (fail)
      rw [show Obj.cells #[.int .i64 K, .int .u64 n, .int .u32 o, .int .u32 v] 35 = actO K n o v from rfl]
      clear c0 c1 c2 c3 hA hR
      generalize (wr.alloc (actO K n o v)) = W at *
      generalize wr.heap.size = x at *
      have x0 := P.x0
      have x1 := P.x1
      have x2 := P.x2
      have x3 := P.x3
      have t0 := P.a.t0
      have t1 := P.a.t1
      have dok := P.a.d
      have hK : K = 0 ∨ K = 1 ∨ K = 2 ∨ K = 3 ∨ K = 4 ∨ ((K == 0) = false ∧ (K == 1) = false ∧ (K == 2) = false ∧ (K == 3) = false ∧ (K == 4) = false) := by simp; omega
      rcases hK with rfl | rfl | rfl | rfl | rfl | ⟨q0, q1, q2, q3, q4⟩
      · go_wp2_with fail
        refine (cTick n _ _ _ _ _ _ _ P.a n0 n1).mono ?_
        rintro e w2 ⟨rfl, A2, ho2⟩
        have P2 := P.offp A2 ho2
        have x1 := P2.x1
        clear P A2 ho2
        go_wp2_with (refine loadC rfl (.tmp 7) rfl rfl P2.q ?_)
        refine (rcTick n t N _ _ _ _ t0 t1 n0 n1).mono ?_
        rintro e w3 ⟨rfl, hb3⟩
        have P3 := P2.below hb3
        have P4 := P3.row (addS t n) D S
        clear P2 hb3 x1
        go_upto_region 35 with (refine storeC rfl (.tmp 7) (.tmp 70) rfl rfl rfl P3.q P3.size ?_)
        clear P3
        generalize (w3.setRow r (rcr (addS t n) N (fun i => lo (D i)) (fun i => hi (D i)) S).toArray) = W4 at *
        go_wp2_with (refine loadCg (.tmp 7) rfl rfl rfl P4.q ?_)
        refine (cAlike _ _ _ _ _ _ _ P4.a).mono ?_
        rintro e wz ⟨rfl, hbz⟩
        have Pz := P4.below hbz
        clear P4 hbz
        go_wp2_with fail
        go_roundw
        case rel => exact ⟨k + 1, _, _, _, _, _, by omega, by omega, by go_num, rfl, Pz.a, Pz.q, Pz.hb, Pz.h1⟩
        case measure => simp [intOf]; omega
      · obtain ⟨V, hV⟩ : ∃ V, cVal t N D S o = V := ⟨_, rfl⟩
        obtain ⟨E, hE⟩ : ∃ E, cErr N o = E := ⟨_, rfl⟩
        have RL := Lib.hid (by have := fun w => rcLoad o t N D S w n8 dok t0 t1 o0 o1; rw [hV, hE] at this; exact this)
        have CL := Lib.hid (by have := fun w (a : CAt w p m t N D S) => cLoad o t N D S p m w a o0 o1; rw [hV, hE] at this; exact this)
        clear hV hE
        have zV : (V != V) = false := by simp
        have zE : (E != E) = false := by simp
        go_wp2_with (refine loadC rfl (.tmp 7) rfl rfl P.q ?_)
        refine (RL.out _).mono ?_
        rintro e w2 ⟨rfl, hb2⟩
        have P2 := P.below hb2
        have x2 := P2.x2
        clear P hb2
        go_wp2_with fail
        refine (CL.out _ P2.a).mono ?_
        rintro e w3 ⟨rfl, hb3⟩
        have P3 := P2.below hb3
        clear P2 hb3 x2
        go_wp2_with (refine loadCg (.tmp 7) rfl rfl rfl P3.q ?_)
        refine (cAlike _ _ _ _ _ _ _ P3.a).mono ?_
        rintro e wz ⟨rfl, hbz⟩
        have Pz := P3.below hbz
        clear P3 hbz
        go_wp2_with fail
        go_roundw
        case rel => exact ⟨k + 1, _, _, _, _, _, by omega, by omega, by go_num, rfl, Pz.a, Pz.q, Pz.hb, Pz.h1⟩
        case measure => simp [intOf]; omega
      · obtain ⟨E, hE⟩ : ∃ E, cErrS N o = E := ⟨_, rfl⟩
        obtain ⟨D', hD'⟩ : ∃ D', cPutD N D o v = D' := ⟨_, rfl⟩
        obtain ⟨S', hS'⟩ : ∃ S', cPutS N S o v = S' := ⟨_, rfl⟩
        have RS := Lib.hid (by have := fun w => rcStore o v t N D S w n8 dok t0 t1 o0 o1 v0 v1; rw [hE, hD', hS'] at this; exact this)
        have CS := Lib.hid (by have := fun w (a : CAt w p m t N D S) => cStore o v t N D S p m w a o0 o1 v0 v1; rw [hE, hD', hS'] at this; exact this)
        unfold rcl at RS
        clear hE hD' hS'
        have zE : (E != E) = false := by simp
        go_wp2_with (refine loadC rfl (.tmp 7) rfl rfl P.q ?_)
        refine (RS.out _).mono ?_
        rintro e w2 ⟨rfl, hb2⟩
        have P2 := P.below hb2
        have P3 := P2.below (below_setRow (trA (tr0 w2) zC) (rcr t N (fun i => lo (D' i)) (fun i => hi (D' i)) S').toArray (Nat.le_refl w2.heap.size))
        have Y3 : RcAt ((w2.alloc zC).setRow w2.heap.size (rcr t N (fun i => lo (D' i)) (fun i => hi (D' i)) S').toArray) w2.heap.size t N (fun i => lo (D' i)) (fun i => hi (D' i)) S' := RcAt.row (blk_new w2 zC)
        clear P hb2
        go_upto_region 22 with (refine storeC rfl (.tmp 14) (.tmp 104) rfl rfl rfl (blk_new _ _) (by rfl) ?_)
        rw [zC_eq]
        clear P2
        generalize ((w2.alloc zC).setRow w2.heap.size (rcr t N (fun i => lo (D' i)) (fun i => hi (D' i)) S').toArray) = W3 at *
        have P4 := P3.row t D' S'
        go_upto_region 23 with (first | (refine loadC rfl (.tmp 14) rfl rfl Y3 ?_) | (refine storeC rfl (.tmp 7) (.tmp 106) rfl rfl rfl P3.q P3.size ?_))
        clear P3 Y3
        generalize (W3.setRow r (rcr t N (fun i => lo (D' i)) (fun i => hi (D' i)) S').toArray) = W4 at *
        have x2 := P4.x2
        have x3 := P4.x3
        go_wp2_with fail
        refine (CS.out _ P4.a).mono ?_
        rintro e w5 ⟨rfl, A5, ho5⟩
        have P5 := P4.offp A5 ho5
        clear P4 A5 ho5 x2 x3
        go_wp2_with (refine loadCg (.tmp 7) rfl rfl rfl P5.q ?_)
        refine (cAlike _ _ _ _ _ _ _ P5.a).mono ?_
        rintro e wz ⟨rfl, hbz⟩
        have Pz := P5.below hbz
        clear P5 hbz
        go_wp2_with fail
        go_roundw
        case rel => exact ⟨k + 1, _, _, _, _, _, by omega, by omega, by go_num, rfl, Pz.a, Pz.q, Pz.hb, Pz.h1⟩
        case measure => simp [intOf]; omega
      · go_wp2_with fail
        refine (cReset8 t N D S p m _ P.a).mono ?_
        rintro e w2 ⟨rfl, A2, ho2⟩
        have P2 := P.offp A2 ho2
        clear P A2 ho2
        go_wp2_with (refine loadC rfl (.tmp 7) rfl rfl P2.q ?_)
        refine (rcReset t N _ _ _ _).mono ?_
        unfold rcl
        rintro e w3 ⟨rfl, hb3⟩
        have P3 := P2.below hb3
        have P4 := P3.row t nvD zeS
        clear P2 hb3
        go_upto_region 35 with (refine storeC rfl (.tmp 7) (.tmp 120) rfl rfl rfl P3.q P3.size ?_)
        clear P3
        generalize (w3.setRow r (rcr t N (fun i => lo (nvD i)) (fun i => hi (nvD i)) zeS).toArray) = W4 at *
        go_wp2_with (refine loadCg (.tmp 7) rfl rfl rfl P4.q ?_)
        refine (cAlike _ _ _ _ _ _ _ P4.a).mono ?_
        rintro e wz ⟨rfl, hbz⟩
        have Pz := P4.below hbz
        clear P4 hbz
        go_wp2_with fail
        go_roundw
        case rel => exact ⟨k + 1, _, _, _, _, _, by omega, by omega, by go_num, rfl, Pz.a, Pz.q, Pz.hb, Pz.h1⟩
        case measure => simp [intOf]; omega
      · go_wp2_with fail
        refine (cCopy t N D S p m _ P.a).mono ?_
        rintro e w2 ⟨m', hm', rfl, A2, hb2⟩
        have P1 := P.below hb2
        have hWp : w.heap.size ≤ W.heap.size := P.hb.size
        have P2 : Pl w w2 W.heap.size m' t N D S r t D S x 4 n o v := ⟨A2, P1.q, P1.c, P1.hb, hWp, P1.h2⟩
        have B2 := P1.a
        have hpn : p ≠ W.heap.size := by have := P.a.ltp; omega
        have hpr := P.pr
        have hpx := P.px
        have hp1 := P.h1
        clear P P1 A2 hb2 hm'
        generalize W.heap.size = p' at *
        go_wp2_with (refine loadCg (.tmp 7) rfl rfl rfl P2.q ?_)
        refine (cAlike _ _ _ _ _ _ _ P2.a).mono ?_
        rintro e w3 ⟨rfl, hb3⟩
        have P3 := P2.below hb3
        have B3 := B2.below hb3
        clear P2 B2 hb3
        go_wp2_with fail
        refine (cTick 5 _ _ _ _ _ _ _ B3 (by omega) (by omega)).mono ?_
        rintro e w4 ⟨rfl, B4, ho4⟩
        have P4 := P3.offo ⟨hpn, fun e => clint_ne P3.a B3 e.symm, hpr, hpx, hp1⟩ ho4
        clear P3 B3 ho4
        go_wp2_with fail
        refine (cReset8 _ _ _ _ _ _ _ B4).mono ?_
        rintro e w5 ⟨rfl, B5, ho5⟩
        have P5 := P4.offo ⟨hpn, fun e => clint_ne P4.a B4 e.symm, hpr, hpx, hp1⟩ ho5
        clear P4 B4 B5 ho5
        go_wp2_with (refine loadCg (.tmp 7) rfl rfl rfl P5.q ?_)
        refine (cAlike _ _ _ _ _ _ _ P5.a).mono ?_
        rintro e wz ⟨rfl, hbz⟩
        have Pz := P5.below hbz
        clear P5 hbz
        go_wp2_with fail
        go_roundw
        case rel => exact ⟨k + 1, _, _, _, _, _, by omega, by omega, by go_num, rfl, Pz.a, Pz.q, Pz.hb, Pz.h1⟩
        case measure => simp [intOf]; omega
      · go_wp2_with (refine loadCg (.tmp 7) rfl rfl rfl P.q ?_)
        refine (cAlike _ _ _ _ _ _ _ P.a).mono ?_
        rintro e wz ⟨rfl, hbz⟩
        have Pz := P.below hbz
        clear P hbz
        go_wp2_with fail
        go_roundw
        case rel => exact ⟨k + 1, _, _, _, _, _, by omega, by omega, by go_num, rfl, Pz.a, Pz.q, Pz.hb, Pz.h1⟩
        case measure => simp [intOf]; omega
    · clear A R
      by_cases hlt2 : k < len
      all_goals
        go_wp2_with fail
        refine (cKnown _).mono ?_
        rintro e w1 ⟨rfl, hb1⟩
        go_wp2_with fail
        go_ret
        exact ⟨rfl, tr hb hb1⟩
end Go.Proofs.Ytfkkimbdjobpmaa.B
