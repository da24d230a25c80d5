/- Several texts in one: The law BoardTicks: ticks in two calls are as in one. (Written by tools/gen_l11q.py.) BoardTicks, of any arguments that fit. -/
import Derived.Test.YtcgmnjajodegmaaGreatZTbt
set_option linter.unusedVariables false
set_option linter.unusedSimpArgs false
set_option maxRecDepth 100000
namespace Go.Proofs.YtcgmnjajodegmaaGreat.B
open Go.ChangeShapes Go.WideShapes Go.RowKit Go.Sort
set_option maxHeartbeats 6400000 in
theorem boardTicks1 (w : World) (n c : Nat) (d : Int) (n0 : 1 <= n) (n8 : n <= 8) (c0 : 1 <= c) (c8 : c <= 8) (d0 : 1 <= d) (d1 : d < 4294967296) (y : Option Addr) (len cap : Nat) (hy : Acts w y len cap) (a b : Int) (a0 : 0 <= a) (a1 : a < 18446744073709551616) (b0 : 0 <= b) (b1 : b < 18446744073709551616) :
 Calls Tryz.prog 4 #[.agg #[.int .i64 n, .int .i64 c, .int .u32 d], .slice y len cap, .int .u64 a, .int .u64 b] w fun e w' => e = .returned (.bool true) /\ Below w.heap.size w w' := by
 have HMD := Hd (fun w' (h : Acts w' y len cap) => made1 w' n c d n0 n8 c0 c8 d0 d1 y len cap h)
 have HC := Hd (show (w.alloc (cfO n c d)).heap[w.heap.size]? = some (cfO n c d) from blk_new w _)
 have HB := Hd (trA (tr0 w) (cfO n c d))
 have HY := Hd (hy.below HB.out)
 clear hy n0 n8 c0 c8 d0 d1
 go_enter Tryz.func4, Tryz.ntmps4
 go_upto_region 1 with (fail)
 rw [show Obj.cells #[.int .i64 n, .int .i64 c, .int .u32 d] 24 (0, 0) = cfO n c d from rfl]
 generalize w.alloc (cfO n c d) = W at *
 have e0 := blk_cell HC.out 0
 have e1 := blk_cell HC.out 1
 have e2 := blk_cell HC.out 2
 simp at e0 e1 e2
 go_upto_region 2 with (first | (go_at_call 15; refine (HMD.out _ HY.out).mono ?_; rintro e w1 ⟨E, x, bk, ev, rfl, h1, h2, ⟨h3, h4, h5⟩, ha, hl, ho, hb⟩; have HH := Hd h1; have HA := Hd ha; have HL := Hd hl; have HO := Hd ho; have HB := Hd (tr HB.out hb); clear e0 e1 e2 h1 h2 h3 h4 h5 ha hl ho hb HY) | (rw [zM11_eq]; refine nStoreB rfl (.tmp 10) (.tmp 21) rfl rfl x bk ev _ rfl (blk_new w1 zM11) rfl HO.out ?_; intro w2 hN2 ho2; have hb := Off.toBelow (trA (tr0 w1) zM11) ho2 (fun k hk e => by omega) (Nat.le_refl _); have HH := Hd (HH.out.below hb); have HB := Hd (tr HB.out hb); clear hb hN2 ho2))
 generalize w1.heap.size = q at *
 clear HC
 go_upto_region 5 with (fail)
 have hA0 : 0 <= a % 1152921504606846976 := Int.emod_nonneg _ (by decide)
 have hA1 : a % 1152921504606846976 < 1152921504606846976 := Int.emod_lt_of_pos _ (by decide)
 have hN0 : 0 <= b % 1152921504606846976 := Int.emod_nonneg _ (by decide)
 have hN1 : b % 1152921504606846976 < 1152921504606846976 := Int.emod_lt_of_pos _ (by decide)
 generalize a % 1152921504606846976 = A at *
 generalize b % 1152921504606846976 = N at *
 have HLL := Hd (show x.es.length < 4294967296 by have := HL.out; omega)
 go_wp2_with fail
 refine (bdCopy E x _ HH.out HLL.out).mono ?_
 rintro e w3 ⟨B1, rfl, h1, hb1, h2, h3, h4, h5⟩
 have HB1 := Hd hb1
 have H1 := Hd h1
 have HN1 := Hd h2
 have HE1 := Hd (And.intro h3 h4)
 have HE3 := Hd (HH.out.below hb1)
 clear h1 hb1 h2 h3 h4 h5
 go_wp2_with fail
 refine (bdCopy E x _ HE3.out HLL.out).mono ?_
 rintro e w4 ⟨B2, rfl, h1, hb1, h2, h3, h4, h5⟩
 have HT := Hd (tri_copies HH.out HB1.out H1.out HN1.out hb1 h1 h2)
 have HB2 := Hd (tr HB.out HB1.out)
 have HNW1 := Hd (show B1.new w.heap.size from fun k hk => Nat.le_trans HB.out.size (HN1.out k hk))
 have HNW2 := Hd (show B2.new w.heap.size from fun k hk => Nat.le_trans HB2.out.size (h2 k hk))
 have HE2 := Hd (And.intro h3 h4)
 have HB := Hd (tr HB2.out hb1)
 clear h1 hb1 h2 h3 h4 h5 HB1 H1 HN1 HE3 HB2
 go_wp2_with fail
 refine (bdTick B1 x A _ HT.out.a hA0 (by omega) HLL.out).mono ?_
 rintro e w5 ⟨rfl, hL⟩
 obtain ⟨C1, T, hnw, hlo, hb, hn, hc⟩ := HT.out.left hL HNW1.out HB.out.size
 have HT := Hd T
 have HNW1 := Hd hnw
 have HB := Hd (HB.out.trans hlo)
 have HC1 := Hd (And.intro hb (And.intro (hn.trans HE1.out.1) (hc.trans HE1.out.2)))
 clear hL T hnw hlo hb hn hc HE1
 have CT := Hd (fun w' (h : BdAt w' C1 (x.tick A)) => by have := bdTick C1 (x.tick A) N w' h hN0 (by omega) (by have := tick_len x A; have := HL.out; omega); rw [HC1.out.1] at this; exact this)
 go_wp2_with fail
 refine (CT.out _ HT.out.a).mono ?_
 rintro e w6 ⟨rfl, hL⟩
 obtain ⟨D1, T, hnw, hlo, hb, hn, hc⟩ := HT.out.left hL HNW1.out HB.out.size
 have HT := Hd T
 have HB := Hd (HB.out.trans hlo)
 have HD1 := Hd (And.intro (hb.trans HC1.out.1) (And.intro (hn.trans HC1.out.2.1) (hc.trans HC1.out.2.2)))
 clear hL T hnw hlo hb hn hc HC1 CT HNW1
 go_wp2_with fail
 refine (bdTick B2 x (A + N) _ HT.out.b (by omega) (by omega) HLL.out).mono ?_
 rintro e w7 ⟨rfl, hL⟩
 obtain ⟨D2, T, hnw, hlo, hb, hn, hc⟩ := HT.out.swap.left hL HNW2.out HB.out.size
 have HT := Hd T.swap
 have HB := Hd (HB.out.trans hlo)
 have HD2 := Hd (And.intro hb (And.intro (hn.trans HE2.out.1) (hc.trans HE2.out.2)))
 clear hL T hnw hlo hb hn hc HE2 HNW2
 -- the two are the same
 have hok := HT.out.e.ok
 have hst := HT.out.e.still
 have HLK := Hd (Bx.tick_tick hok hst hA0 hN0 (by omega))
 have ok1 := Bx.tick_ok hok hst hA0 (by omega)
 have HASC := Hd (tick_asc ok1.1 ok1.2 hN0 (by omega) (tick_asc hok hst hA0 (by omega) HA.out))
 have HTI := Hd (show x.ti <= ((x.tick A).tick N).ti by have h1 := tick_ti hok hst hA0 (N := A) (by omega); have h2 := tick_ti ok1.1 ok1.2 hN0 (N := N) (by omega); omega)
 have HZL := Hd (show ((x.tick A).tick N).es.length < 4294967296 by have h1 := tick_len x A; have h2 := tick_len (x.tick A) N; have := HL.out; omega)
 have HT := Hd (show Tri w7 D1 D2 E ((x.tick A).tick N) ((x.tick A).tick N) x from ⟨HT.out.a, HT.out.b.like (by rw [HD2.out.2.2]; exact HLK.out.symm), HT.out.e, HT.out.ab, HT.out.ba, HT.out.ae, HT.out.be⟩)
 clear hok hst ok1 HLK HA HH HL HLL hA0 hA1 hN0 hN1 HO
 generalize (x.tick A).tick N = z at *
 obtain ⟨X, hX⟩ : ∃ X, wires E.n E.c z = X := ⟨_, rfl⟩
 obtain ⟨U, hU⟩ : ∃ U, outB (wires E.n E.c z) z.msk = U := ⟨_, rfl⟩
 have R1 := Hd (fun w' (T : Tri w' D1 D2 E z z x) => by have := bdResets D1 z w' T.a HZL.out; rw [HD1.out.1] at this; exact this)
 have R2 := Hd (fun w' (T : Tri w' D1 D2 E z z x) => by have := bdResets D2 z w' T.b HZL.out; rw [HD2.out.1] at this; exact this)
 have T1 := Hd (fun w' (T : Tri w' D1 D2 E z z x) => by have := bdTime D1 z w' T.a; rw [HD1.out.1] at this; exact this)
 have T2 := Hd (fun w' (T : Tri w' D1 D2 E z z x) => by have := bdTime D2 z w' T.b; rw [HD2.out.1] at this; exact this)
 have T0 := Hd (fun w' (T : Tri w' D1 D2 E z z x) => bdTime E x w' T.e)
 have H1 := Hd (fun w' (T : Tri w' D1 D2 E z z x) => by have := bdHigh D1 z w' T.a; rw [HD1.out.1, HD1.out.2.1, HD1.out.2.2, hX] at this; exact this)
 have H2 := Hd (fun w' (T : Tri w' D1 D2 E z z x) => by have := bdHigh D2 z w' T.b; rw [HD2.out.1, HD2.out.2.1, HD2.out.2.2, hX] at this; exact this)
 have O1 := Hd (fun w' (T : Tri w' D1 D2 E z z x) => by have := bdOut D1 z w' T.a; rw [HD1.out.1, HD1.out.2.1, HD1.out.2.2, hU] at this; exact this)
 have O2 := Hd (fun w' (T : Tri w' D1 D2 E z z x) => by have := bdOut D2 z w' T.b; rw [HD2.out.1, HD2.out.2.1, HD2.out.2.2, hU] at this; exact this)
 have G1 := Hd (fun w' (T : Tri w' D1 D2 E z z x) => by have := bdDog D1 z w' T.a; rw [HD1.out.1] at this; exact this)
 have G2 := Hd (fun w' (T : Tri w' D1 D2 E z z x) => by have := bdDog D2 z w' T.b; rw [HD2.out.1] at this; exact this)
 have K1 := Hd (fun w' (T : Tri w' D1 D2 E z z x) => by have := bdRtc D1 z w' T.a; rw [HD1.out.1] at this; exact this)
 have K2 := Hd (fun w' (T : Tri w' D1 D2 E z z x) => by have := bdRtc D2 z w' T.b; rw [HD2.out.1] at this; exact this)
 have N1 := Hd (fun w' (T : Tri w' D1 D2 E z z x) => by have := bdBank D1 z w' T.a; rw [HD1.out.1, HD1.out.2.2] at this; exact this)
 have N2 := Hd (fun w' (T : Tri w' D1 D2 E z z x) => by have := bdBank D2 z w' T.b; rw [HD2.out.1, HD2.out.2.2] at this; exact this)
 clear hX hU
 go_wp2_with fail
 refine (R1.out _ HT.out).mono ?_
 rintro e w8 ⟨v1, rfl, hv, hb, hn⟩
 have HV1 := Hd hv
 clear hv hn
 have HT := Hd (HT.out.below hb)
 have HB := Hd (tr HB.out hb)
 clear hb
 go_wp2_with fail
 refine (R2.out _ HT.out).mono ?_
 rintro e w9 ⟨v2, rfl, hv, hb, hn⟩
 have HV2 := Hd hv
 have HV1 := Hd (HV1.out.below hb)
 clear hv hn
 have HT := Hd (HT.out.below hb)
 have HB := Hd (tr HB.out hb)
 clear hb
 obtain ⟨y1, cap1, rfl, hy1⟩ := ev_form HV1.out
 obtain ⟨y2, cap2, rfl, hy2⟩ := ev_form HV2.out
 have HY1 := Hd (show z.es.length = 0 \/ ∃ g, y1 = some ⟨g, 0, none⟩ from hy1.imp id fun ⟨g, h, _⟩ => ⟨g, h⟩)
 have HY2 := Hd (show z.es.length = 0 \/ ∃ g, y2 = some ⟨g, 0, none⟩ from hy2.imp id fun ⟨g, h, _⟩ => ⟨g, h⟩)
 clear hy1 hy2
 have z1 := self_eq (z.es.length : Int)
 have z2 := self_eq z.ti
 have z3 : decide (z.ti < x.ti) = false := decide_eq_false (by have := HTI.out; omega)
 have z4 := self_eq X
 have z5 := bool_ne U
 go_wp2_with fail
 refine (T1.out _ HT.out).mono ?_
 rintro e w10 ⟨rfl, hb⟩
 have HV1 := Hd (HV1.out.below hb)
 have HV2 := Hd (HV2.out.below hb)
 have HT := Hd (HT.out.below hb)
 have HB := Hd (tr HB.out hb)
 clear hb
 go_wp2_with fail
 refine (T2.out _ HT.out).mono ?_
 rintro e w11 ⟨rfl, hb⟩
 have HV1 := Hd (HV1.out.below hb)
 have HV2 := Hd (HV2.out.below hb)
 have HT := Hd (HT.out.below hb)
 have HB := Hd (tr HB.out hb)
 clear hb
 go_wp2_with fail
 refine (T1.out _ HT.out).mono ?_
 rintro e w12 ⟨rfl, hb⟩
 have HV1 := Hd (HV1.out.below hb)
 have HV2 := Hd (HV2.out.below hb)
 have HT := Hd (HT.out.below hb)
 have HB := Hd (tr HB.out hb)
 clear hb
 go_wp2_with fail
 refine (T0.out _ HT.out).mono ?_
 rintro e w13 ⟨rfl, hb⟩
 have HV1 := Hd (HV1.out.below hb)
 have HV2 := Hd (HV2.out.below hb)
 have HT := Hd (HT.out.below hb)
 have HB := Hd (tr HB.out hb)
 clear hb
 go_wp2_with fail
 refine (H1.out _ HT.out).mono ?_
 rintro e w14 ⟨rfl, hb⟩
 have HV1 := Hd (HV1.out.below hb)
 have HV2 := Hd (HV2.out.below hb)
 have HT := Hd (HT.out.below hb)
 have HB := Hd (tr HB.out hb)
 clear hb
 go_wp2_with fail
 refine (H2.out _ HT.out).mono ?_
 rintro e w15 ⟨rfl, hb⟩
 have HV1 := Hd (HV1.out.below hb)
 have HV2 := Hd (HV2.out.below hb)
 have HT := Hd (HT.out.below hb)
 have HB := Hd (tr HB.out hb)
 clear hb
 go_wp2_with fail
 refine (O1.out _ HT.out).mono ?_
 rintro e w16 ⟨rfl, hb⟩
 have HV1 := Hd (HV1.out.below hb)
 have HV2 := Hd (HV2.out.below hb)
 have HT := Hd (HT.out.below hb)
 have HB := Hd (tr HB.out hb)
 clear hb
 go_wp2_with fail
 refine (O2.out _ HT.out).mono ?_
 rintro e w17 ⟨rfl, hb⟩
 have HV1 := Hd (HV1.out.below hb)
 have HV2 := Hd (HV2.out.below hb)
 have HT := Hd (HT.out.below hb)
 have HB := Hd (tr HB.out hb)
 clear hb
 clear z1 z2 z3 z4 z5 R1 R2 T1 T2 T0 H1 H2 O1 O2
 go_wp2_with fail
 go_loopw [15] (fun i wr => ∃ k : Nat, k <= z.es.length /\ i = .int .i64 k /\ Tri wr D1 D2 E z z x /\ EvAt wr tEv (.slice y1 z.es.length cap1) z.es /\ EvAt wr tEv (.slice y2 z.es.length cap2) z.es /\ Below w.heap.size w wr) (fun i wr => z.es.length - (intOf i).toNat)
 case atStart => exact ⟨0, by omega, rfl, HT.out, HV1.out, HV2.out, HB.out⟩
 case round =>
  clear HT HV1 HV2 HB
  obtain ⟨k, hk, rfl, hT, hV1, hV2, hB⟩ := hrel
  have HT := Hd hT
  have HV1 := Hd hV1
  have HV2 := Hd hV2
  have HB := Hd hB
  clear hT hV1 hV2 hB
  have hzl := HZL.out
  by_cases hlt : k < z.es.length
  . obtain ⟨g1, rfl⟩ : ∃ g, y1 = some ⟨g, 0, none⟩ := HY1.out.resolve_left (by omega)
    obtain ⟨g2, rfl⟩ : ∃ g, y2 = some ⟨g, 0, none⟩ := HY2.out.resolve_left (by omega)
    obtain ⟨e, he⟩ : ∃ e, z.es[k]? = some e := ⟨_, List.getElem?_eq_getElem hlt⟩
    obtain ⟨c1, c2⟩ := ev_at HV1.out k e he
    obtain ⟨c3, c4⟩ := ev_at HV2.out k e he
    have z1 := beq_self_eq_true e.1
    have z2 := beq_self_eq_true e.2
    have z3 := self_eq e.1
    have z4 := self_eq e.2
    rcases k with _ | j
    . clear he
      go_upto_region 17 with (fail)
      go_region
      all_goals
       clear c1 c2 c3 c4 z1 z2 z3 z4
       have HT := Hd (HT.out.below (trD (tr0 _)))
       have HV1 := Hd (HV1.out.below (trD (tr0 _)))
       have HV2 := Hd (HV2.out.below (trD (tr0 _)))
       have HB := Hd (tr HB.out (trD (tr0 _)))
       generalize World.drew _ = wd at *
       go_wp2_with fail
       go_roundw
       case rel => exact ⟨1, by omega, by go_num, HT.out, HV1.out, HV2.out, HB.out⟩
       case measure => simp [intOf]; omega
    . obtain ⟨f, hf⟩ : ∃ f, z.es[j]? = some f := ⟨_, List.getElem?_eq_getElem (by omega)⟩
      obtain ⟨c5, c6⟩ := ev_at HV1.out j f hf
      have hle := HASC.out.two j f e hf he
      have z5 : decide (e.1 < f.1) = false := decide_eq_false (by omega)
      clear he hf c6
      have q1 : ((j + 1 : Nat) : Int) - 1 = (j : Int) := by omega
      go_upto_region 17 with (fail)
      go_region
      all_goals
       clear c1 c2 c3 c4 c5 z1 z2 z3 z4 z5 q1
       have HT := Hd (HT.out.below (trD (tr0 _)))
       have HV1 := Hd (HV1.out.below (trD (tr0 _)))
       have HV2 := Hd (HV2.out.below (trD (tr0 _)))
       have HB := Hd (tr HB.out (trD (tr0 _)))
       generalize World.drew _ = wd at *
       go_wp2_with fail
       go_roundw
       case rel => exact ⟨j + 1 + 1, by omega, by go_num, HT.out, HV1.out, HV2.out, HB.out⟩
       case measure => simp [intOf]; omega
  . obtain rfl : k = z.es.length := by omega
    obtain ⟨RU, hRU⟩ : ∃ RU, ob (fun i => (z.tm i).en) E.c = RU := ⟨_, rfl⟩
    have BR := Hd (fun w' p' g' q' (h : BkAt w' p' g' E.c q' z.tm) => by have := bRuns h; rw [hRU] at this; exact this)
    have z1 := beq_self_eq_true z.wd.si
    have z2 := beq_self_eq_true z.rk.sec
    have z3 := beq_self_eq_true RU
    clear hRU HV1 HV2
    go_wp2_with fail
    refine (bdKnown _).mono ?_
    rintro e w18 ⟨rfl, hb⟩
    have HT := Hd (HT.out.below hb)
    have HB := Hd (tr HB.out hb)
    clear hb
    go_wp2_with fail
    refine (G1.out _ HT.out).mono ?_
    rintro e w19 ⟨p1, rfl, hd, hb⟩
    have HT := Hd (HT.out.below hb)
    have HB := Hd (tr HB.out hb)
    go_wp2_with fail
    refine (dSince z.wd p1 _ hd).mono ?_
    rintro e w20 ⟨rfl, rfl⟩
    clear hb hd
    go_wp2_with fail
    refine (G2.out _ HT.out).mono ?_
    rintro e w21 ⟨p2, rfl, hd, hb⟩
    have HT := Hd (HT.out.below hb)
    have HB := Hd (tr HB.out hb)
    go_wp2_with fail
    refine (dSince z.wd p2 _ hd).mono ?_
    rintro e w22 ⟨rfl, rfl⟩
    clear hb hd
    go_wp2_with fail
    refine (K1.out _ HT.out).mono ?_
    rintro e w23 ⟨p3, rfl, hd, hb⟩
    have HT := Hd (HT.out.below hb)
    have HB := Hd (tr HB.out hb)
    go_wp2_with fail
    refine (eSeconds z.rk p3 _ hd).mono ?_
    rintro e w24 ⟨rfl, hb2⟩
    have HT := Hd (HT.out.below hb2)
    have HB := Hd (tr HB.out hb2)
    clear hb hb2 hd
    go_wp2_with fail
    refine (K2.out _ HT.out).mono ?_
    rintro e w25 ⟨p4, rfl, hd, hb⟩
    have HT := Hd (HT.out.below hb)
    have HB := Hd (tr HB.out hb)
    go_wp2_with fail
    refine (eSeconds z.rk p4 _ hd).mono ?_
    rintro e w26 ⟨rfl, hb2⟩
    have HT := Hd (HT.out.below hb2)
    have HB := Hd (tr HB.out hb2)
    clear hb hb2 hd
    go_wp2_with fail
    refine (N1.out _ HT.out).mono ?_
    rintro e w27 ⟨p5, g5, q5, rfl, hd, hb⟩
    have HT := Hd (HT.out.below hb)
    have HB := Hd (tr HB.out hb)
    go_wp2_with fail
    refine (BR.out _ _ _ _ hd).mono ?_
    rintro e w28 ⟨rfl, hb2⟩
    have HT := Hd (HT.out.below hb2)
    have HB := Hd (tr HB.out hb2)
    clear hb hb2 hd
    go_wp2_with fail
    refine (N2.out _ HT.out).mono ?_
    rintro e w29 ⟨p6, g6, q6, rfl, hd, hb⟩
    have HT := Hd (HT.out.below hb)
    have HB := Hd (tr HB.out hb)
    go_wp2_with fail
    refine (BR.out _ _ _ _ hd).mono ?_
    rintro e w30 ⟨rfl, hb2⟩
    have HT := Hd (HT.out.below hb2)
    have HB := Hd (tr HB.out hb2)
    clear hb hb2 hd
    go_wp2_with fail
    go_ret
    exact ⟨rfl, HB.out⟩
set_option maxHeartbeats 3200000 in
theorem boardTicks0 (w : World) (n c d : Int) (d0 : 0 <= d) (hn : ¬ (1 <= n /\ n <= 8 /\ 1 <= c /\ c <= 8 /\ 0 < d)) (y : Option Addr) (len cap : Nat) (a b : Int) :
 Calls Tryz.prog 4 #[.agg #[.int .i64 n, .int .i64 c, .int .u32 d], .slice y len cap, .int .u64 a, .int .u64 b] w fun e w' => e = .returned (.bool true) /\ Below w.heap.size w w' := by
 have HMD := Hd (fun w' => made0 w' n c d d0 hn y len cap)
 have HRT := Hd (fun w' => yRightNo n c d w' hn)
 have HC := Hd (show (w.alloc (cfO n c d)).heap[w.heap.size]? = some (cfO n c d) from blk_new w _)
 have HB := Hd (trA (tr0 w) (cfO n c d))
 clear hn d0
 go_enter Tryz.func4, Tryz.ntmps4
 go_upto_region 1 with (fail)
 rw [show Obj.cells #[.int .i64 n, .int .i64 c, .int .u32 d] 24 (0, 0) = cfO n c d from rfl]
 generalize w.alloc (cfO n c d) = W at *
 have e0 := blk_cell HC.out 0
 have e1 := blk_cell HC.out 1
 have e2 := blk_cell HC.out 2
 simp at e0 e1 e2
 go_upto_region 2 with (first | (go_at_call 15; refine (HMD.out _).mono ?_; rintro e w1 ⟨rfl, hb⟩; have HC := Hd (blk_below hb HC.out (lt_of_block HC.out)); have HB := Hd (tr HB.out hb); clear e0 e1 e2 hb) | (rw [zM11_eq]; refine nStoreB rfl (.tmp 10) (.tmp 21) rfl rfl xz (.slice none 0 0) (.slice none 0 0) 0 rfl (blk_new w1 zM11) rfl ⟨rfl, rfl⟩ ?_; intro w2 hN2 ho2; have hb := Off.toBelow (trA (tr0 w1) zM11) ho2 (fun k hk e => by omega) (Nat.le_refl _); have HC := Hd (blk_below hb HC.out (lt_of_block HC.out)); have HB := Hd (tr HB.out hb); clear hb hN2 ho2))
 generalize w1.heap.size = q at *
 go_wp2_with fail
 refine (bdKnown _).mono ?_
 rintro e w3 ⟨rfl, hb⟩
 have HC := Hd (blk_below hb HC.out (lt_of_block HC.out))
 have HB := Hd (tr HB.out hb)
 clear hb
 have e0 := blk_cell HC.out 0
 have e1 := blk_cell HC.out 1
 have e2 := blk_cell HC.out 2
 simp at e0 e1 e2
 go_wp2_with fail
 refine (HRT.out _).mono ?_
 rintro e w4 ⟨rfl, rfl⟩
 go_wp2_with fail
 go_ret
 exact ⟨rfl, HB.out⟩
end Go.Proofs.YtcgmnjajodegmaaGreat.B
namespace Go.Proofs.YtcgmnjajodegmaaGreat.B
open Go.ChangeShapes Go.WideShapes Go.RowKit Go.Sort Go.MapKept
theorem wBoardTicks (v0 v1 v2 v3 : Value) (w : World) (h0 : FitsV w (.pair (.int .i64) (.pair (.int .i64) (.pair (.int .u32) .unit))) v0) (h1 : FitsV w (.slice (.pair (.int .i64) (.pair (.int .u64) (.pair (.int .u32) (.pair (.int .u32) .unit))))) v1) (h2 : FitsV w (.int .u64) v2) (h3 : FitsV w (.int .u64) v3) :
 Calls Tryz.prog 4 #[v0, v1, v2, v3] w fun e w' => e = .returned (.bool true) /\ Below w.heap.size w w' := by
 obtain ⟨n, c, d, rfl, d0, d1⟩ := fits_cfg h0
 obtain ⟨y, len, cap, rfl, hy⟩ := acts_fit h1
 obtain ⟨a, rfl, a0, a1⟩ := fits_u64 h2
 obtain ⟨b, rfl, b0, b1⟩ := fits_u64 h3
 by_cases hr : 1 <= n /\ n <= 8 /\ 1 <= c /\ c <= 8 /\ 0 < d
 . obtain ⟨n, rfl⟩ := Int.eq_ofNat_of_zero_le (show 0 <= n by omega)
   obtain ⟨c, rfl⟩ := Int.eq_ofNat_of_zero_le (show 0 <= c by omega)
   exact boardTicks1 w n c d (by omega) (by omega) (by omega) (by omega) (by omega) d1 y len cap hy a b a0 a1 b0 b1
 . exact boardTicks0 w n c d d0 hr y len cap a b
end Go.Proofs.YtcgmnjajodegmaaGreat.B
