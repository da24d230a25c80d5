/- Several texts in one: Layer 11 in plain numbers: what a soft reset leaves. No Go. The law BoardResets: what a soft reset leaves. (Written by .. -/
import Derived.Test.YtcgmnjajodegmaaGreatZTbj
import Derived.Test.YtcgmnjajodegmaaGreatZTbp
import Derived.Test.YtcgmnjajodegmaaGreatZTbr
import Derived.Test.YtcgmnjajodegmaaGreatZTbt
set_option linter.unusedVariables false
set_option linter.unusedSimpArgs false
set_option maxRecDepth 100000
namespace Go.Proofs.YtcgmnjajodegmaaGreat.B
theorem wh_soft : wh 268632072 = .rs 8 := by unfold wh; simp
theorem wh_last : wh 268632076 = .rs 12 := by unfold wh; simp
theorem wh_mask : wh 268763140 = .ln 4 := by unfold wh; simp
structure Soft (n c : Nat) (x y : Bx) : Prop where
 es : y.es = x.es ++ [(x.ti, 16)]
 ti : y.ti = x.ti
 D : y.D = nvD
 S : y.S = zeS
 tm : y.tm = fun _ => tz
 wd : y.wd = wz
 la : y.rs.la = 16
 rk : y.rk = x.rk.zero
 m : y.msk = 0
theorem soft {n c : Nat} {x : Bx} : Soft n c x (x.sto n c 268632072 45063) := by
 have hp : x.put n c 268632072 45063 = { x with rs := x.rs.sto 8 45063 } := by unfold Bx.put; rw [wh_soft]
 have hd : (x.put n c 268632072 45063).due = 16 := by
  rw [hp]
  unfold Bx.due
  rw [if_pos (by show (x.rs.sto 8 45063).qs = true; unfold Rs.sto Rs.ask; simp)]
 have hs : x.sto n c 268632072 45063 = ({ x with rs := x.rs.sto 8 45063 } : Bx).rst 16 := by
  unfold Bx.sto Bx.look
  rw [hd, if_neg (by decide), hp]
 rw [hs]
 exact ⟨rfl, rfl, rfl, rfl, rfl, rfl, by show ((x.rs.sto 8 45063).ltc 16).la = 16; unfold Rs.ltc; rw [if_pos (by decide)]; rfl, rfl, rfl⟩
theorem soft_ste (n c : Nat) : Bx.ste n c 268632072 = 0 := by unfold Bx.ste; rw [wh_soft]; show wErr9 8 = 0; decide
section
variable {n c : Nat} {x y : Bx}
theorem Soft.cmp (s : Soft n c x y) {h : Nat} (hn : h < n) : cCmp n y.D h = 18446744073709551615 := by
 unfold cCmp
 rw [s.D]
 split <;> rfl
theorem Soft.line (s : Soft n c x y) {h : Nat} (hn : h < n) (t1 : x.ti < 18446744073709551616) : cLn y.ti n y.D h = (x.ti == 18446744073709551615) := by
 unfold cLn isHart
 rw [s.D, s.ti, decide_eq_true (show 0 <= (h : Int) /\ (h : Int) < (n : Int) by omega), Bool.true_and]
 by_cases e : x.ti = 18446744073709551615
 . rw [e, decide_eq_true (show nvD _ <= 18446744073709551615 by unfold nvD; omega)]; rfl
 . rw [decide_eq_false (show ¬ nvD _ <= x.ti by unfold nvD; omega)]
   simp [e]
theorem Soft.ldM (s : Soft n c x y) : y.ldv n c 268763140 = 0 := by
 unfold Bx.ldv
 rw [wh_mask, s.m]
 show lVal (wires n c y) 0 4 = 0
 unfold lVal
 rw [if_pos (by decide), if_neg (by decide), if_pos (by decide)]
theorem ldeM (n c : Nat) : Bx.lde n c 268763140 = 0 := by unfold Bx.lde; rw [wh_mask]; show lErr 4 = 0; decide
theorem Soft.ldL (s : Soft n c x y) : y.ldv n c 268632076 = 16 := by
 unfold Bx.ldv
 rw [wh_last]
 show sVal9 y.rs 12 = 16
 unfold sVal9
 rw [if_pos (by decide)]
 unfold Rs.val
 rw [if_neg (by decide), if_neg (by decide), if_pos (by decide)]
 exact s.la
theorem ldeL (n c : Nat) : Bx.lde n c 268632076 = 0 := by unfold Bx.lde; rw [wh_last]; show sErr9 12 = 0; decide
theorem ob_nil11 (f : Nat -> Bool) (k : Nat) (h : ∀ i, i < k -> f i = false) : ob f k = 0 := by
 rw [ob_congr f (fun _ => false) k h]
 induction k with
 | zero => rfl
 | succ k ih =>
   have := ih fun i hi => h i (by omega)
   unfold ob at this ⊢
   unfold ofBits
   simpa using this
theorem Soft.runs (s : Soft n c x y) : ob (fRn y.tm) c = 0 := ob_nil11 _ _ fun i _ => by unfold fRn; rw [s.tm]; rfl
theorem Soft.lines (s : Soft n c x y) : ob (fun i => (y.tm i).st && (y.tm i).iq) c = 0 := ob_nil11 _ _ fun i _ => by rw [s.tm]; rfl
theorem Soft.high (s : Soft n c x y) (h : x.ti ≠ 18446744073709551615) (t1 : x.ti < 18446744073709551616) : wires n c y = 0 := by
 unfold wires
 refine ob_nil11 _ _ fun i hi => ?_
 unfold fH
 rw [s.D, s.S, s.tm, s.rk, s.ti]
 by_cases h1 : i < 8
 . rw [if_pos h1, decide_eq_false (show ¬ nvD i <= x.ti by unfold nvD; omega), Bool.and_false]
 . rw [if_neg h1]
   by_cases h2 : i < 16
   . rw [if_pos h2]; show (_ && (tz.st && tz.iq)) = false; simp [tz]
   . rw [if_neg h2]
     by_cases h3 : i = 16
     . rw [if_pos h3]; rfl
     . rw [if_neg h3]
       by_cases h4 : i < 24
       . rw [if_pos h4]
       . rw [if_neg h4]; show (_ && ((0 : Int) == 1)) = false; simp
theorem Soft.out (s : Soft n c x y) : outB (wires n c y) y.msk = false := by
 rw [s.m]
 unfold outB
 refine decide_eq_false ?_
 have : least (lm (wires n c y) 0) = -1 := by
  rw [least_congr _ (fun _ => false) fun i _ => by unfold lm; rw [bit_zero, Bool.and_false]]
  decide
 omega
end
end Go.Proofs.YtcgmnjajodegmaaGreat.B
namespace Go.Proofs.YtcgmnjajodegmaaGreat.B
open Go.ChangeShapes Go.WideShapes Go.RowKit Go.Sort
def Ks (w : World) (g m : Nat) (t : Int) : Prop := w.cell? ⟨g, m * 2, none⟩ = some (.int .u64 t) /\ w.cell? ⟨g, m * 2 + 1, none⟩ = some (.int .i64 16)
theorem Ks.below {w w' : World} {g m : Nat} {t : Int} (h : Ks w g m t) (hb : Below w.heap.size w w') : Ks w' g m t := by
 have hl : g < w.heap.size := World.block_lt_of_cell? w _ h.1
 unfold Ks
 rw [hb.cell (p := ⟨g, m * 2, none⟩) hl, hb.cell (p := ⟨g, m * 2 + 1, none⟩) hl]
 exact h
set_option maxHeartbeats 6400000 in
theorem boardResets1 (w : World) (n c : Nat) (d : Int) (n0 : 1 <= n) (n8 : n <= 8) (c0 : 1 <= c) (c8 : c <= 8) (d0 : 1 <= d) (d1 : d < 4294967296) (y : Option Addr) (len cap : Nat) (hy : Acts w y len cap) :
 Calls Tryz.prog 5 #[.agg #[.int .i64 n, .int .i64 c, .int .u32 d], .slice y len cap] w fun e w' => e = .returned (.bool true) /\ Below w.heap.size w w' := by
 have HN8 := Hd n8
 have HMD := Hd (fun w' (h : Acts w' y len cap) => made1 w' n c d n0 n8 c0 c8 d0 d1 y len cap h)
 have HC := Hd (show (w.alloc (cfO n c d)).heap[w.heap.size]? = some (cfO n c d) from blk_new w _)
 have HB := Hd (trA (tr0 w) (cfO n c d))
 have HY := Hd (hy.below HB.out)
 clear hy n0 n8 c0 c8 d0 d1
 go_enter Tryz.func5, Tryz.ntmps5
 go_upto_region 1 with (fail)
 rw [show Obj.cells #[.int .i64 n, .int .i64 c, .int .u32 d] 24 (0, 0) = cfO n c d from rfl]
 generalize w.alloc (cfO n c d) = W at *
 have e0 := blk_cell HC.out 0
 have e1 := blk_cell HC.out 1
 have e2 := blk_cell HC.out 2
 simp at e0 e1 e2
 go_upto_region 2 with (first | (go_at_call 15; refine (HMD.out _ HY.out).mono ?_; rintro e w1 ⟨E, x, bk, ev, rfl, h1, h2, ⟨h3, h4, h5⟩, ha, hl, ho, hb⟩; have HH := Hd h1; have HNW := Hd (show E.new w.heap.size from fun k hk => Nat.le_trans HB.out.size (h2 k hk)); have HE := Hd (And.intro h3 h4); have HL := Hd hl; have HO := Hd ho; have HC := Hd (blk_below hb HC.out (lt_of_block HC.out)); have HB := Hd (tr HB.out hb); clear e0 e1 e2 h1 h2 h3 h4 h5 ha hl ho hb HY) | (rw [zM11_eq]; refine nStoreB rfl (.tmp 6) (.tmp 19) rfl rfl x bk ev _ rfl (blk_new w1 zM11) rfl HO.out ?_; intro w2 hN2 ho2; have hb := Off.toBelow (trA (tr0 w1) zM11) ho2 (fun k hk e => by omega) (Nat.le_refl _); have HH := Hd (HH.out.below hb); have HC := Hd (blk_below hb HC.out (lt_of_block HC.out)); have HB := Hd (tr HB.out hb); clear hb hN2 ho2))
 generalize w1.heap.size = q at *
 have HLL := Hd (show x.es.length < 4294967296 by have := HL.out; omega)
 go_wp2_with fail
 refine (bdCopy E x _ HH.out HLL.out).mono ?_
 rintro e w3 ⟨C, rfl, h1, hb1, h2, h3, h4, h5⟩
 have HT := Hd (two_copy HH.out hb1 h1 h2)
 have HEC := Hd (And.intro h3 h4)
 have HC := Hd (blk_below hb1 HC.out (lt_of_block HC.out))
 have HB := Hd (tr HB.out hb1)
 clear h1 hb1 h2 h3 h4 h5 HH
 have CS := Hd (fun w' (T : Two w' E C x x) => by have := bdStore E x 268632072 45063 w' T.one (by omega) (by omega) (by omega) (by omega) HLL.out; rw [soft_ste] at this; exact this)
 have HS0 := Hd (soft (n := E.n) (c := E.c) (x := x))
 generalize hy : x.sto E.n E.c 268632072 45063 = z at *
 clear hy
 go_wp2_with fail
 refine (CS.out _ HT.out).mono ?_
 rintro e w4 ⟨rfl, hL⟩
 have HC := Hd (hL.kp HT.out.one _ _ _ _ HC.out (by decide))
 obtain ⟨D, LC, H3⟩ := HT.out.lft hL HNW.out HB.out.size
 have HT := Hd H3
 have HD := Hd (And.intro LC.e (And.intro (LC.n.trans HE.out.1) (LC.c.trans HE.out.2)))
 have HB := Hd (HB.out.trans LC.lo)
 clear LC H3 hL CS HNW
 have HS := Hd (show Soft n c x z by have := HS0.out; rw [HE.out.1, HE.out.2] at this; exact this)
 have HXT := Hd HT.out.two.ok.t1
 have HZL := Hd (show z.es.length < 4294967296 by rw [HS.out.es]; have := HL.out; simp; omega)
 clear HS0
 go_wp2_with fail
 refine (show Calls Tryz.prog 18 #[.pointer (some ⟨E.b, 0, none⟩)] _ _ from HD.out.1 ▸ bdResets D z _ HT.out.one HZL.out).mono ?_
 rintro e w5 ⟨v1, rfl, hv, hb, hn⟩
 have HT := Hd (HT.out.below hb)
 have HC := Hd (blk_below hb HC.out (lt_of_block HC.out))
 have HB := Hd (tr HB.out hb)
 have HZN : z.es.length = x.es.length + 1 := by rw [HS.out.es]; simp
 obtain ⟨y1, cap1, rfl, hy1⟩ := ev_form hv
 obtain ⟨g1, rfl⟩ : ∃ g, y1 = some ⟨g, 0, none⟩ := by
  rcases hy1 with h | ⟨g, h, _⟩
  . omega
  . exact ⟨g, h⟩
 obtain ⟨k1, k2⟩ := ev_at hv x.es.length (x.ti, 16) (by rw [HS.out.es, List.getElem?_append_right (Nat.le_refl _), Nat.sub_self]; rfl)
 rw [HZN]
 obtain ⟨m, hm⟩ : ∃ m, x.es.length = m := ⟨_, rfl⟩
 have HM := Hd (show x.es.length = m /\ m <= 40 from ⟨hm, hm ▸ HL.out⟩)
 rw [hm] at k1 k2 ⊢
 have HK := Hd (show Ks w5 g1 m x.ti from And.intro k1 k2)
 clear hv hb hn hy1 HZN k1 k2 hm
 go_upto_region 8 with (fail)
 have HK := Hd (HK.out.below (trD (tr0 w5)))
 have HT := Hd (HT.out.below (trD (tr0 w5)))
 have HC := Hd (blk_below (trD (tr0 w5)) HC.out (lt_of_block HC.out))
 have HB := Hd (tr HB.out (trD (tr0 w5)))
 have T5 := Hd (fun w' (T : Two w' D C z x) => by have := bdTime D z w' T.one; rw [HD.out.1, HS.out.ti] at this; exact this)
 have T7 := Hd (fun w' (T : Two w' D C z x) => bdTime C x w' T.two)
 have R7 := Hd (fun w' (T : Two w' D C z x) => bdResets C x w' T.two HLL.out)
 have K5 := Hd (fun w' (T : Two w' D C z x) => by have := bdRtc D z w' T.one; rw [HD.out.1, HS.out.rk] at this; exact this)
 have K7 := Hd (fun w' (T : Two w' D C z x) => bdRtc C x w' T.two)
 have O5 := Hd (fun w' (T : Two w' D C z x) => by have := bdOut D z w' T.one; rw [HD.out.1, HD.out.2.1, HD.out.2.2, HS.out.out] at this; exact this)
 have SE5 := Hd (fun w' p' (a : EAt w' p' tRtc x.rk.zero) => (show Calls Tryz.prog 25 #[.pointer (some ⟨p', 0, none⟩)] w' (fun e w'' => e = .returned (.int .u64 x.rk.sec) /\ Below w'.heap.size w' w'') from eSeconds x.rk.zero p' w' a))
 have hm0 := HM.out.2
 have zt := self_eq x.ti
 have q1 : IntKind.i64.wrap ((m : Int) + 1) = (m : Int) + 1 := by rw [IntWalk.i64_left]; exact IntWalk.wrap64_in _ ⟨by omega, by omega⟩
 have q2 : IntKind.i64.wrap (m : Int) = (m : Int) := by rw [IntWalk.i64_left]; exact IntWalk.wrap64_in _ ⟨by omega, by omega⟩
 have q3 : (m : Int) < (m : Int) + 1 := by omega
 have q4 : m < m + 1 := by omega
 have zs := self_eq x.rk.sec
 refine wp_region_held_drew (S := fun w' => Ks w' g1 m x.ti) (by kernel_rfl) HK.out (fun _ => ?_)
 generalize w5.drew = w6 at *
 refine tkH (i := 0) (v := .slice (some ⟨g1, 0, none⟩) (m + 1) cap1) rfl (by kernel_rfl) (fun _ _ _ h => h) (fun w' hSw => by clear hSw; go_simp) HK.out ?_
 simp only [lgA, lgZ, lgS, Act.put, lsA, lsZ, lsS]
 refine tkH (i := 1) (v := .int .i64 ((m : Int) + 1)) rfl (by kernel_rfl) (fun _ _ _ h => h) (fun w' hSw => by clear hSw; go_simp) HK.out ?_
 simp only [lgA, lgZ, lgS, Act.put, lsA, lsZ, lsS]
 refine tkH (i := 2) (v := .pointer (some ⟨C.b, 0, none⟩)) rfl (by kernel_rfl) (fun _ _ _ h => h) (fun w' hSw => by clear hSw; go_simp) HK.out ?_
 simp only [lgA, lgZ, lgS, Act.put, lsA, lsZ, lsS]
 refine rdH (i := 3) (by kernel_rfl) rfl fun K hK => ?_
 go_simp
 go_wp2_with (go_at_call 18; refine (R7.out _ HT.out).mono ?_; rintro e w10 ⟨v2, rfl, hv, hb, hn⟩; have HK := Hd (HK.out.below hb); have HT := Hd (HT.out.below hb); have HC := Hd (blk_below hb HC.out (lt_of_block HC.out)); have HB := Hd (tr HB.out hb); obtain ⟨y2, cap2, rfl, _⟩ := ev_form hv; rw [HM.out.1]; clear hv hn; clear hb)
 refine hK.out _ _ HK.out (fun _ => ?_)
 clear hK K
 try simp only [lgA, lgZ, lgS, Act.put, lsA, lsZ, lsS]
 refine tkH (i := 4) (v := .int .i64 (m : Int)) rfl (by kernel_rfl) (fun _ _ _ h => h) (fun w' hSw => by clear hSw; go_simp) HK.out ?_
 simp only [lgA, lgZ, lgS, Act.put, lsA, lsZ, lsS]
 refine tkH (i := 5) (v := .int .i64 ((m : Int) + 1)) rfl (by kernel_rfl) (fun _ _ _ h => h) (fun w' hSw => by clear hSw; go_simp) HK.out ?_
 simp only [lgA, lgZ, lgS, Act.put, lsA, lsZ, lsS]
 refine tkH (i := 6) (v := .bool false) rfl (by kernel_rfl) (fun _ _ _ h => h) (fun w' hSw => by clear hSw; go_simp) HK.out ?_
 simp only [lgA, lgZ, lgS, Act.put, lsA, lsZ, lsS]
 refine tkH (i := 7) (v := .bool false) rfl (by kernel_rfl) (fun _ _ _ h => h) (fun w' hSw => by clear hSw; go_simp) HK.out ?_
 simp only [lgA, lgZ, lgS, Act.put, lsA, lsZ, lsS]
 refine tkH (i := 8) (v := .slice (some ⟨g1, 0, none⟩) (m + 1) cap1) rfl (by kernel_rfl) (fun _ _ _ h => h) (fun w' hSw => by clear hSw; go_simp) HK.out ?_
 simp only [lgA, lgZ, lgS, Act.put, lsA, lsZ, lsS]
 refine tkH (i := 9) (v := .slice (some ⟨g1, 0, none⟩) (m + 1) cap1) rfl (by kernel_rfl) (fun _ _ _ h => h) (fun w' hSw => by clear hSw; go_simp) HK.out ?_
 simp only [lgA, lgZ, lgS, Act.put, lsA, lsZ, lsS]
 refine tkH (i := 10) (v := .int .i64 ((m : Int) + 1)) rfl (by kernel_rfl) (fun _ _ _ h => h) (fun w' hSw => by clear hSw; go_simp) HK.out ?_
 simp only [lgA, lgZ, lgS, Act.put, lsA, lsZ, lsS]
 refine tkH (i := 11) (v := .int .i64 (m : Int)) rfl (by kernel_rfl) (fun _ _ _ h => h) (fun w' hSw => by clear hSw; go_simp) HK.out ?_
 simp only [lgA, lgZ, lgS, Act.put, lsA, lsZ, lsS]
 refine tkH (i := 12) (v := .pointer (some ⟨g1, m * 2, none⟩)) rfl (by kernel_rfl) (fun _ _ _ h => h) (fun w' hSw => by clear hSw; go_simp) HK.out ?_
 simp only [lgA, lgZ, lgS, Act.put, lsA, lsZ, lsS]
 refine tkH (i := 13) (v := .agg #[.int .u64 x.ti, .int .i64 16]) rfl (by kernel_rfl) (fun _ _ _ h => h) (fun w' hSw => by have s1 := hSw.1; have s2 := hSw.2; clear hSw; go_simp) HK.out ?_
 simp only [lgA, lgZ, lgS, Act.put, lsA, lsZ, lsS]
 refine tkH (i := 14) (v := .pointer (some ⟨C.b, 0, none⟩)) rfl (by kernel_rfl) (fun _ _ _ h => h) (fun w' hSw => by clear hSw; go_simp) HK.out ?_
 simp only [lgA, lgZ, lgS, Act.put, lsA, lsZ, lsS]
 refine rdH (i := 15) (by kernel_rfl) rfl fun K hK => ?_
 go_simp
 go_wp2_with (go_at_call 19; refine (T7.out _ HT.out).mono ?_; rintro e w11 ⟨rfl, hb⟩; have HK := Hd (HK.out.below hb); have HT := Hd (HT.out.below hb); have HC := Hd (blk_below hb HC.out (lt_of_block HC.out)); have HB := Hd (tr HB.out hb); clear hb)
 refine hK.out _ _ HK.out (fun _ => ?_)
 clear hK K
 try simp only [lgA, lgZ, lgS, Act.put, lsA, lsZ, lsS]
 refine tkH (i := 16) (v := .agg #[.int .u64 x.ti, .int .i64 16]) rfl (by kernel_rfl) (fun _ _ _ h => h) (fun w' hSw => by clear hSw; go_simp) HK.out ?_
 simp only [lgA, lgZ, lgS, Act.put, lsA, lsZ, lsS]
 refine tkH (i := 17) (v := .bool false) rfl (by kernel_rfl) (fun _ _ _ h => h) (fun w' hSw => by clear hSw; go_simp) HK.out ?_
 simp only [lgA, lgZ, lgS, Act.put, lsA, lsZ, lsS]
 refine tkH (i := 18) (v := .bool false) rfl (by kernel_rfl) (fun _ _ _ h => h) (fun w' hSw => by clear hSw; go_simp) HK.out ?_
 simp only [lgA, lgZ, lgS, Act.put, lsA, lsZ, lsS]
 refine tkH (i := 19) (v := .bool false) rfl (by kernel_rfl) (fun _ _ _ h => h) (fun w' hSw => by clear hSw; go_simp) HK.out ?_
 simp only [lgA, lgZ, lgS, Act.put, lsA, lsZ, lsS]
 refine tkH (i := 20) (v := .pointer (some ⟨E.b, 0, none⟩)) rfl (by kernel_rfl) (fun _ _ _ h => h) (fun w' hSw => by clear hSw; go_simp) HK.out ?_
 simp only [lgA, lgZ, lgS, Act.put, lsA, lsZ, lsS]
 refine tkH (i := 22) (v := .pointer (some ⟨C.b, 0, none⟩)) rfl (by kernel_rfl) (fun _ _ _ h => h) (fun w' hSw => by clear hSw; go_simp) HK.out ?_
 simp only [lgA, lgZ, lgS, Act.put, lsA, lsZ, lsS]
 refine rdH (i := 21) (by kernel_rfl) rfl fun K hK => ?_
 go_simp
 go_wp2_with (go_at_call 19; refine (T5.out _ HT.out).mono ?_; rintro e w12 ⟨rfl, hb⟩; have HK := Hd (HK.out.below hb); have HT := Hd (HT.out.below hb); have HC := Hd (blk_below hb HC.out (lt_of_block HC.out)); have HB := Hd (tr HB.out hb); clear hb)
 refine hK.out _ _ HK.out (fun _ => ?_)
 clear hK K
 try simp only [lgA, lgZ, lgS, Act.put, lsA, lsZ, lsS]
 refine rdH (i := 23) (by kernel_rfl) rfl fun K hK => ?_
 go_simp
 go_wp2_with (go_at_call 19; refine (T7.out _ HT.out).mono ?_; rintro e w13 ⟨rfl, hb⟩; have HK := Hd (HK.out.below hb); have HT := Hd (HT.out.below hb); have HC := Hd (blk_below hb HC.out (lt_of_block HC.out)); have HB := Hd (tr HB.out hb); clear hb)
 refine hK.out _ _ HK.out (fun _ => ?_)
 clear hK K
 try simp only [lgA, lgZ, lgS, Act.put, lsA, lsZ, lsS]
 refine tkH (i := 24) (v := .bool false) rfl (by kernel_rfl) (fun _ _ _ h => h) (fun w' hSw => by clear hSw; go_simp) HK.out ?_
 simp only [lgA, lgZ, lgS, Act.put, lsA, lsZ, lsS]
 refine tkH (i := 25) (v := .bool false) rfl (by kernel_rfl) (fun _ _ _ h => h) (fun w' hSw => by clear hSw; go_simp) HK.out ?_
 simp only [lgA, lgZ, lgS, Act.put, lsA, lsZ, lsS]
 refine tkH (i := 26) (v := .bool false) rfl (by kernel_rfl) (fun _ _ _ h => h) (fun w' hSw => by clear hSw; go_simp) HK.out ?_
 simp only [lgA, lgZ, lgS, Act.put, lsA, lsZ, lsS]
 refine tkH (i := 27) (v := .pointer (some ⟨E.b, 0, none⟩)) rfl (by kernel_rfl) (fun _ _ _ h => h) (fun w' hSw => by clear hSw; go_simp) HK.out ?_
 simp only [lgA, lgZ, lgS, Act.put, lsA, lsZ, lsS]
 refine tkH (i := 30) (v := .pointer (some ⟨C.b, 0, none⟩)) rfl (by kernel_rfl) (fun _ _ _ h => h) (fun w' hSw => by clear hSw; go_simp) HK.out ?_
 simp only [lgA, lgZ, lgS, Act.put, lsA, lsZ, lsS]
 refine rdH (i := 28) (by kernel_rfl) rfl fun K hK => ?_
 go_simp
 go_wp2_with (go_at_call 24; refine (K5.out _ HT.out).mono ?_; rintro e w14 ⟨p1, rfl, hd, hb⟩; have HK := Hd (HK.out.below hb); have HT := Hd (HT.out.below hb); have HC := Hd (blk_below hb HC.out (lt_of_block HC.out)); have HB := Hd (tr HB.out hb); have HP := Hd hd; clear hd; clear hb)
 refine hK.out _ _ HK.out (fun _ => ?_)
 clear hK K
 try simp only [lgA, lgZ, lgS, Act.put, lsA, lsZ, lsS]
 refine rdH (i := 29) (by kernel_rfl) rfl fun K hK => ?_
 go_simp
 go_wp2_with (go_at_call 25; refine (SE5.out _ _ HP.out).mono ?_; rintro e w15 ⟨rfl, hb⟩; have HK := Hd (HK.out.below hb); have HT := Hd (HT.out.below hb); have HC := Hd (blk_below hb HC.out (lt_of_block HC.out)); have HB := Hd (tr HB.out hb); clear hb)
 refine hK.out _ _ HK.out (fun _ => ?_)
 clear hK K
 try simp only [lgA, lgZ, lgS, Act.put, lsA, lsZ, lsS]
 refine rdH (i := 31) (by kernel_rfl) rfl fun K hK => ?_
 go_simp
 go_wp2_with (go_at_call 24; refine (K7.out _ HT.out).mono ?_; rintro e w16 ⟨p2, rfl, hd, hb⟩; have HK := Hd (HK.out.below hb); have HT := Hd (HT.out.below hb); have HC := Hd (blk_below hb HC.out (lt_of_block HC.out)); have HB := Hd (tr HB.out hb); have HP := Hd hd; clear hd; clear hb)
 refine hK.out _ _ HK.out (fun _ => ?_)
 clear hK K
 try simp only [lgA, lgZ, lgS, Act.put, lsA, lsZ, lsS]
 refine rdH (i := 32) (by kernel_rfl) rfl fun K hK => ?_
 go_simp
 go_wp2_with (go_at_call 25; refine (eSeconds x.rk p2 _ HP.out).mono ?_; rintro e w17 ⟨rfl, hb⟩; have HK := Hd (HK.out.below hb); have HT := Hd (HT.out.below hb); have HC := Hd (blk_below hb HC.out (lt_of_block HC.out)); have HB := Hd (tr HB.out hb); clear hb)
 refine hK.out _ _ HK.out (fun _ => ?_)
 clear hK K
 try simp only [lgA, lgZ, lgS, Act.put, lsA, lsZ, lsS]
 refine tkH (i := 33) (v := .bool false) rfl (by kernel_rfl) (fun _ _ _ h => h) (fun w' hSw => by clear hSw; go_simp) HK.out ?_
 simp only [lgA, lgZ, lgS, Act.put, lsA, lsZ, lsS]
 refine tkH (i := 34) (v := .bool false) rfl (by kernel_rfl) (fun _ _ _ h => h) (fun w' hSw => by clear hSw; go_simp) HK.out ?_
 simp only [lgA, lgZ, lgS, Act.put, lsA, lsZ, lsS]
 refine tkH (i := 35) (v := .bool false) rfl (by kernel_rfl) (fun _ _ _ h => h) (fun w' hSw => by clear hSw; go_simp) HK.out ?_
 simp only [lgA, lgZ, lgS, Act.put, lsA, lsZ, lsS]
 refine tkH (i := 36) (v := .pointer (some ⟨E.b, 0, none⟩)) rfl (by kernel_rfl) (fun _ _ _ h => h) (fun w' hSw => by clear hSw; go_simp) HK.out ?_
 simp only [lgA, lgZ, lgS, Act.put, lsA, lsZ, lsS]
 refine rdH (i := 37) (by kernel_rfl) rfl fun K hK => ?_
 go_simp
 go_wp2_with (go_at_call 21; refine (O5.out _ HT.out).mono ?_; rintro e w18 ⟨rfl, hb⟩; have HK := Hd (HK.out.below hb); have HT := Hd (HT.out.below hb); have HC := Hd (blk_below hb HC.out (lt_of_block HC.out)); have HB := Hd (tr HB.out hb); clear hb)
 refine hK.out _ _ HK.out (fun _ => ?_)
 clear hK K
 try simp only [lgA, lgZ, lgS, Act.put, lsA, lsZ, lsS]
 refine tkH (i := 38) (v := .bool false) rfl (by kernel_rfl) (fun _ _ _ h => h) (fun w' hSw => by clear hSw; go_simp) HK.out ?_
 simp only [lgA, lgZ, lgS, Act.put, lsA, lsZ, lsS]
 refine wpAnyH_done (by kernel_rfl) ?_ _
 clear SE5 T7 R7 K7 O5 zt zs HK q1 q2 q3 q4
 go_wp2_with fail
 go_loopw [9] (fun i wr => ∃ k : Nat, k <= n /\ i = .int .i64 k /\ Two wr D C z x /\ wr.heap[w.heap.size]? = some (cfO n c d) /\ Below w.heap.size w wr) (fun i wr => n - (intOf i).toNat)
 case atStart => exact ⟨0, by omega, rfl, HT.out, HC.out, HB.out⟩
 case round =>
  clear HT HC HB
  obtain ⟨k, hk, rfl, hT, hC, hB⟩ := hrel
  have HT := Hd hT
  have HC := Hd hC
  have HB := Hd hB
  clear hT hC hB
  have hn8 := HN8.out
  have e0 := blk_cell HC.out 0
  simp at e0
  by_cases hlt : k < n
  . have CC := Hd (fun w' (T : Two w' D C z x) => by have := bdCompare D z k w' T.one; rw [HD.out.1, HD.out.2.1, HS.out.cmp hlt] at this; exact this)
    have LL := Hd (fun w' (T : Two w' D C z x) => by have := bdLine D z k w' T.one; rw [HD.out.1, HD.out.2.1, HS.out.line hlt HXT.out] at this; exact this)
    have zb := bool_ne (x.ti == 18446744073709551615)
    go_wp2_with fail
    refine (CC.out _ HT.out).mono ?_
    rintro e w19 ⟨rfl, hb⟩
    have HT := Hd (HT.out.below hb)
    have HC := Hd (blk_below hb HC.out (lt_of_block HC.out))
    have HB := Hd (tr HB.out hb)
    clear hb
    go_wp2_with fail
    refine (LL.out _ HT.out).mono ?_
    rintro e w20 ⟨rfl, hb⟩
    have HT := Hd (HT.out.below hb)
    have HC := Hd (blk_below hb HC.out (lt_of_block HC.out))
    have HB := Hd (tr HB.out hb)
    clear hb
    go_wp2_with fail
    refine (T5.out _ HT.out).mono ?_
    rintro e w21 ⟨rfl, hb⟩
    have HT := Hd (HT.out.below hb)
    have HC := Hd (blk_below hb HC.out (lt_of_block HC.out))
    have HB := Hd (tr HB.out hb)
    clear hb
    clear CC LL
    go_wp2_with fail
    go_roundw
    case rel => exact ⟨k + 1, by omega, by go_num, HT.out, HC.out, HB.out⟩
    case measure => simp [intOf]; omega
  . obtain rfl : k = n := by omega
    have L1 := Hd (fun w' (T : Two w' D C z x) => by have := bdLoad D z 268763140 w' T.one (by omega) (by omega); rw [HD.out.1, HD.out.2.1, HD.out.2.2, HS.out.ldM, ldeM] at this; exact this)
    have L2 := Hd (fun w' (T : Two w' D C z x) => by have := bdLoad D z 268632076 w' T.one (by omega) (by omega); rw [HD.out.1, HD.out.2.1, HD.out.2.2, HS.out.ldL, ldeL] at this; exact this)
    have N5 := Hd (fun w' (T : Two w' D C z x) => by have := bdBank D z w' T.one; rw [HD.out.1, HD.out.2.2] at this; exact this)
    have BR := Hd (fun w' p' g' q' (h : BkAt w' p' g' c q' z.tm) => by have := bRuns h; rw [show ob (fun i => (z.tm i).en) c = 0 from HS.out.runs] at this; exact this)
    have BL := Hd (fun w' p' g' q' (h : BkAt w' p' g' c q' z.tm) => by have := bLines h; rw [HS.out.lines] at this; exact this)
    have G5 := Hd (fun w' (T : Two w' D C z x) => by have := bdDog D z w' T.one; rw [HD.out.1, HS.out.wd] at this; exact this)
    obtain ⟨X, hX⟩ : ∃ X, wires k c z = X := ⟨_, rfl⟩
    have H5 := Hd (fun w' (T : Two w' D C z x) => by have := bdHigh D z w' T.one; rw [HD.out.1, HD.out.2.1, HD.out.2.2, hX] at this; exact this)
    have HX := Hd (show X = 0 \/ x.ti = 18446744073709551615 from by by_cases h : x.ti = 18446744073709551615; exact .inr h; exact .inl (hX ▸ HS.out.high h HXT.out))
    clear hX
    go_wp2_with fail
    refine (L1.out _ HT.out).mono ?_
    rintro e w22 ⟨rfl, hb⟩
    have HT := Hd (HT.out.below hb)
    have HC := Hd (blk_below hb HC.out (lt_of_block HC.out))
    have HB := Hd (tr HB.out hb)
    clear hb
    go_wp2_with fail
    refine (L2.out _ HT.out).mono ?_
    rintro e w23 ⟨rfl, hb⟩
    have HT := Hd (HT.out.below hb)
    have HC := Hd (blk_below hb HC.out (lt_of_block HC.out))
    have HB := Hd (tr HB.out hb)
    clear hb
    go_wp2_with fail
    refine (bdKnown _).mono ?_
    rintro e w24 ⟨rfl, hb⟩
    have HT := Hd (HT.out.below hb)
    have HC := Hd (blk_below hb HC.out (lt_of_block HC.out))
    have HB := Hd (tr HB.out hb)
    clear hb
    go_wp2_with fail
    refine (N5.out _ HT.out).mono ?_
    rintro e w25 ⟨p3, g3, q3, rfl, hd, hb⟩
    have HT := Hd (HT.out.below hb)
    have HC := Hd (blk_below hb HC.out (lt_of_block HC.out))
    have HB := Hd (tr HB.out hb)
    clear hb
    go_wp2_with fail
    refine (BR.out _ _ _ _ hd).mono ?_
    rintro e w26 ⟨rfl, hb⟩
    have HT := Hd (HT.out.below hb)
    have HC := Hd (blk_below hb HC.out (lt_of_block HC.out))
    have HB := Hd (tr HB.out hb)
    clear hb
    clear hd
    go_wp2_with fail
    refine (N5.out _ HT.out).mono ?_
    rintro e w27 ⟨p4, g4, q4, rfl, hd, hb⟩
    have HT := Hd (HT.out.below hb)
    have HC := Hd (blk_below hb HC.out (lt_of_block HC.out))
    have HB := Hd (tr HB.out hb)
    clear hb
    go_wp2_with fail
    refine (BL.out _ _ _ _ hd).mono ?_
    rintro e w28 ⟨rfl, hb⟩
    have HT := Hd (HT.out.below hb)
    have HC := Hd (blk_below hb HC.out (lt_of_block HC.out))
    have HB := Hd (tr HB.out hb)
    clear hb
    clear hd
    go_wp2_with fail
    refine (G5.out _ HT.out).mono ?_
    rintro e w29 ⟨p5, rfl, hd, hb⟩
    have HT := Hd (HT.out.below hb)
    have HC := Hd (blk_below hb HC.out (lt_of_block HC.out))
    have HB := Hd (tr HB.out hb)
    clear hb
    go_wp2_with fail
    refine (dEnabled wz p5 _ hd).mono ?_
    rintro e w30 ⟨rfl, rfl⟩
    clear hd
    go_wp2_with fail
    refine (G5.out _ HT.out).mono ?_
    rintro e w31 ⟨p6, rfl, hd, hb⟩
    have HT := Hd (HT.out.below hb)
    have HC := Hd (blk_below hb HC.out (lt_of_block HC.out))
    have HB := Hd (tr HB.out hb)
    clear hb
    go_wp2_with fail
    refine (dLocked wz p6 _ hd).mono ?_
    rintro e w32 ⟨rfl, rfl⟩
    clear hd
    go_wp2_with fail
    refine (K5.out _ HT.out).mono ?_
    rintro e w33 ⟨p7, rfl, hd, hb⟩
    have HT := Hd (HT.out.below hb)
    have HC := Hd (blk_below hb HC.out (lt_of_block HC.out))
    have HB := Hd (tr HB.out hb)
    clear hb
    go_wp2_with fail
    refine (eLine x.rk.zero p7 _ hd).mono ?_
    rintro e w34 ⟨rfl, hb⟩
    have HT := Hd (HT.out.below hb)
    have HC := Hd (blk_below hb HC.out (lt_of_block HC.out))
    have HB := Hd (tr HB.out hb)
    clear hb
    clear hd
    have zw1 : wz.en = false := rfl
    have zw2 : wz.lk = false := rfl
    have zw3 : x.rk.zero.st = false := rfl
    go_wp2_with fail
    refine (H5.out _ HT.out).mono ?_
    rintro e w35 ⟨rfl, hb⟩
    have HT := Hd (HT.out.below hb)
    have HC := Hd (blk_below hb HC.out (lt_of_block HC.out))
    have HB := Hd (tr HB.out hb)
    clear hb
    by_cases hX0 : X = 0
    . subst hX0
      go_wp2_with fail
      go_ret
      exact ⟨rfl, HB.out⟩
    . have hti := HX.out.resolve_left hX0
      have zx : (X == 0) = false := by simpa using hX0
      have zt : (x.ti == 18446744073709551615) = true := by rw [hti]; rfl
      clear hX0
      go_wp2_with fail
      refine (T5.out _ HT.out).mono ?_
      rintro e w36 ⟨rfl, hb⟩
      have HT := Hd (HT.out.below hb)
      have HC := Hd (blk_below hb HC.out (lt_of_block HC.out))
      have HB := Hd (tr HB.out hb)
      clear hb
      go_wp2_with fail
      go_ret
      exact ⟨rfl, HB.out⟩
set_option maxHeartbeats 3200000 in
theorem boardResets0 (w : World) (n c d : Int) (d0 : 0 <= d) (hn : ¬ (1 <= n /\ n <= 8 /\ 1 <= c /\ c <= 8 /\ 0 < d)) (y : Option Addr) (len cap : Nat) :
 Calls Tryz.prog 5 #[.agg #[.int .i64 n, .int .i64 c, .int .u32 d], .slice y len cap] w fun e w' => e = .returned (.bool true) /\ Below w.heap.size w w' := by
 have HMD := Hd (fun w' => made0 w' n c d d0 hn y len cap)
 have HRT := Hd (fun w' => yRightNo n c d w' hn)
 have HC := Hd (show (w.alloc (cfO n c d)).heap[w.heap.size]? = some (cfO n c d) from blk_new w _)
 have HB := Hd (trA (tr0 w) (cfO n c d))
 clear hn d0
 go_enter Tryz.func5, Tryz.ntmps5
 go_upto_region 1 with (fail)
 rw [show Obj.cells #[.int .i64 n, .int .i64 c, .int .u32 d] 24 (0, 0) = cfO n c d from rfl]
 generalize w.alloc (cfO n c d) = W at *
 have e0 := blk_cell HC.out 0
 have e1 := blk_cell HC.out 1
 have e2 := blk_cell HC.out 2
 simp at e0 e1 e2
 go_upto_region 2 with (first | (go_at_call 15; refine (HMD.out _).mono ?_; rintro e w1 ⟨rfl, hb⟩; have HC := Hd (blk_below hb HC.out (lt_of_block HC.out)); have HB := Hd (tr HB.out hb); clear e0 e1 e2 hb) | (rw [zM11_eq]; refine nStoreB rfl (.tmp 6) (.tmp 19) rfl rfl xz (.slice none 0 0) (.slice none 0 0) 0 rfl (blk_new w1 zM11) rfl ⟨rfl, rfl⟩ ?_; intro w2 hN2 ho2; have hb := Off.toBelow (trA (tr0 w1) zM11) ho2 (fun k hk e => by omega) (Nat.le_refl _); have HC := Hd (blk_below hb HC.out (lt_of_block HC.out)); have HB := Hd (tr HB.out hb); clear hb hN2 ho2))
 generalize w1.heap.size = q at *
 go_wp2_with fail
 refine (bdKnown _).mono ?_
 rintro e w3 ⟨rfl, hb⟩
 have HC := Hd (blk_below hb HC.out (lt_of_block HC.out))
 have HB := Hd (tr HB.out hb)
 clear hb
 have e0 := blk_cell HC.out 0
 have e1 := blk_cell HC.out 1
 have e2 := blk_cell HC.out 2
 simp at e0 e1 e2
 go_wp2_with fail
 refine (HRT.out _).mono ?_
 rintro e w4 ⟨rfl, rfl⟩
 go_wp2_with fail
 go_ret
 exact ⟨rfl, HB.out⟩
end Go.Proofs.YtcgmnjajodegmaaGreat.B
namespace Go.Proofs.YtcgmnjajodegmaaGreat.B
open Go.ChangeShapes Go.WideShapes Go.RowKit Go.Sort Go.MapKept
theorem wBoardResets (v0 v1 : Value) (w : World) (h0 : FitsV w (.pair (.int .i64) (.pair (.int .i64) (.pair (.int .u32) .unit))) v0) (h1 : FitsV w (.slice (.pair (.int .i64) (.pair (.int .u64) (.pair (.int .u32) (.pair (.int .u32) .unit))))) v1) :
 Calls Tryz.prog 5 #[v0, v1] w fun e w' => e = .returned (.bool true) /\ Below w.heap.size w w' := by
 obtain ⟨n, c, d, rfl, d0, d1⟩ := fits_cfg h0
 obtain ⟨y, len, cap, rfl, hy⟩ := acts_fit h1
 by_cases hr : 1 <= n /\ n <= 8 /\ 1 <= c /\ c <= 8 /\ 0 < d
 . obtain ⟨n, rfl⟩ := Int.eq_ofNat_of_zero_le (show 0 <= n by omega)
   obtain ⟨c, rfl⟩ := Int.eq_ofNat_of_zero_le (show 0 <= c by omega)
   exact boardResets1 w n c d (by omega) (by omega) (by omega) (by omega) (by omega) d1 y len cap hy
 . exact boardResets0 w n c d d0 hr y len cap
end Go.Proofs.YtcgmnjajodegmaaGreat.B
