/- A part of the proof of a law of layer 12: au. -/
import Derived.Test.YtealhichdbimlaaGreatZCat
import Derived.Test.YtealhichdbimlaaGreatZCBLay
import Derived.Deep.RegionHeld3
set_option linter.unusedVariables false
set_option linter.unusedSimpArgs false
set_option maxHeartbeats 12800000
set_option maxRecDepth 100000
namespace Go.Proofs.YtealhichdbimlaaGreat.B
open Go.Proofs.Tryz
open List renaming getElem?_toArray -> y0q, getElem?_cons_zero -> y1q, getElem?_cons_succ -> y2q
open Go.ChangeShapes Go.WideShapes Go.RowKit Go.Sort
def Bp.fresh (s : Nat) (B : Bp) : Prop := (∀ k, B.dvs k -> s <= k) /\ s <= B.mc
def oN (div : Int) : Bx := ⟨0, nvD, iT, fun _ => tz, wz, rsN, rk0 div, 0, []⟩
theorem aLC {n c : Nat} {d : Int} (n0 : 1 <= n) (n8 : n <= 8) (c0 : 1 <= c) (c8 : c <= 8) (d0 : 1 <= d) (d1 : d < 4294967296) : (oN d).ok n c :=
 ⟨n0, n8, c0, c8, Int.le_refl _, (by show (0 : Int) < 18446744073709551616; decide), aCp, aAG, fun _ _ => aD6, aKs, aM2, aMx d0 d1, Int.le_refl _, (by show (0 : Int) < 4294967296; decide)⟩
theorem aEL (d : Int) : (oN d).still := ⟨rfl, rfl⟩
theorem aDr (f : Nat -> Bool) (h : ∀ i, f i = false) : ∀ k, ob f k = 0
 | 0 => rfl
 | k + 1 => by rw [yG f k (h k), aDr f h k]
theorem aEM (n c : Nat) (d : Int) : wires n c (oN d) = 0 := by
 refine aDr _ (fun i => ?_) 32
 unfold fH
 split
 . show (decide (i < n) && decide ((18446744073709551615 : Int) <= 0)) = false; simp
 . split
   . show (decide (i - 8 < c) && (false && false)) = false; simp
   . split
     . rfl
     . split
       . rfl
       . show (decide (i - 24 < n) && ((0 : Int) == 1)) = false; simp
def jG (B : Bp) : Array Value := #[.int .u32 33554432, .int .u32 49152, .iface 98 (.pointer (some ⟨B.pc, 0, none⟩)), .int .u32 268500992, .int .u32 256, .iface 99 (.pointer (some ⟨B.pb, 0, none⟩)), .int .u32 268566528, .int .u32 20, .iface 100 (.pointer (some ⟨B.pd, 0, none⟩)), .int .u32 268632064, .int .u32 16, .iface 101 (.pointer (some ⟨B.ps, 0, none⟩)), .int .u32 268697600, .int .u32 36, .iface 102 (.pointer (some ⟨B.pr, 0, none⟩)), .int .u32 268763136, .int .u32 12, .iface 103 (.pointer (some ⟨B.pl, 0, none⟩))]
theorem aNU (B : Bp) (w : World) :
 Calls prog 110 #[.agg #[.pointer (some ⟨B.pc, 0, none⟩), .pointer (some ⟨B.pb, 0, none⟩), .pointer (some ⟨B.pd, 0, none⟩), .pointer (some ⟨B.ps, 0, none⟩), .pointer (some ⟨B.pr, 0, none⟩), .pointer (some ⟨B.pl, 0, none⟩)]] w fun e w' => ∃ g, e = .returned (.slice (some ⟨g, 0, none⟩) 6 6) /\ w'.heap[g]? = some (.cells (jG B) 187 (0, 0)) /\ Below w.heap.size w w' /\ w.heap.size <= g := by
 have hX := aD w (.cells #[.pointer (some ⟨B.pc, 0, none⟩), .pointer (some ⟨B.pb, 0, none⟩), .pointer (some ⟨B.pd, 0, none⟩), .pointer (some ⟨B.ps, 0, none⟩), .pointer (some ⟨B.pr, 0, none⟩), .pointer (some ⟨B.pl, 0, none⟩)] 105)
 have c0 := aA hX 0
 have c1 := aA hX 1
 have c2 := aA hX 2
 have c3 := aA hX 3
 have c4 := aA hX 4
 have c5 := aA hX 5
 simp only [y0q, y1q, y2q] at c0 c1 c2 c3 c4 c5
 have hb := aE (aI w) (.cells #[.pointer (some ⟨B.pc, 0, none⟩), .pointer (some ⟨B.pb, 0, none⟩), .pointer (some ⟨B.pd, 0, none⟩), .pointer (some ⟨B.ps, 0, none⟩), .pointer (some ⟨B.pr, 0, none⟩), .pointer (some ⟨B.pl, 0, none⟩)] 105)
 have hs : w.heap.size <= (w.alloc (.cells #[.pointer (some ⟨B.pc, 0, none⟩), .pointer (some ⟨B.pb, 0, none⟩), .pointer (some ⟨B.pd, 0, none⟩), .pointer (some ⟨B.ps, 0, none⟩), .pointer (some ⟨B.pr, 0, none⟩), .pointer (some ⟨B.pl, 0, none⟩)] 105)).heap.size := by simp
 clear hX
 go_enter func110, ntmps110
 go_wp2_with fail
 go_ret
 exact ⟨_, rfl, bS _ _ _, aE hb _, Nat.le_succ _⟩
theorem iDv : (prog.info? 105).map (·.size) = some 6 := by kernel_rfl
section
variable {ops : Array Oper} {rest : List Oper} {o : Oper} {a : Act} {w : World} {Q : Exit -> Act -> World -> Prop}
theorem aJO (hgd : o.guard = none) (x y : Operand) (ho : o.op = .store 105 x y) {b : Nat} (hx : a.eval x = .pointer (some ⟨b, 0, none⟩)) (vs us : List Value) (hl : vs.length = 6) (hu : us.length = 6) (h1 : ∀ v ∈ vs, v.oneCell' = true) (hy : a.eval y = .agg vs.toArray) (hg : w.heap[b]? = some (.cells us.toArray tDv (0, 0)))
 (h : wpList prog ops Q rest (a.put o.dst undef) (w.setRow b vs.toArray)) : wpList prog ops Q (o :: rest) a w := by
 refine aJ hgd _ x y ho b 0 hx vs hy hg (by rw [hl]; exact iDv) (by simp [hl, hu]) h1 ?_
 rw [aX _ _ (by simp [hl, hu])]
 exact h
theorem aOv {fn : Func} {p : Tmp} (h : fn.results = #[.cell p 105]) (tmps : Array Value) (w : World) {b : Nat} (vs : List Value) (hl : vs.length = 6) (hp : tmps[p]? = some (.pointer (some ⟨b, 0, none⟩))) (hg : w.heap[b]? = some (.cells vs.toArray tDv (0, 0))) :
 (results fn tmps).run prog w = .ok (.agg vs.toArray) w :=
 aU h tmps w b 0 _ vs hp hg underlying105 rfl (by rw [hl]; exact iDv) (aL _)
theorem aMu {fn : Func} {p q : Tmp} (h : fn.results = #[.cell p 105, .tmp q]) (tmps : Array Value) (w : World) {b : Nat} (vs : List Value) (y : Value) (hl : vs.length = 6) (hp : tmps[p]? = some (.pointer (some ⟨b, 0, none⟩))) (hq : tmps[q]? = some y) (hg : w.heap[b]? = some (.cells vs.toArray tDv (0, 0))) :
 (results fn tmps).run prog w = .ok (.tuple #[.agg vs.toArray, y]) w :=
 bC h tmps w b 0 _ vs y hp hq hg underlying105 rfl (by rw [hl]; exact iDv) (aL _)
end
theorem aBG (a b c d e f : Nat) : ∀ v ∈ [Value.pointer (some ⟨a, 0, none⟩), .pointer (some ⟨b, 0, none⟩), .pointer (some ⟨c, 0, none⟩), .pointer (some ⟨d, 0, none⟩), .pointer (some ⟨e, 0, none⟩), .pointer (some ⟨f, 0, none⟩)], v.oneCell' = true := by
 intro v hv
 simp only [List.mem_cons, List.not_mem_nil, or_false] at hv
 rcases hv with rfl | rfl | rfl | rfl | rfl | rfl <;> rfl
def z6 : List Value := [.pointer none, .pointer none, .pointer none, .pointer none, .pointer none, .pointer none]
theorem aGu (w : World) (p : Nat) (cs : Array Value) : aF (· = p) w (w.setRow p cs) := ⟨rfl, rfl, rfl, by simp, fun k _ hs => setRow_other w p k cs hs⟩
def nB (pc mc pb gb : Nat) (qb : Nat -> Nat) (pd ps pr pl n c : Nat) (d : Int) : Bp := ⟨0, pc, mc, pb, gb, qb, pd, ps, pr, pl, 0, 0, .slice none 0 0, [], [], fun _ => .slice none 0 0, n, c, d, .slice none 0 0⟩
def aFE (n c : Nat) (d : Int) (w : World) (e : Ending) (w' : World) : Prop := ∃ B : Bp, e = .returned (.tuple #[.agg #[.pointer (some ⟨B.pc, 0, none⟩), .pointer (some ⟨B.pb, 0, none⟩), .pointer (some ⟨B.pd, 0, none⟩), .pointer (some ⟨B.ps, 0, none⟩), .pointer (some ⟨B.pr, 0, none⟩), .pointer (some ⟨B.pl, 0, none⟩)], .int .i64 0]) /\ bB w' B (oN d) 0 /\ Below w.heap.size w w' /\ B.fresh w.heap.size /\ B.n = n /\ B.c = c /\ B.div = d
theorem aPI (n c : Nat) (d : Int) (w : World) (n0 : 1 <= n) (n8 : n <= 8) (c0 : 1 <= c) (c8 : c <= 8) (d0 : 1 <= d) (d1 : d < 4294967296) :
 Calls prog 49 #[.agg #[.int .i64 n, .int .i64 c, .int .u32 d]] w (aFE n c d w) := by
 have hC := bN w (.cells #[.int .i64 n, .int .i64 c, .int .u32 d] 72) (.cells #[.pointer none, .pointer none, .pointer none, .pointer none, .pointer none, .pointer none] 105)
 have hZ := bS w (.cells #[.int .i64 n, .int .i64 c, .int .u32 d] 72) (.cells #[.pointer none, .pointer none, .pointer none, .pointer none, .pointer none, .pointer none] 105)
 have hb := aE (aE (aI w) (.cells #[.int .i64 n, .int .i64 c, .int .u32 d] 72)) (.cells #[.pointer none, .pointer none, .pointer none, .pointer none, .pointer none, .pointer none] 105)
 have hl0 := lt_of_block hC
 have hl1 := lt_of_block hZ
 have k0 := aA hC 0
 have k1 := aA hC 1
 have k2 := aA hC 2
 simp only [y0q, y1q, y2q] at k0 k1 k2
 go_enter func49, ntmps49
 go_upto_region 1 with (fail)
 generalize ((w.alloc (.cells #[.int .i64 n, .int .i64 c, .int .u32 d] 72)).alloc (.cells #[.pointer none, .pointer none, .pointer none, .pointer none, .pointer none, .pointer none] 105)) = W at *
 have HC := Hd hC
 have HZ := Hd hZ
 have HB := Hd hb
 clear hC hZ hb
 go_wp2_with fail
 refine (aPb n W n0 n8).mono ?_
 rintro e w1 ⟨pc, hp1, rfl, A1, b1⟩
 have hC1 := aC b1 HC.out hl0
 have HZ1 := Hd (aC b1 HZ.out hl1)
 have HB1 := Hd (tr HB.out b1)
 have hl1' := lt_of_block HZ1.out
 have hl0' := lt_of_block hC1
 have F1 := Hd (show w.heap.size <= pc /\ w.heap.size <= W.heap.size from ⟨Nat.le_trans HB.out.size hp1, HB.out.size⟩)
 have A1 := Hd A1
 clear hp1 b1 k0 k1 k2 hl0 hl1 HB HZ HC
 have k0 := aA hC1 0
 have k1 := aA hC1 1
 have k2 := aA hC1 2
 simp only [y0q, y1q, y2q] at k0 k1 k2
 have HC1 := Hd hC1
 clear hC1
 go_wp2_with fail
 refine (aPa c c0 c8 w1).mono ?_
 rintro e w2 ⟨pb, gb, qb, rfl, A2, b2, hp2, hg2, hq2⟩
 have hC2 := aC b2 HC1.out hl0'
 have HZ2 := Hd (aC b2 HZ1.out hl1')
 have A1 := Hd (A1.out.below b2)
 have F2 := Hd (show w.heap.size <= pb /\ w.heap.size <= gb /\ ∀ i, i < c -> w.heap.size <= qb i from ⟨Nat.le_trans HB1.out.size hp2, Nat.le_trans HB1.out.size hg2, fun i hi => Nat.le_trans HB1.out.size (hq2 i hi)⟩)
 have HB2 := Hd (tr HB1.out b2)
 have hl1 := lt_of_block HZ2.out
 have hl0 := lt_of_block hC2
 have A2 := Hd A2
 clear hp2 hg2 hq2 b2 k0 k1 k2 hl0' hl1' HB1 HZ1 HC1
 have k0 := aA hC2 0
 have k1 := aA hC2 1
 have k2 := aA hC2 2
 simp only [y0q, y1q, y2q] at k0 k1 k2
 have HC2 := Hd hC2
 clear hC2
 go_wp2_with fail
 refine (aPf d w2 d0 d1).mono ?_
 rintro e w3 ⟨rfl, hw3⟩
 have b3 := aE (aI w2) (oE dE (rk0 d))
 rw [<- hw3] at b3
 have A5 := Hd (show cP w3 w2.heap.size dE (rk0 d) by rw [hw3]; exact aD _ _)
 have hZ3 := aC b3 HZ2.out hl1
 have A1 := Hd (A1.out.below b3)
 have A2 := Hd (A2.out.below b3)
 have F3 := Hd HB2.out.size
 have HB3 := Hd (tr HB2.out b3)
 have HZ3 := Hd hZ3
 clear b3 k0 k1 k2 hl0 hl1 HB2 HZ2 HC2 hw3
 have hl1 := lt_of_block hZ3
 clear hZ3
 go_wp2_with fail
 refine (aPd w3).mono ?_
 rintro e w4 ⟨rfl, hw4⟩
 have b4 := aE (aI w3) (.cells (dl wz).toArray tD (0, 0))
 rw [<- hw4] at b4
 have A3 : dV w4 w3.heap.size wz := by rw [hw4]; exact aD _ _
 clear hw4
 have A1 := Hd (A1.out.below b4)
 have A2 := Hd (A2.out.below b4)
 have A5 := Hd (A5.out.below b4)
 have HZ4 := Hd (aC b4 HZ3.out hl1)
 have F4 := Hd HB3.out.size
 have HB4 := Hd (tr HB3.out b4)
 have A3 := Hd A3
 clear b4 hl1 HB3 HZ3
 have hl1 := lt_of_block HZ4.out
 go_wp2_with fail
 refine (aO4 w4).mono ?_
 rintro e w5 ⟨rfl, A4, b5⟩
 have A1 := Hd (A1.out.below b5)
 have A2 := Hd (A2.out.below b5)
 have A3 := Hd (A3.out.below b5)
 have A5 := Hd (A5.out.below b5)
 have HZ5 := Hd (aC b5 HZ4.out hl1)
 have F5 := Hd HB4.out.size
 have HB5 := Hd (tr HB4.out b5)
 have A4 := Hd A4
 clear b5 hl1 HB4 HZ4
 have hl1 := lt_of_block HZ5.out
 go_wp2_with fail
 refine (aPs w5).mono ?_
 rintro e w6 ⟨rfl, hw6⟩
 have b6 := aE (aI w5) (.cells #[.int .u32 0, .int .u32 0] 237)
 rw [<- hw6] at b6
 have A6 := Hd (show lL w6 w5.heap.size 0 0 by rw [hw6]; exact aD _ _)
 have A1 := Hd (A1.out.below b6)
 have A2 := Hd (A2.out.below b6)
 have A3 := Hd (A3.out.below b6)
 have A4 := Hd (A4.out.below b6)
 have A5 := Hd (A5.out.below b6)
 have hZ6 := aC b6 HZ5.out hl1
 have F6 := Hd HB5.out.size
 have HB6 := Hd (tr HB5.out b6)
 clear b6 hl1 HB5 HZ5 hw6
 obtain ⟨f1, f2⟩ := F1.out
 obtain ⟨f3, f4, f5⟩ := F2.out
 have f6 := F3.out
 have f7 := F4.out
 have f8 := F5.out
 have f9 := F6.out
 have D6 : bB w6 (nB pc W.heap.size pb gb qb w3.heap.size w4.heap.size w2.heap.size w5.heap.size n c d) (oN d) 0 := ⟨A1.out, A2.out, A3.out, A4.out, A5.out, A6.out⟩
 have hF : (nB pc W.heap.size pb gb qb w3.heap.size w4.heap.size w2.heap.size w5.heap.size n c d).fresh w.heap.size :=
  ⟨fun k hk => by rcases hk with e | e | e | ⟨i, hi, e⟩ | e | e | e | e <;> rw [e] <;> first | exact f1 | exact f3 | exact f4 | exact f5 i hi | exact f7 | exact f8 | exact f6 | exact f9, f2⟩
 have hno := D6.no hZ6 (by decide)
 generalize W.heap.size = mc at *
 generalize w2.heap.size = q2 at *
 generalize w3.heap.size = q3 at *
 generalize w4.heap.size = q4 at *
 generalize w5.heap.size = q5 at *
 have hv6 := aBG pc pb q3 q4 q2 q5
 have hB7 := aB HB6.out [Value.pointer (some ⟨pc, 0, none⟩), .pointer (some ⟨pb, 0, none⟩), .pointer (some ⟨q3, 0, none⟩), .pointer (some ⟨q4, 0, none⟩), .pointer (some ⟨q2, 0, none⟩), .pointer (some ⟨q5, 0, none⟩)].toArray (g := w.heap.size + 1) (Nat.le_succ _)
 have D7 := Hd (D6.off (aGu w6 (w.heap.size + 1) [Value.pointer (some ⟨pc, 0, none⟩), .pointer (some ⟨pb, 0, none⟩), .pointer (some ⟨q3, 0, none⟩), .pointer (some ⟨q4, 0, none⟩), .pointer (some ⟨q2, 0, none⟩), .pointer (some ⟨q5, 0, none⟩)].toArray) (fun k hk e => hno (e ▸ hk)) (yD D6.c hZ6))
 have hZ7 := Hd (aZ [Value.pointer (some ⟨pc, 0, none⟩), .pointer (some ⟨pb, 0, none⟩), .pointer (some ⟨q3, 0, none⟩), .pointer (some ⟨q4, 0, none⟩), .pointer (some ⟨q2, 0, none⟩), .pointer (some ⟨q5, 0, none⟩)].toArray hZ6)
 have HB7 := Hd hB7
 have HF := Hd hF
 clear f1 f2 f3 f4 f5 f6 f7 f8 f9 D6 hF hB7 hno A1 A2 A3 A4 A5 A6 F1 F2 F3 F4 F5 F6 HB6
 go_wp2_with (refine aJO rfl (.tmp 2) (.tmp 44) rfl rfl [.pointer (some ⟨pc, 0, none⟩), .pointer (some ⟨pb, 0, none⟩), .pointer (some ⟨q3, 0, none⟩), .pointer (some ⟨q4, 0, none⟩), .pointer (some ⟨q2, 0, none⟩), .pointer (some ⟨q5, 0, none⟩)] z6 rfl rfl hv6 rfl hZ6 ?_)
 exact bodyPost_ret (aMu rfl _ _ [.pointer (some ⟨pc, 0, none⟩), .pointer (some ⟨pb, 0, none⟩), .pointer (some ⟨q3, 0, none⟩), .pointer (some ⟨q4, 0, none⟩), .pointer (some ⟨q2, 0, none⟩), .pointer (some ⟨q5, 0, none⟩)] _ rfl rfl rfl hZ7.out) rfl ⟨_, rfl, D7.out, HB7.out, HF.out, rfl, rfl, rfl⟩
theorem aQF (hsort : aAd) (p bm : Nat) (rv : Value) (R : List (Int × Int)) (ks : List Int) (pv : Int -> Value) (Lp : Int -> List Su) (b s : Int) (xt : TypeId) (xv : Value) (w : World) (hB : eQ w p bm rv R ks pv Lp) (hn : R.length < 64) (hx : Su.wf ⟨b, s, xt, xv⟩) :
 Calls prog 180 #[.pointer (some ⟨p, 0, none⟩), .agg #[.int .u32 b, .int .u32 s, .iface xt xv]] w fun e w' => e = .returned (.tuple #[]) /\ aKx p bm rv R ks pv Lp ⟨b, s, xt, xv⟩ w w' := by
 have hx' := hx
 obtain ⟨x0, ⟨x1, x1'⟩, x2⟩ := hx'
 simp only at x0 x1 x1' x2
 obtain ⟨u0, hu0⟩ : ∃ u0, b / 16777216 = u0 := ⟨_, rfl⟩
 obtain ⟨u1, hu1⟩ : ∃ u1, (b + (s - 1)) / 16777216 = u1 := ⟨_, rfl⟩
 have hu : 0 <= u0 /\ u0 <= u1 /\ u1 <= 255 := by omega
 obtain ⟨g0, g1, g2⟩ := hu
 have HP0 := Hd (fun w => by have := sT b w (by omega) (by omega); rw [hu0] at this; exact this)
 have HP1 := Hd (fun w => by have := sT (b + (s - 1)) w (by omega) (by omega); rw [hu1] at this; exact this)
 have HU0 := Hd hu0
 have HU1 := Hd hu1
 have HS := Hd hsort
 clear hu0 hu1 hsort
 go_enter func180, ntmps180
 go_wp2_with fail
 refine (HP1.out _).mono ?_
 rintro e w1 ⟨rfl, hb1⟩
 have hX := aC hb1 (aD w _) (by simp)
 have hl1 := lt_of_block hX
 have hc0 := aA hX 0
 simp only [y0q, y1q] at hc0
 have hbw1 := tr (aE (aI w) _) hb1
 clear hb1
 go_upto_region 2 with (fail)
 go_wp2_with fail
 refine (HP0.out _).mono ?_
 rintro e w2 ⟨rfl, hb2⟩
 have hX2 := aC hb2 ((aY _ _ hl1).trans hX) (by simp; omega)
 have hY2 := aC hb2 (aD w1 _) (by simp)
 have hbw2 := tr (aE hbw1 _) hb2
 have hl2 := lt_of_block hX2
 have hl3 := lt_of_block hY2
 clear hb2
 go_upto_region 3 with (fail)
 have hW0 := (aY w2 (.cells #[.int .u32 u0] 295) hl2).trans hX2
 have hW1 := (aY w2 (.cells #[.int .u32 u0] 295) hl3).trans hY2
 have hW2 := aD w2 (.cells #[.int .u32 u0] 295)
 have hbW := aE hbw2 (.cells #[.int .u32 u0] 295)
 clear hX hc0 hX2 hY2 hbw1 hbw2
 have hlast : w.heap.size < w1.heap.size := hl1
 generalize w2.alloc (.cells #[.int .u32 u0] 295) = W at *
 generalize w2.heap.size = at1 at *
 generalize w1.heap.size = last1 at *
 clear w1 w2
 have hBW := hB.ofBelow hbW
 have hAP := hB.apart
 have hbml := hB.map.lt
 have hpl := hB.ltp
 have hksl : ∀ v, v ∈ ks -> ∀ j, (pv v).ownBlock = some j -> j < w.heap.size := fun v hv j hj => ((hB.rows v hv).lt j hj).2
 have hlW0 := lt_of_block hW0
 have hlW1 := lt_of_block hW1
 have H0 : aAc W bm R ks pv Lp ⟨b, s, xt, xv⟩ u0 u0 at1 ks pv W := ⟨by rw [aCi]; exact hBW.pgs, by have := hB.kl; omega, fun u hu j hj => .inl ⟨u, hu, hj⟩, aF.refl _ _, hW2⟩
 have HW0 := Hd hW0
 have HW1 := Hd hW1
 have HBW := Hd hBW
 have HBW0 := Hd hB
 have HbW := Hd hbW
 have HKS := Hd hksl
 have HAP := Hd hAP
 clear hW0 hW1 hW2 hBW hB hbW hksl hAP
 go_loopw [5] (fun at_ wr => ∃ (k : Int) (ab : Nat) (ks' : List Int) (pv' : Int -> Value), at_ = .pointer (some ⟨ab, 0, none⟩) /\ u0 <= k /\ k <= u1 + 1 /\ aAc W bm R ks pv Lp ⟨b, s, xt, xv⟩ u0 k ab ks' pv' wr) (fun at_ wr => (u1 + 1 - aDP wr at_).toNat)
 case atStart => exact ⟨u0, at1, ks, pv, rfl, by omega, by omega, H0⟩
 case round =>
  clear H0
  obtain ⟨k, ab, ks', pv', rfl, k0, k1, hA⟩ := hrel
  have hold : ∀ j, j < W.heap.size -> w.heap.size <= j -> ¬ (j = bm \/ ∃ v, v ∈ ks /\ (pv v).ownBlock = some j) := by
   rintro j hj hj2 (h | ⟨v, hv, h⟩)
   . omega
   . have := HKS.out v hv j h; omega
  have hZ0 := hA.off.at HW0.out (hold _ hlW0 (Nat.le_refl _))
  have hZ1 := hA.off.at HW1.out (hold _ hlW1 (by omega))
  have hZP := hA.off.at HBW.out.cell (fun h => h.elim (fun h => HAP.out.pm h) (fun ⟨v, hv, h⟩ => HAP.out.sp v hv p h rfl))
  have hc0 := aA hZ0 0
  have hc1 := aA hZ0 1
  have hc2 := aA hZ0 2
  have hd0 := aA hZ1 0
  have he0 := aA hA.at_ 0
  have hcP := aA hZP 1
  simp only [y0q, y1q, y2q] at hc0 hc1 hc2 hd0 he0 hcP
  have hci : aDP wr (.pointer (some ⟨ab, 0, none⟩)) = k := aAm he0
  have hl0 := lt_of_block hZ0
  have hl1 := lt_of_block hZ1
  have hlp := lt_of_block hZP
  have hlab := lt_of_block hA.at_
  have HZ0 := Hd hZ0
  have HZP := Hd hZP
  clear hZ0 hZ1 hZP
  by_cases hle : k <= u1
  . obtain ⟨i0, hi, hz0, hz1, hz2⟩ := info_parts aF9
    have hMl : (ks'.map fun u => (u, pv' u)).length <= maxLen := by
     have := hA.kl
     rw [List.length_map]; unfold maxLen; omega
    obtain ⟨v0, st, W2, hE, hoE, hv0, hst⟩ := (hA.pg.map.kept (w' := (wr.alloc (.cells #[.int .u32 b, .int .u32 s, .iface xt xv] 247)).drew) (aY wr _ hA.pg.map.lt)).entry aAJ aG3 underlying251 k ⟨by omega, by omega⟩ hMl aFA
    have hv : v0 = jF ks' pv' k := by
     unfold jF
     rcases hv0 with h | ⟨h, e⟩
     . obtain ⟨v, hv, he⟩ := List.mem_map.1 h
       obtain ⟨e1, e2⟩ := Prod.mk.inj he
       rw [e1] at hv e2
       rw [if_pos hv, e2]
     . rw [if_neg (fun hk => h (k, pv' k) (List.mem_map.2 ⟨k, hk, rfl⟩) rfl), e]
    have hrow := hA.pg.row k
    have hrn : ∀ j, v0.ownBlock = some j -> j < wr.heap.size /\ j ≠ bm := fun j hj => hA.pg.rowNm k (by rw [<- hv]; exact hj)
    rw [<- hv] at hrow
    have hLl : (lO Lp ⟨b, s, xt, xv⟩ u0 k k).length <= 64 := by
     have e : lO Lp ⟨b, s, xt, xv⟩ u0 k k = Lp k := by unfold lO; rw [if_neg (by omega)]
     rw [e]; have := HBW0.out.ll k; omega
    have hso : ∀ (w3 w4 : World) (v' : Value), W2.grownBy w3 v0.ownBlock -> w3.ownsRow 0 247 3 v' ((lO Lp ⟨b, s, xt, xv⟩ u0 k k).length + 1) ((lO Lp ⟨b, s, xt, xv⟩ u0 k k).flatMap Su.cells ++ [.int .u32 b, .int .u32 s, .iface xt xv]) -> (v'.ownBlock = v0.ownBlock \/ v'.ownBlock = some W2.heap.size) ->
     dT w4 ek lR bm (mT k v' (ks'.map fun u => (u, pv' u))) -> aF (· = bm) w3 w4 -> sW bm ks' pv' (lO Lp ⟨b, s, xt, xv⟩ u0 k) k ⟨b, s, xt, xv⟩ wr w4 := by
     rw [hv]
     intro w3 w4 v' h23 hown hat hm h34
     exact aJM hA.pg rfl hoE h23 hown hat hm h34
    have hea : wr.heap[ab]? = some (.cells #[.int .u32 k] 295 (0, 0)) := hA.at_
    have hane : ¬ (ab = bm \/ (jF ks' pv' k).ownBlock = some ab) := by
     rintro (h | h)
     . obtain ⟨_, _, hb, _⟩ := hA.pg.map; rw [<- h, hea] at hb; cases hb
     . obtain ⟨c, hc⟩ := fX (hA.pg.row k) h; rw [hea] at hc; simp at hc
    unfold ek at hE
    have hnb : wr.heap.size ≠ bm := by have := hA.pg.map.lt; omega
    have hN := hoE.at (k := wr.heap.size) (aD wr (.cells #[.int .u32 b, .int .u32 s, .iface xt xv] 247)) hnb
    generalize hLk : lO Lp ⟨b, s, xt, xv⟩ u0 k k = Lk at hrow hLl hso
    have hownW : W2.ownsRow 0 247 3 v0 Lk.length (Lk.flatMap Su.cells) := hJ hrow fun g hg => by
     rw [hoE.block g (by have := (hrn g hg).1; show g < (wr.alloc _).heap.size; simp; omega) (hrn g hg).2]
     exact aY wr _ (hrn g hg).1
    have hnews := aLL hN
    have hrest : ∀ v' w3, w3.ownsRow 0 247 3 v' (Lk.length + 1) (Lk.flatMap Su.cells ++ [.int .u32 b, .int .u32 s, .iface xt xv]) -> W2.grownBy w3 v0.ownBlock -> (v'.ownBlock = v0.ownBlock \/ v'.ownBlock = some W2.heap.size) ->
     ∃ w4, (Instr.entryStore 251 (.map (some bm)) (.int .i64 st) v').run prog w3 = .ok () w4 /\ sW bm ks' pv' (lO Lp ⟨b, s, xt, xv⟩ u0 k) k ⟨b, s, xt, xv⟩ wr w4 := by
     intro v' w3 hown3 hgr3 hat3
     have hb3 : w3.heap[bm]? = W2.heap[bm]? := hgr3.block bm (Nat.lt_of_lt_of_le (by have := hA.pg.map.lt; show bm < (wr.alloc _).heap.size; simp; omega) hoE.size) (fun e => (hrn bm e.symm).2 rfl)
     obtain ⟨w4, hr4, hm4, ho4⟩ := hst w3 v' hb3
     exact ⟨w4, hr4, hso w3 w4 v' hgr3 hown3 hat3 hm4 ho4⟩
    have HOW := Hd hownW
    have HN := Hd hnews
    have HI := Hd hi
    have HZ := Hd hz0
    have HZ1 := Hd hz1
    have HZ2 := Hd hz2
    have HR := Hd hrest
    have HA := Hd hA
    have HEA := Hd hea
    have HNE := Hd hane
    have HCI := Hd hci
    clear hrest hst hv0 hoE hN hownW hnews hMl hi hz0 hz1 hz2 hA hv hrow hrn hso hLk hea hane hci hold
    go_upto_region 5 with (fail)
    refine rT fun K5 hK5 => ?_
    go_cut [] from 28 to 39 (fun w' => sW bm ks' pv' (lO Lp ⟨b, s, xt, xv⟩ u0 k) k ⟨b, s, xt, xv⟩ wr w')
    case first =>
     go_region_law (refine eU rfl (.tmp 33) (.tmp 35) 293 rfl 0 247 i0 (.agg #[.int .u32 0, .int .u32 0, .nilIface]) 3 24 underlying293 HI.out HZ.out HZ1.out HZ2.out rfl (by decide) v0 Lk.length (Lk.flatMap Su.cells) rfl HOW.out ⟨wr.heap.size, 0, none⟩ 1 1 [.int .u32 b, .int .u32 s, .iface xt xv] rfl rfl HN.out (aOb b s xt xv) (by unfold maxLen; omega) (by omega) (Nat.zero_le _) ?_; intro v' w3 hown3 hgr3 hnil3 hat3; obtain ⟨w4, hr4, hp4⟩ := HR.out v' w3 hown3 hgr3 hat3)
     all_goals
      go_wp2_with fail
      go_meet
      case rel => assumption
    case rest =>
     obtain ⟨pv'', hNx⟩ := aG7 HA.out k0 hcut
     have hec : wc.heap[ab]? = some (.cells #[.int .u32 k] 295 (0, 0)) := by obtain ⟨_, _, ho, _⟩ := hcut; exact ho.at HEA.out HNE.out
     have he1 := aA hec 0
     simp only [y0q, y1q] at he1
     have hcn := aAm (aA hNx.at_ 0)
     have hlc := lt_of_block hec
     have HNx := Hd hNx
     have HCN := Hd hcn
     refine hK5 _ _ ?_
     clear hE hcut hc0 hc1 hc2 hd0 he0 hcP hec hNx hcn HOW HN HI HZ HZ1 HZ2 HR hK5
     go_wp2_with fail
     go_roundw
     case rel => exact ⟨k + 1, wc.heap.size, zS ks' k, pv'', rfl, by omega, by omega, HNx.out⟩
     case measure =>
      have h1 := HCI.out
      have h2 := HCN.out
      simp at h1 h2 ⊢
      rw [h1, h2]
      omega
  . obtain rfl : k = u1 + 1 := by omega
    have hregW := hJ HBW.out.regs fun g hg => hA.off.block g (HBW.out.regs.lt g hg).2 (fun h => h.elim (HAP.out.rm g hg) (fun ⟨v, hv, h⟩ => HAP.out.rs v hv g h hg))
    go_upto_region 8 with (fail)
    have hp0 := aA HZP.out 0
    simp only [y0q, y1q, y2q] at hp0
    obtain ⟨i0, hi, hz0, hz1, hz2⟩ := info_parts aIg
    have hownV : ((wr.alloc (.cells #[.int .u32 b, .int .u32 s] 185)).drew).ownsRow 0 185 2 rv R.length (R.flatMap bO) := hregW.alloc _
    have hnewsV := aLK (aD wr (.cells #[.int .u32 b, .int .u32 s] 185))
    have HI := Hd hi
    have HZ := Hd hz0
    have HZ1 := Hd hz1
    have HZ2 := Hd hz2
    have HOV := Hd hownV
    have HNV := Hd hnewsV
    have HA := Hd hA
    clear hownV hnewsV hi hz0 hz1 hz2 hA hregW hold he0 hd0 hcP hci
    refine rT fun K8 hK8 => ?_
    go_cut [] from 40 (fun w' => aBz p bm rv R b s wr w')
    case first =>
     go_region_law (refine eU rfl (.tmp 44) (.tmp 47) 250 rfl 0 185 i0 (.agg #[.int .u32 0, .int .u32 0]) 2 8 underlying250 HI.out HZ.out HZ1.out HZ2.out rfl (by decide) rv R.length (R.flatMap bO) rfl HOV.out ⟨wr.heap.size, 0, none⟩ 1 1 [.int .u32 b, .int .u32 s] rfl rfl HNV.out (aP5 b s) (by unfold maxLen; omega) (by omega) (Nat.zero_le _) ?_; intro v' w3 hown3 hgr3 hnil3 hat3; obtain ⟨g3, cap3, rfl, hp03, hf03, hso3⟩ := aHK HZP.out HAP.out.rp hgr3 hown3 hat3)
     all_goals
      go_wp2_with fail
      go_meet
      case rel => assumption
    case rest =>
     obtain ⟨g3, cap3, hP3, hown3, ho3, hat3⟩ := hcut
     have hp3 := aA hP3 0
     simp only [y0q, y1q, y2q] at hp3
     have hlp3 := lt_of_block hP3
     have hlen : (R ++ [(b, s)]).length = R.length + 1 := by simp
     have hown4 : wc.ownsRow 0 185 2 (.slice (some ⟨g3, 0, none⟩) (R ++ [(b, s)]).length cap3) (R ++ [(b, s)]).length ((R ++ [(b, s)]).flatMap bO) := by
      rw [hlen, List.flatMap_append]; simpa using hown3
     have hsort := HS.out (R ++ [(b, s)]) g3 cap3 wc hown4 (by rw [hlen]; omega)
     rw [hlen] at hsort
     have H3 := Hd hP3
     have HO3 := Hd ho3
     have HAT3 := Hd hat3
     refine hK8 _ _ ?_
     clear hP3 hown3 ho3 hat3 hown4 hlen hK8
     go_wp2_with fail
     refine hsort.mono ?_
     rintro e X ⟨rfl, R', hperm, hsorted, hown5, ho5⟩
     have HX := Hd (aJc (x := ⟨b, s, xt, xv⟩) HBW0.out HbW.out (by have := HA.out; rw [<- HU0.out] at this; exact this) HU1.out hx H3.out HO3.out HAT3.out hperm hsorted hown5 ho5)
     clear hperm hsorted hown5 ho5 hsort
     go_wp2_with fail
     go_end0
     exact ⟨rfl, HX.out⟩
end Go.Proofs.YtealhichdbimlaaGreat.B
namespace Go.Proofs.YtealhichdbimlaaGreat.B
open Go.Proofs.Tryz
open List renaming getElem?_toArray -> y0q, getElem?_cons_zero -> y1q, getElem?_cons_succ -> y2q
open Go.ChangeShapes Go.WideShapes Go.RowKit Go.Sort Go.Shelf
theorem xR {α : Type} [Inhabited α] (f : α -> List Value) (k : Nat) (h : ∀ x, (f x).length = k) (d : Array α) : (flatK f k d).toList = d.toList.flatMap f := by
 apply List.ext_getElem?
 intro t
 by_cases ht : t < d.size * k
 . have hk : 0 < k := by
    rcases Nat.eq_zero_or_pos k with h0 | h0
    . subst h0; simp at ht
    . exact h0
   have hq : t / k < d.size := Nat.div_lt_of_lt_mul (by rwa [Nat.mul_comm])
   have h1 := pP f k h d.toList (t / k) (t % k) d[t / k] (by simp [hq]) (Nat.mod_lt _ hk)
   have h2 := get_flatK f k d t ht
   have hlen : t < (flatK f k d).size := by rw [size_flatK]; exact ht
   rw [getElem!_pos _ t hlen] at h2
   rw [Array.getElem?_toList, Array.getElem?_eq_getElem hlen, h2, getElem!_pos d (t / k) hq]
   have e1 : t / k * k + t % k = t := by rw [Nat.mul_comm]; exact Nat.div_add_mod t k
   rw [e1] at h1
   rw [h1]
   have : t % k < (f d[t / k]).length := by rw [h]; exact Nat.mod_lt _ hk
   rw [getElem!_pos (f d[t / k]) (t % k) this, List.getElem?_eq_getElem this]
 . rw [List.getElem?_eq_none (by simp; omega), List.getElem?_eq_none (by rw [jC f k h]; simp; omega)]
theorem aEX {w : World} {g n : Nat} {os : Array Obj} {cur : Array Value} {e : TypeId} {fr : Nat × Nat} (d : Array Value) (hb : w.heap[g]? = some (.cells cur e fr)) :
 (grow (putRow id (Sort.ahead w n) g 0 d) os).heap[g]? = some (.cells (putCells id 0 d cur) e fr) := by
 have hg : g < w.heap.size := lt_of_block hb
 rw [heap_grow_old _ _ (by simpa using hg)]
 simp [putRow, mapBlock, Sort.ahead, Array.getElem?_modify, hb, onCells]
theorem aGv {S : Nat -> Prop} {w : World} {g n : Nat} {os : Array Obj} (d : Array Value) (hS : S g) : aF S w (grow (putRow id (Sort.ahead w n) g 0 d) os) := by
 refine ⟨rfl, rfl, rfl, by simp, fun k hk hne => ?_⟩
 rw [heap_grow_old _ _ (by simpa using hk)]
 have : g ≠ k := fun e => hne (by rw [<- e]; exact hS)
 simp [putRow, mapBlock, Sort.ahead, Array.getElem?_modify, this]
theorem aE2 (cur : Array Value) (ts : Array Value) (h : ts.size <= cur.size) : (putCells id 0 ts cur).toList.take ts.size = ts.toList := by
 apply List.ext_getElem?
 intro j
 by_cases hj : j < ts.size
 . rw [List.getElem?_take_of_lt hj, Array.getElem?_toList]
   simp [putCells, hj, show j < cur.size by omega]
 . rw [List.getElem?_take_eq_none (by omega), List.getElem?_eq_none (by simp; omega)]
theorem aHQ {α : Type} [Inhabited α] {f : α -> List Value} {k : Nat} (hf : ∀ x, (f x).length = k) {w : World} {base g cap n : Nat} {e : TypeId} {os : Array Obj} {L : List α} {d : Array α} (hd : d.size = L.length)
 (ho : w.ownsRow base e k (.slice (some ⟨g, 0, none⟩) L.length cap) L.length (L.flatMap f)) : (sortWorldK f k w g 0 n d os).ownsRow base e k (.slice (some ⟨g, 0, none⟩) L.length cap) L.length (d.toList.flatMap f) := by
 rcases ho.2 with ⟨h1, _⟩ | ⟨g', cap', cur, h1, h2, h3, h4, h5, h6, h7⟩
 . cases h1
 . obtain ⟨⟨rfl⟩, _, rfl⟩ : (Addr.mk g 0 none = Addr.mk g' 0 none) /\ True /\ cap = cap' := by simp at h1; exact ⟨by rw [h1.1], trivial, h1.2⟩
   refine ⟨by rw [jC f k hf]; simp [hd], .inr ⟨g, cap, _, rfl, h2, aEX _ h3, h4, h5, by simp [putCells, h6], ?_⟩⟩
   have hs : (flatK f k d).size = L.length * k := by rw [size_flatK, hd]
   rw [<- hs, aE2 _ _ (by rw [hs, h6]; exact Nat.mul_le_mul_right _ h4), xR f k hf]
theorem aEZ {α : Type} [Inhabited α] {f : α -> List Value} {k : Nat} (hf : ∀ x, (f x).length = k) {w : World} {base g cap : Nat} {e : TypeId} {L : List α} (ho : w.ownsRow base e k (.slice (some ⟨g, 0, none⟩) L.length cap) L.length (L.flatMap f)) :
 HoldsK f k w g 0 L.toArray := by
 intro j hj
 have hj' : j < L.length * k := by simpa using hj
 have h1 := ho.cellAt j hj'
 have h2 := ho.frozenAt j
 rw [Nat.zero_add, h1, h2]
 refine ⟨?_, rfl⟩
 rw [getElem!_pos _ j hj]
 have := xR f k hf L.toArray
 have hl : j < (L.flatMap f).length := by rw [jC f k hf]; exact hj'
 rw [List.getElem?_eq_getElem hl]
 simp only [id, Option.some.injEq]
 have h3 : (flatK f k L.toArray).toList[j]? = (L.flatMap f)[j]? := by rw [this]
 rw [List.getElem?_eq_getElem hl, Array.getElem?_toList, Array.getElem?_eq_getElem hj] at h3
 exact (Option.some.inj h3).symm
theorem aPH (x y : Int × Int) (W : World) : Calls prog 221 #[.agg #[.int .u32 x.1, .int .u32 x.2], .agg #[.int .u32 y.1, .int .u32 y.2]] W
 fun e w' => e = .returned (.int .i64 (sH x.1 y.1)) /\ ∃ q os', w' = grow (W.drewN q) os' := by
 go_enter func221, ntmps221
 go_wp2_with (go_at_call 222; refine (aH1 _ _ _).mono ?_; rintro e w' ⟨rfl, rfl⟩)
 go_ret
 exact ⟨rfl, 0, _, by rw [alloc_eq_grow, alloc_eq_grow, grow_grow]; rfl⟩
theorem aDk (x y : Int × Int) : ltOf (fun x y : Int × Int => sH x.1 y.1) x y = decide (x.1 < y.1) := by
 unfold ltOf sH
 by_cases h1 : x.1 < y.1
 . simp [h1]
 . by_cases h2 : y.1 < x.1 <;> simp [h1, h2]
theorem aM9 : SWO (ltOf fun x y : Int × Int => sH x.1 y.1) where
 irrefl x := by rw [aDk]; simp
 trans x y z h1 h2 := by rw [aDk] at *; simp at *; omega
 ntrans x y z h1 h2 := by rw [aDk] at *; simp at *; omega
theorem aPK (R : List (Int × Int)) (g cap : Nat) (w : World) (ho : w.ownsRow 0 185 2 (.slice (some ⟨g, 0, none⟩) R.length cap) R.length (R.flatMap bO)) (hs : R.length < 4611686018427387904) :
 Calls prog 220 #[.slice (some ⟨g, 0, none⟩) R.length cap, .func (.func 221) #[] #[]] w
  fun e w' => e = .returned (.tuple #[]) /\ ∃ R' : List (Int × Int), R'.Perm R /\ R'.Pairwise (fun x y => x.1 <= y.1) /\ w'.ownsRow 0 185 2 (.slice (some ⟨g, 0, none⟩) R.length cap) R.length (R'.flatMap bO) /\ aF (· = g) w w' := by
 have eg : ∀ args w, (callFunc 221 args).run prog w = .ok (.enter 221 args) w := enters_of func221 (by kernel_rfl) rfl
 have hcon := AnyQ.slices_SortFunc Tryz.sortReg 2 Tryz.isAgg185 Tryz.sizeOf185 bO (fun _ => rfl) (fun x v hv => by simp [bO] at hv; rcases hv with rfl | rfl <;> rfl) (fun x y => sH x.1 y.1) aM9
  221 #[] g 0 cap R.toArray w eg (fun _ _ _ _ x y => aPH x y _) (aEZ (f := bO) (k := 2) (fun _ => rfl) ho) (ho.lt g rfl).2 (by simpa using hs)
 change Calls prog 220 _ _ _ at hcon
 simp only [List.size_toArray] at hcon
 refine hcon.mono ?_
 rintro e w' ⟨rfl, d', n, os, hp, hsd, rfl⟩
 obtain ⟨p1, p2, p3⟩ := hp
 refine ⟨rfl, d'.toList, ?_, ?_, aHQ (f := bO) (k := 2) (fun _ => rfl) (by simpa using p1) ho, aGv _ rfl⟩
 . have : d'.extract 0 R.length = d' := by
    rw [show R.length = d'.size by simpa using p1.symm]; simp
   rw [this] at p3
   simpa using p3
 . rw [List.pairwise_iff_getElem]
   intro i j hi hj hij
   have := hsd i j (Nat.zero_le _) hij (by
    have : d'.size = R.length := by simpa using p1
    simp at hj; omega)
   rw [aDk] at this
   simp at hi hj
   rw [getElem!_pos d' i (by omega), getElem!_pos d' j (by omega)] at this
   simp at this
   simpa using this
theorem aNT (b s : Int) (B : Nat) (w : World) (b0 : 0 <= b) (b1 : b < 4294967296) (s0 : 0 <= s) (s1 : s < 4294967296) (hB : B < w.heap.size) (h0 : w.cell? ⟨B, 0, none⟩ = some (.int .u32 b)) (h1 : w.cell? ⟨B, 1, none⟩ = some (.int .u32 s))
 (x : Int × Int) (hx : (0 <= x.1 /\ x.1 < 4294967296) /\ 0 <= x.2 /\ x.2 < 4294967296) (W : World) (hb : Below w.heap.size w W) :
 Calls prog 218 #[.agg #[.int .u32 x.1, .int .u32 x.2], .pointer (some ⟨B, 0, none⟩)] W fun e w' => e = .returned (.bool (aBD b s x.1 x.2)) /\ Below w.heap.size w w' := by
 obtain ⟨c, t⟩ := x
 obtain ⟨⟨c0, c1⟩, t0, t1⟩ := hx
 simp only at c0 c1 t0 t1
 have hc0 : W.cell? ⟨B, 0, none⟩ = some (.int .u32 b) := (hb.cell (p := ⟨B, 0, none⟩) hB).trans h0
 have hc1 : W.cell? ⟨B, 1, none⟩ = some (.int .u32 s) := (hb.cell (p := ⟨B, 1, none⟩) hB).trans h1
 have hBW : B < W.heap.size := Nat.lt_of_lt_of_le hB hb.size
 have hne : B ≠ W.heap.size := by omega
 have HB := Hd hb
 clear h0 h1 hb
 go_enter func218, ntmps218
 go_wp2_with fail
 refine (aPJ b s c t _ b0 b1 s0 s1 c0 c1 t0 t1).mono ?_
 rintro e w1 ⟨rfl, hb1⟩
 go_wp2_with fail
 go_ret
 exact ⟨rfl, (HB.out.alloc HB.out.size _).trans (hb1.mono (Nat.le_trans HB.out.size (by simp)))⟩
theorem aJw (F : Value) (w : World) :
 Calls prog 217 #[.slice none 0 0, F] w fun e w' => e = .returned (.bool false) /\ w = w' := by
 have h1 : Calls prog 231 #[.slice none 0 0, F] w fun e w' => e = .returned (.int .i64 (-1)) /\ w = w' := by
  go_enter func231, ntmps231
  go_wp2_with fail
  refine wp_loop_rounds 1 ?_
  rw [rounds_succ]
  exact aT
 go_enter func217, ntmps217
 go_wp2_with fail
 refine h1.mono ?_
 rintro e w1 ⟨rfl, rfl⟩
 exact aT
def lM (b s : Int) (R : List (Int × Int)) : Bool := R.any fun x => aBD b s x.1 x.2
abbrev U32 := { n : Int // 0 <= n /\ n < 4294967296 }
instance : Inhabited (U32 × U32) := ⟨⟨0, by omega⟩, ⟨0, by omega⟩⟩
def aOD (x : U32 × U32) : List Value := bO (x.1.1, x.2.1)
theorem aQH (b s : Int) (B : Nat) (R : List (Int × Int)) (g cap : Nat) (w : World) (b0 : 0 <= b) (b1 : b < 4294967296) (s0 : 0 <= s) (s1 : s < 4294967296) (hB : B < w.heap.size) (h0 : w.cell? ⟨B, 0, none⟩ = some (.int .u32 b)) (h1 : w.cell? ⟨B, 1, none⟩ = some (.int .u32 s))
 (hR : ∀ x ∈ R, (0 <= x.1 /\ x.1 < 4294967296) /\ 0 <= x.2 /\ x.2 < 4294967296) (hn : R.length <= 9223372036854775807)
 (ho : w.ownsRow 0 185 2 (.slice (some ⟨g, 0, none⟩) R.length cap) R.length (R.flatMap bO)) :
 Calls prog 217 #[.slice (some ⟨g, 0, none⟩) R.length cap, .func (.func 218) #[] #[.pointer (some ⟨B, 0, none⟩)]] w
  fun e w' => e = .returned (.bool (lM b s R)) /\ Below w.heap.size w w' := by
 have eg : ∀ args w, (callFunc 218 args).run prog w = .ok (.enter 218 args) w := enters_of func218 (by kernel_rfl) rfl
 obtain ⟨U, hU⟩ : ∃ U : List (U32 × U32), U.map (fun x => (x.1.1, x.2.1)) = R := by
  refine ⟨R.pmap (fun x (hx : (0 <= x.1 /\ x.1 < 4294967296) /\ 0 <= x.2 /\ x.2 < 4294967296) => (⟨x.1, hx.1⟩, ⟨x.2, hx.2⟩)) hR, ?_⟩
  rw [List.map_pmap]
  simp
 have hl : U.length = R.length := by rw [<- hU]; simp
 have hcon := AnyQ.slices_ContainsFunc Tryz.anyReg 2 Tryz.isAgg185 Tryz.sizeOf185 aOD (fun _ => rfl) (fun x => aBD b s x.1.1 x.2.1) 218 #[.pointer (some ⟨B, 0, none⟩)] eg g 0 R.length cap U w
  (fun W x hb => aNT b s B w b0 b1 s0 s1 hB h0 h1 (x.1.1, x.2.1) ⟨x.1.2, x.2.2⟩ W hb) (by omega) hn (ho.lt g rfl).2 (fun j hj i v hi => by
    have hjr : j < R.length := by omega
    have hi2 : i < 2 := by
     have := (List.getElem?_eq_some_iff.1 hi).1
     simpa [aOD, bO] using this
    have := qB (f := bO) (n := 2) (fun _ => rfl) ho rfl (k := j) (x := R[j]) (List.getElem?_eq_getElem hjr) i hi2
    rw [Nat.zero_add, this]
    rw [getElem!_pos U j hj] at hi
    have e1 : R[j] = (U[j].1.1, U[j].2.1) := by simp [<- hU]
    rw [e1]
    exact hi)
 change Calls prog 217 _ _ _ at hcon
 refine hcon.mono ?_
 rintro e w' ⟨rfl, hb⟩
 refine ⟨cK ?_, hb⟩
 unfold lM
 rw [<- hl, List.take_length, <- hU, List.any_map]
 rfl
end Go.Proofs.YtealhichdbimlaaGreat.B
