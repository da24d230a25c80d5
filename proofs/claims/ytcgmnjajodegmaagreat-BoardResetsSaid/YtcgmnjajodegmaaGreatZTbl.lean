/- Several texts in one: A board's devices: made, copied, told as seats. The document's board: which there may be. The document's board: a new one. -/
import Derived.Test.YtcgmnjajodegmaaGreatZTan
import Derived.Test.YtcgmnjajodegmaaGreatZTar
import Derived.Test.YtcgmnjajodegmaaGreatZTas
import Derived.Test.YtcgmnjajodegmaaGreatZTbj
import Derived.Test.YtcgmnjajodegmaaGreatZTbk
import Derived.Deep.RegionHeld3
set_option linter.unusedVariables false
set_option linter.unusedSimpArgs false
set_option maxRecDepth 100000
namespace Go.Proofs.YtcgmnjajodegmaaGreat.B
open Go.ChangeShapes Go.WideShapes Go.RowKit Go.Sort
def Bp.fresh (s : Nat) (B : Bp) : Prop := (∀ k, B.dvs k -> s <= k) /\ s <= B.mc
def bx0 (div : Int) : Bx := ⟨0, nvD, zeS, fun _ => tz, wz, rsN, rk0 div, 0, []⟩
theorem bx0_ok {n c : Nat} {d : Int} (n0 : 1 <= n) (n8 : n <= 8) (c0 : 1 <= c) (c8 : c <= 8) (d0 : 1 <= d) (d1 : d < 4294967296) : (bx0 d).ok n c :=
 ⟨n0, n8, c0, c8, Int.le_refl _, (by show (0 : Int) < 18446744073709551616; decide), okD_nv, okS_ze, fun _ _ => tz_ok, wz_ok, rsN_ok, rk0_ok d0 d1, Int.le_refl _, (by show (0 : Int) < 4294967296; decide)⟩
theorem bx0_still (d : Int) : (bx0 d).still := ⟨rfl, rfl⟩
theorem ob_none (f : Nat -> Bool) (h : ∀ i, f i = false) : ∀ k, ob f k = 0
 | 0 => rfl
 | k + 1 => by rw [ob_no f k (h k), ob_none f h k]
theorem bx0_wires (n c : Nat) (d : Int) : wires n c (bx0 d) = 0 := by
 refine ob_none _ (fun i => ?_) 32
 unfold fH
 split
 . show (decide (i < n) && decide ((18446744073709551615 : Int) <= 0)) = false; simp
 . split
   . show (decide (i - 8 < c) && (false && false)) = false; simp
   . split
     . rfl
     . split
       . rfl
       . show (decide (i - 24 < n) && ((0 : Int) == 1)) = false; simp
def seatsRow (B : Bp) : Array Value := #[.int .u32 33554432, .int .u32 49152, .iface 79 (.pointer (some ⟨B.pc, 0, none⟩)), .int .u32 268500992, .int .u32 256, .iface 69 (.pointer (some ⟨B.pb, 0, none⟩)), .int .u32 268566528, .int .u32 20, .iface 65 (.pointer (some ⟨B.pd, 0, none⟩)), .int .u32 268632064, .int .u32 16, .iface 80 (.pointer (some ⟨B.ps, 0, none⟩)), .int .u32 268697600, .int .u32 36, .iface 67 (.pointer (some ⟨B.pr, 0, none⟩)), .int .u32 268763136, .int .u32 12, .iface 81 (.pointer (some ⟨B.pl, 0, none⟩))]
theorem zSeats (B : Bp) (w : World) :
 Calls Tryz.prog 79 #[.agg #[.pointer (some ⟨B.pc, 0, none⟩), .pointer (some ⟨B.pb, 0, none⟩), .pointer (some ⟨B.pd, 0, none⟩), .pointer (some ⟨B.ps, 0, none⟩), .pointer (some ⟨B.pr, 0, none⟩), .pointer (some ⟨B.pl, 0, none⟩)]] w fun e w' => ∃ g, e = .returned (.slice (some ⟨g, 0, none⟩) 6 6) /\ w'.heap[g]? = some (.cells (seatsRow B) 140 (0, 0)) /\ Below w.heap.size w w' /\ w.heap.size <= g := by
 have hX := blk_new w (.cells #[.pointer (some ⟨B.pc, 0, none⟩), .pointer (some ⟨B.pb, 0, none⟩), .pointer (some ⟨B.pd, 0, none⟩), .pointer (some ⟨B.ps, 0, none⟩), .pointer (some ⟨B.pr, 0, none⟩), .pointer (some ⟨B.pl, 0, none⟩)] 83)
 have c0 := blk_cell hX 0
 have c1 := blk_cell hX 1
 have c2 := blk_cell hX 2
 have c3 := blk_cell hX 3
 have c4 := blk_cell hX 4
 have c5 := blk_cell hX 5
 simp only [List.getElem?_toArray, List.getElem?_cons_zero, List.getElem?_cons_succ] at c0 c1 c2 c3 c4 c5
 have hb := trA (tr0 w) (.cells #[.pointer (some ⟨B.pc, 0, none⟩), .pointer (some ⟨B.pb, 0, none⟩), .pointer (some ⟨B.pd, 0, none⟩), .pointer (some ⟨B.ps, 0, none⟩), .pointer (some ⟨B.pr, 0, none⟩), .pointer (some ⟨B.pl, 0, none⟩)] 83)
 have hs : w.heap.size <= (w.alloc (.cells #[.pointer (some ⟨B.pc, 0, none⟩), .pointer (some ⟨B.pb, 0, none⟩), .pointer (some ⟨B.pd, 0, none⟩), .pointer (some ⟨B.ps, 0, none⟩), .pointer (some ⟨B.pr, 0, none⟩), .pointer (some ⟨B.pl, 0, none⟩)] 83)).heap.size := by simp
 clear hX
 go_enter Tryz.func79, Tryz.ntmps79
 go_wp2_with fail
 go_ret
 exact ⟨_, rfl, b2_1 _ _ _, trA hb _, Nat.le_succ _⟩
theorem iDv : (Tryz.prog.info? 83).map (·.size) = some 6 := by kernel_rfl
section
variable {ops : Array Oper} {rest : List Oper} {o : Oper} {a : Act} {w : World} {Q : Exit -> Act -> World -> Prop}
theorem storeDv (hgd : o.guard = none) (x y : Operand) (ho : o.op = .store 83 x y) {b : Nat} (hx : a.eval x = .pointer (some ⟨b, 0, none⟩)) (vs us : List Value) (hl : vs.length = 6) (hu : us.length = 6) (h1 : ∀ v ∈ vs, v.oneCell' = true) (hy : a.eval y = .agg vs.toArray) (hg : w.heap[b]? = some (.cells us.toArray tDv (0, 0)))
 (h : wpList Tryz.prog ops Q rest (a.put o.dst undef) (w.setRow b vs.toArray)) : wpList Tryz.prog ops Q (o :: rest) a w := by
 refine wpList_store_part hgd _ x y ho b 0 hx vs hy hg (by rw [hl]; exact iDv) (by simp [hl, hu]) h1 ?_
 rw [spliced_all _ _ (by simp [hl, hu])]
 exact h
theorem resDv {fn : Func} {p : Tmp} (h : fn.results = #[.cell p 83]) (tmps : Array Value) (w : World) {b : Nat} (vs : List Value) (hl : vs.length = 6) (hp : tmps[p]? = some (.pointer (some ⟨b, 0, none⟩))) (hg : w.heap[b]? = some (.cells vs.toArray tDv (0, 0))) :
 (results fn tmps).run Tryz.prog w = .ok (.agg vs.toArray) w :=
 results_cell_one h tmps w b 0 _ vs hp hg Tryz.underlying83 rfl (by rw [hl]; exact iDv) (part_all _)
theorem resDv2 {fn : Func} {p q : Tmp} (h : fn.results = #[.cell p 83, .tmp q]) (tmps : Array Value) (w : World) {b : Nat} (vs : List Value) (y : Value) (hl : vs.length = 6) (hp : tmps[p]? = some (.pointer (some ⟨b, 0, none⟩))) (hq : tmps[q]? = some y) (hg : w.heap[b]? = some (.cells vs.toArray tDv (0, 0))) :
 (results fn tmps).run Tryz.prog w = .ok (.tuple #[.agg vs.toArray, y]) w :=
 results_cell_slot h tmps w b 0 _ vs y hp hq hg Tryz.underlying83 rfl (by rw [hl]; exact iDv) (part_all _)
end
theorem ptrs_one (a b c d e f : Nat) : ∀ v ∈ [Value.pointer (some ⟨a, 0, none⟩), .pointer (some ⟨b, 0, none⟩), .pointer (some ⟨c, 0, none⟩), .pointer (some ⟨d, 0, none⟩), .pointer (some ⟨e, 0, none⟩), .pointer (some ⟨f, 0, none⟩)], v.oneCell' = true := by
 intro v hv
 simp only [List.mem_cons, List.not_mem_nil, or_false] at hv
 rcases hv with rfl | rfl | rfl | rfl | rfl | rfl <;> rfl
def z6 : List Value := [.pointer none, .pointer none, .pointer none, .pointer none, .pointer none, .pointer none]
theorem offRow (w : World) (p : Nat) (cs : Array Value) : Off (· = p) w (w.setRow p cs) := ⟨rfl, rfl, rfl, by simp, fun k _ hs => setRow_other w p k cs hs⟩
def nB (pc mc pb gb : Nat) (qb : Nat -> Nat) (pd ps pr pl n c : Nat) (d : Int) : Bp := ⟨0, pc, mc, pb, gb, qb, pd, ps, pr, pl, 0, 0, .slice none 0 0, [], [], fun _ => .slice none 0 0, n, c, d, .slice none 0 0⟩
def MadePost (n c : Nat) (d : Int) (w : World) (e : Ending) (w' : World) : Prop := ∃ B : Bp, e = .returned (.tuple #[.agg #[.pointer (some ⟨B.pc, 0, none⟩), .pointer (some ⟨B.pb, 0, none⟩), .pointer (some ⟨B.pd, 0, none⟩), .pointer (some ⟨B.ps, 0, none⟩), .pointer (some ⟨B.pr, 0, none⟩), .pointer (some ⟨B.pl, 0, none⟩)], .int .i64 0]) /\ DvAt w' B (bx0 d) 0 /\ Below w.heap.size w w' /\ B.fresh w.heap.size /\ B.n = n /\ B.c = c /\ B.div = d
set_option maxHeartbeats 3200000 in
theorem zMade (n c : Nat) (d : Int) (w : World) (n0 : 1 <= n) (n8 : n <= 8) (c0 : 1 <= c) (c8 : c <= 8) (d0 : 1 <= d) (d1 : d < 4294967296) :
 Calls Tryz.prog 36 #[.agg #[.int .i64 n, .int .i64 c, .int .u32 d]] w (MadePost n c d w) := by
 have hC := b2_0 w (.cells #[.int .i64 n, .int .i64 c, .int .u32 d] 24) (.cells #[.pointer none, .pointer none, .pointer none, .pointer none, .pointer none, .pointer none] 83)
 have hZ := b2_1 w (.cells #[.int .i64 n, .int .i64 c, .int .u32 d] 24) (.cells #[.pointer none, .pointer none, .pointer none, .pointer none, .pointer none, .pointer none] 83)
 have hb := trA (trA (tr0 w) (.cells #[.int .i64 n, .int .i64 c, .int .u32 d] 24)) (.cells #[.pointer none, .pointer none, .pointer none, .pointer none, .pointer none, .pointer none] 83)
 have hl0 := lt_of_block hC
 have hl1 := lt_of_block hZ
 have k0 := blk_cell hC 0
 have k1 := blk_cell hC 1
 have k2 := blk_cell hC 2
 simp only [List.getElem?_toArray, List.getElem?_cons_zero, List.getElem?_cons_succ] at k0 k1 k2
 go_enter Tryz.func36, Tryz.ntmps36
 go_upto_region 1 with (fail)
 generalize ((w.alloc (.cells #[.int .i64 n, .int .i64 c, .int .u32 d] 24)).alloc (.cells #[.pointer none, .pointer none, .pointer none, .pointer none, .pointer none, .pointer none] 83)) = W at *
 have HC := Hd hC
 have HZ := Hd hZ
 have HB := Hd hb
 clear hC hZ hb
 go_wp2_with fail
 refine (cNew n W n0 n8).mono ?_
 rintro e w1 ⟨pc, hp1, rfl, A1, b1⟩
 have hC1 := blk_below b1 HC.out hl0
 have HZ1 := Hd (blk_below b1 HZ.out hl1)
 have HB1 := Hd (tr HB.out b1)
 have hl1' := lt_of_block HZ1.out
 have hl0' := lt_of_block hC1
 have F1 := Hd (show w.heap.size <= pc /\ w.heap.size <= W.heap.size from ⟨Nat.le_trans HB.out.size hp1, HB.out.size⟩)
 have A1 := Hd A1
 clear hp1 b1 k0 k1 k2 hl0 hl1 HB HZ HC
 have k0 := blk_cell hC1 0
 have k1 := blk_cell hC1 1
 have k2 := blk_cell hC1 2
 simp only [List.getElem?_toArray, List.getElem?_cons_zero, List.getElem?_cons_succ] at k0 k1 k2
 have HC1 := Hd hC1
 clear hC1
 go_wp2_with fail
 refine (bNew c c0 c8 w1).mono ?_
 rintro e w2 ⟨pb, gb, qb, rfl, A2, b2, hp2, hg2, hq2⟩
 have hC2 := blk_below b2 HC1.out hl0'
 have HZ2 := Hd (blk_below b2 HZ1.out hl1')
 have A1 := Hd (A1.out.below b2)
 have F2 := Hd (show w.heap.size <= pb /\ w.heap.size <= gb /\ ∀ i, i < c -> w.heap.size <= qb i from ⟨Nat.le_trans HB1.out.size hp2, Nat.le_trans HB1.out.size hg2, fun i hi => Nat.le_trans HB1.out.size (hq2 i hi)⟩)
 have HB2 := Hd (tr HB1.out b2)
 have hl1 := lt_of_block HZ2.out
 have hl0 := lt_of_block hC2
 have A2 := Hd A2
 clear hp2 hg2 hq2 b2 k0 k1 k2 hl0' hl1' HB1 HZ1 HC1
 have k0 := blk_cell hC2 0
 have k1 := blk_cell hC2 1
 have k2 := blk_cell hC2 2
 simp only [List.getElem?_toArray, List.getElem?_cons_zero, List.getElem?_cons_succ] at k0 k1 k2
 have HC2 := Hd hC2
 clear hC2
 go_wp2_with fail
 refine (eNew d w2 d0 d1).mono ?_
 rintro e w3 ⟨rfl, hw3⟩
 have b3 := trA (tr0 w2) (oE tRtc (rk0 d))
 rw [<- hw3] at b3
 have A5 := Hd (show EAt w3 w2.heap.size tRtc (rk0 d) by rw [hw3]; exact blk_new _ _)
 have hZ3 := blk_below b3 HZ2.out hl1
 have A1 := Hd (A1.out.below b3)
 have A2 := Hd (A2.out.below b3)
 have F3 := Hd HB2.out.size
 have HB3 := Hd (tr HB2.out b3)
 have HZ3 := Hd hZ3
 clear b3 k0 k1 k2 hl0 hl1 HB2 HZ2 HC2 hw3
 have hl1 := lt_of_block hZ3
 clear hZ3
 go_wp2_with fail
 refine (dNew w3).mono ?_
 rintro e w4 ⟨rfl, hw4⟩
 have b4 := trA (tr0 w3) (.cells (dl wz).toArray tD (0, 0))
 rw [<- hw4] at b4
 have A3 : DAt w4 w3.heap.size wz := by rw [hw4]; exact blk_new _ _
 clear hw4
 have A1 := Hd (A1.out.below b4)
 have A2 := Hd (A2.out.below b4)
 have A5 := Hd (A5.out.below b4)
 have HZ4 := Hd (blk_below b4 HZ3.out hl1)
 have F4 := Hd HB3.out.size
 have HB4 := Hd (tr HB3.out b4)
 have A3 := Hd A3
 clear b4 hl1 HB3 HZ3
 have hl1 := lt_of_block HZ4.out
 go_wp2_with fail
 refine (rsNew w4).mono ?_
 rintro e w5 ⟨rfl, A4, b5⟩
 have A1 := Hd (A1.out.below b5)
 have A2 := Hd (A2.out.below b5)
 have A3 := Hd (A3.out.below b5)
 have A5 := Hd (A5.out.below b5)
 have HZ5 := Hd (blk_below b5 HZ4.out hl1)
 have F5 := Hd HB4.out.size
 have HB5 := Hd (tr HB4.out b5)
 have A4 := Hd A4
 clear b5 hl1 HB4 HZ4
 have hl1 := lt_of_block HZ5.out
 go_wp2_with fail
 refine (lNew w5).mono ?_
 rintro e w6 ⟨rfl, hw6⟩
 have b6 := trA (tr0 w5) (.cells #[.int .u32 0, .int .u32 0] 197)
 rw [<- hw6] at b6
 have A6 := Hd (show LAt w6 w5.heap.size 0 0 by rw [hw6]; exact blk_new _ _)
 have A1 := Hd (A1.out.below b6)
 have A2 := Hd (A2.out.below b6)
 have A3 := Hd (A3.out.below b6)
 have A4 := Hd (A4.out.below b6)
 have A5 := Hd (A5.out.below b6)
 have hZ6 := blk_below b6 HZ5.out hl1
 have F6 := Hd HB5.out.size
 have HB6 := Hd (tr HB5.out b6)
 clear b6 hl1 HB5 HZ5 hw6
 obtain ⟨f1, f2⟩ := F1.out
 obtain ⟨f3, f4, f5⟩ := F2.out
 have f6 := F3.out
 have f7 := F4.out
 have f8 := F5.out
 have f9 := F6.out
 have D6 : DvAt w6 (nB pc W.heap.size pb gb qb w3.heap.size w4.heap.size w2.heap.size w5.heap.size n c d) (bx0 d) 0 := ⟨A1.out, A2.out, A3.out, A4.out, A5.out, A6.out⟩
 have hF : (nB pc W.heap.size pb gb qb w3.heap.size w4.heap.size w2.heap.size w5.heap.size n c d).fresh w.heap.size :=
  ⟨fun k hk => by rcases hk with e | e | e | ⟨i, hi, e⟩ | e | e | e | e <;> rw [e] <;> first | exact f1 | exact f3 | exact f4 | exact f5 i hi | exact f7 | exact f8 | exact f6 | exact f9, f2⟩
 have hno := D6.no hZ6 (by decide)
 generalize W.heap.size = mc at *
 generalize w2.heap.size = q2 at *
 generalize w3.heap.size = q3 at *
 generalize w4.heap.size = q4 at *
 generalize w5.heap.size = q5 at *
 have hv6 := ptrs_one pc pb q3 q4 q2 q5
 have hB7 := below_setRow HB6.out [Value.pointer (some ⟨pc, 0, none⟩), .pointer (some ⟨pb, 0, none⟩), .pointer (some ⟨q3, 0, none⟩), .pointer (some ⟨q4, 0, none⟩), .pointer (some ⟨q2, 0, none⟩), .pointer (some ⟨q5, 0, none⟩)].toArray (g := w.heap.size + 1) (Nat.le_succ _)
 have D7 := Hd (D6.off (offRow w6 (w.heap.size + 1) [Value.pointer (some ⟨pc, 0, none⟩), .pointer (some ⟨pb, 0, none⟩), .pointer (some ⟨q3, 0, none⟩), .pointer (some ⟨q4, 0, none⟩), .pointer (some ⟨q2, 0, none⟩), .pointer (some ⟨q5, 0, none⟩)].toArray) (fun k hk e => hno (e ▸ hk)) (mc_ne D6.c hZ6))
 have hZ7 := Hd (row_set [Value.pointer (some ⟨pc, 0, none⟩), .pointer (some ⟨pb, 0, none⟩), .pointer (some ⟨q3, 0, none⟩), .pointer (some ⟨q4, 0, none⟩), .pointer (some ⟨q2, 0, none⟩), .pointer (some ⟨q5, 0, none⟩)].toArray hZ6)
 have HB7 := Hd hB7
 have HF := Hd hF
 clear f1 f2 f3 f4 f5 f6 f7 f8 f9 D6 hF hB7 hno A1 A2 A3 A4 A5 A6 F1 F2 F3 F4 F5 F6 HB6
 go_wp2_with (refine storeDv rfl (.tmp 2) (.tmp 44) rfl rfl [.pointer (some ⟨pc, 0, none⟩), .pointer (some ⟨pb, 0, none⟩), .pointer (some ⟨q3, 0, none⟩), .pointer (some ⟨q4, 0, none⟩), .pointer (some ⟨q2, 0, none⟩), .pointer (some ⟨q5, 0, none⟩)] z6 rfl rfl hv6 rfl hZ6 ?_)
 exact bodyPost_ret (resDv2 rfl _ _ [.pointer (some ⟨pc, 0, none⟩), .pointer (some ⟨pb, 0, none⟩), .pointer (some ⟨q3, 0, none⟩), .pointer (some ⟨q4, 0, none⟩), .pointer (some ⟨q2, 0, none⟩), .pointer (some ⟨q5, 0, none⟩)] _ rfl rfl rfl hZ7.out) rfl ⟨_, rfl, D7.out, HB7.out, HF.out, rfl, rfl, rfl⟩
theorem z6_one : ∀ v ∈ z6, v.oneCell' = true := by decide
theorem zMadeHarts (n c d : Int) (w : World) (hn : n < 1 \/ 8 < n) :
 Calls Tryz.prog 36 #[.agg #[.int .i64 n, .int .i64 c, .int .u32 d]] w fun e w' => e = .returned (.tuple #[.agg #[.pointer none, .pointer none, .pointer none, .pointer none, .pointer none, .pointer none], .int .i64 5]) /\ Below w.heap.size w w' := by
 have hC := b2_0 w (.cells #[.int .i64 n, .int .i64 c, .int .u32 d] 24) (.cells #[.pointer none, .pointer none, .pointer none, .pointer none, .pointer none, .pointer none] 83)
 have hZ := b2_1 w (.cells #[.int .i64 n, .int .i64 c, .int .u32 d] 24) (.cells #[.pointer none, .pointer none, .pointer none, .pointer none, .pointer none, .pointer none] 83)
 have hb := trA (trA (tr0 w) (.cells #[.int .i64 n, .int .i64 c, .int .u32 d] 24)) (.cells #[.pointer none, .pointer none, .pointer none, .pointer none, .pointer none, .pointer none] 83)
 have k0 := blk_cell hC 0
 have k1 := blk_cell hC 1
 have k2 := blk_cell hC 2
 simp only [List.getElem?_toArray, List.getElem?_cons_zero, List.getElem?_cons_succ] at k0 k1 k2
 have h1 := z6_one
 have hl0 := lt_of_block hC
 have hl1 := lt_of_block hZ
 go_enter Tryz.func36, Tryz.ntmps36
 go_upto_region 1 with (fail)
 generalize ((w.alloc (.cells #[.int .i64 n, .int .i64 c, .int .u32 d] 24)).alloc (.cells #[.pointer none, .pointer none, .pointer none, .pointer none, .pointer none, .pointer none] 83)) = W at *
 have HC := Hd hC
 have HZ := Hd hZ
 have HB := Hd hb
 clear hC hZ hb
 go_wp2_with fail
 refine (cNewBad n W hn).mono ?_
 rintro e w1 ⟨rfl, rfl⟩
 have hZ := HZ.out
 have hbw := HB.out
 clear HZ HB HC
 have hS := row_set z6.toArray hZ
 have hB := below_setRow hbw z6.toArray (g := w.heap.size + 1) (Nat.le_succ _)
 have HS := Hd hS
 have HB2 := Hd hB
 clear hS hB hbw
 go_wp2_with (refine storeDv rfl (.tmp 2) (.tmp 16) rfl rfl z6 z6 rfl rfl h1 rfl hZ ?_)
 exact bodyPost_ret (resDv2 rfl _ _ z6 _ rfl rfl rfl HS.out) rfl ⟨rfl, HB2.out⟩
theorem zMadeCounts (c d : Int) (w : World) (m : Nat) (m0 : 1 <= m) (m8 : m <= 8) (hc : c < 1 \/ 8 < c) :
 Calls Tryz.prog 36 #[.agg #[.int .i64 m, .int .i64 c, .int .u32 d]] w fun e w' => e = .returned (.tuple #[.agg #[.pointer none, .pointer none, .pointer none, .pointer none, .pointer none, .pointer none], .int .i64 5]) /\ Below w.heap.size w w' := by
 have hC := b2_0 w (.cells #[.int .i64 m, .int .i64 c, .int .u32 d] 24) (.cells #[.pointer none, .pointer none, .pointer none, .pointer none, .pointer none, .pointer none] 83)
 have hZ := b2_1 w (.cells #[.int .i64 m, .int .i64 c, .int .u32 d] 24) (.cells #[.pointer none, .pointer none, .pointer none, .pointer none, .pointer none, .pointer none] 83)
 have hb := trA (trA (tr0 w) (.cells #[.int .i64 m, .int .i64 c, .int .u32 d] 24)) (.cells #[.pointer none, .pointer none, .pointer none, .pointer none, .pointer none, .pointer none] 83)
 have k0 := blk_cell hC 0
 have k1 := blk_cell hC 1
 have k2 := blk_cell hC 2
 simp only [List.getElem?_toArray, List.getElem?_cons_zero, List.getElem?_cons_succ] at k0 k1 k2
 have h1 := z6_one
 have hl0 := lt_of_block hC
 have hl1 := lt_of_block hZ
 go_enter Tryz.func36, Tryz.ntmps36
 go_upto_region 1 with (fail)
 generalize ((w.alloc (.cells #[.int .i64 m, .int .i64 c, .int .u32 d] 24)).alloc (.cells #[.pointer none, .pointer none, .pointer none, .pointer none, .pointer none, .pointer none] 83)) = W at *
 have HC := Hd hC
 have HZ := Hd hZ
 have HB := Hd hb
 clear hC hZ hb
 go_wp2_with fail
 refine (cNew m W m0 m8).mono ?_
 rintro e w1 ⟨pc, hp1, rfl, A1, b1⟩
 have hC1 := blk_below b1 HC.out hl0
 have hZ1 := blk_below b1 HZ.out hl1
 have hb1 := tr HB.out b1
 clear hp1 b1 k0 k1 k2 hl0 hl1 HB HZ HC A1
 have k0 := blk_cell hC1 0
 have k1 := blk_cell hC1 1
 have k2 := blk_cell hC1 2
 simp only [List.getElem?_toArray, List.getElem?_cons_zero, List.getElem?_cons_succ] at k0 k1 k2
 have hl0 := lt_of_block hC1
 have hl1 := lt_of_block hZ1
 have HC := Hd hC1
 have HZ := Hd hZ1
 have HB := Hd hb1
 clear hC1 hZ1 hb1
 go_wp2_with fail
 refine (bNewNo c hc _).mono ?_
 rintro e w2 ⟨rfl, rfl⟩
 have hZ := HZ.out
 have hbw := HB.out
 clear HZ HB HC
 have hS := row_set z6.toArray hZ
 have hB := below_setRow hbw z6.toArray (g := w.heap.size + 1) (Nat.le_succ _)
 have HS := Hd hS
 have HB2 := Hd hB
 clear hS hB hbw
 go_wp2_with (refine storeDv rfl (.tmp 2) (.tmp 26) rfl rfl z6 z6 rfl rfl h1 rfl hZ ?_)
 exact bodyPost_ret (resDv2 rfl _ _ z6 _ rfl rfl rfl HS.out) rfl ⟨rfl, HB2.out⟩
theorem zMadeDiv (w : World) (m q : Nat) (m0 : 1 <= m) (m8 : m <= 8) (q0 : 1 <= q) (q8 : q <= 8) :
 Calls Tryz.prog 36 #[.agg #[.int .i64 m, .int .i64 q, .int .u32 0]] w fun e w' => e = .returned (.tuple #[.agg #[.pointer none, .pointer none, .pointer none, .pointer none, .pointer none, .pointer none], .int .i64 5]) /\ Below w.heap.size w w' := by
 have hC := b2_0 w (.cells #[.int .i64 m, .int .i64 q, .int .u32 0] 24) (.cells #[.pointer none, .pointer none, .pointer none, .pointer none, .pointer none, .pointer none] 83)
 have hZ := b2_1 w (.cells #[.int .i64 m, .int .i64 q, .int .u32 0] 24) (.cells #[.pointer none, .pointer none, .pointer none, .pointer none, .pointer none, .pointer none] 83)
 have hb := trA (trA (tr0 w) (.cells #[.int .i64 m, .int .i64 q, .int .u32 0] 24)) (.cells #[.pointer none, .pointer none, .pointer none, .pointer none, .pointer none, .pointer none] 83)
 have k0 := blk_cell hC 0
 have k1 := blk_cell hC 1
 have k2 := blk_cell hC 2
 simp only [List.getElem?_toArray, List.getElem?_cons_zero, List.getElem?_cons_succ] at k0 k1 k2
 have h1 := z6_one
 have hl0 := lt_of_block hC
 have hl1 := lt_of_block hZ
 go_enter Tryz.func36, Tryz.ntmps36
 go_upto_region 1 with (fail)
 generalize ((w.alloc (.cells #[.int .i64 m, .int .i64 q, .int .u32 0] 24)).alloc (.cells #[.pointer none, .pointer none, .pointer none, .pointer none, .pointer none, .pointer none] 83)) = W at *
 have HC := Hd hC
 have HZ := Hd hZ
 have HB := Hd hb
 clear hC hZ hb
 go_wp2_with fail
 refine (cNew m W m0 m8).mono ?_
 rintro e w1 ⟨pc, hp1, rfl, A1, b1⟩
 have hC1 := blk_below b1 HC.out hl0
 have hZ1 := blk_below b1 HZ.out hl1
 have hb1 := tr HB.out b1
 clear hp1 b1 k0 k1 k2 hl0 hl1 HB HZ HC A1
 have k0 := blk_cell hC1 0
 have k1 := blk_cell hC1 1
 have k2 := blk_cell hC1 2
 simp only [List.getElem?_toArray, List.getElem?_cons_zero, List.getElem?_cons_succ] at k0 k1 k2
 have hl0 := lt_of_block hC1
 have hl1 := lt_of_block hZ1
 have HC := Hd hC1
 have HZ := Hd hZ1
 have HB := Hd hb1
 clear hC1 hZ1 hb1
 go_wp2_with fail
 refine (bNew q q0 q8 w1).mono ?_
 rintro e w2 ⟨pb, gb, qb, rfl, A2, b2, hp2, hg2, hq2⟩
 have hC2 := blk_below b2 HC.out hl0
 have hZ2 := blk_below b2 HZ.out hl1
 have hb2 := tr HB.out b2
 clear b2 k0 k1 k2 hl0 hl1 HB HZ HC A2 hp2 hg2 hq2
 have k0 := blk_cell hC2 0
 have k1 := blk_cell hC2 1
 have k2 := blk_cell hC2 2
 simp only [List.getElem?_toArray, List.getElem?_cons_zero, List.getElem?_cons_succ] at k0 k1 k2
 have hl0 := lt_of_block hC2
 have hl1 := lt_of_block hZ2
 have HC := Hd hC2
 have HZ := Hd hZ2
 have HB := Hd hb2
 clear hC2 hZ2 hb2
 go_wp2_with fail
 refine (eNewZero _).mono ?_
 rintro e w3 ⟨rfl, rfl⟩
 have hZ := HZ.out
 have hbw := HB.out
 clear HZ HB HC
 have hS := row_set z6.toArray hZ
 have hB := below_setRow hbw z6.toArray (g := w.heap.size + 1) (Nat.le_succ _)
 have HS := Hd hS
 have HB2 := Hd hB
 clear hS hB hbw
 go_wp2_with (refine storeDv rfl (.tmp 2) (.tmp 36) rfl rfl z6 z6 rfl rfl h1 rfl hZ ?_)
 exact bodyPost_ret (resDv2 rfl _ _ z6 _ rfl rfl rfl HS.out) rfl ⟨rfl, HB2.out⟩
theorem yRightNo (h k d : Int) (w : World) (hn : ¬ (1 <= h /\ h <= 8 /\ 1 <= k /\ k <= 8 /\ 0 < d)) :
 Calls Tryz.prog 9 #[.int .i64 h, .int .i64 k, .int .u32 d] w fun e w' => e = .returned (.bool false) /\ w' = w := by
 by_cases h0 : 1 <= h
 . have e0 : decide (1 <= h) = true := decide_eq_true h0
   by_cases h1 : h <= 8
   . have e1 : decide (h <= 8) = true := decide_eq_true h1
     by_cases h2 : 1 <= k
     . have e2 : decide (1 <= k) = true := decide_eq_true h2
       by_cases h3 : k <= 8
       . have e3 : decide (k <= 8) = true := decide_eq_true h3
         have e4 : decide (0 < d) = false := decide_eq_false (fun h4 => hn ⟨h0, h1, h2, h3, h4⟩)
         clear hn
         go_enter Tryz.func9, Tryz.ntmps9
         go_wp2_with fail
         go_ret
         exact ⟨rfl, rfl⟩
       . have e3 : decide (k <= 8) = false := decide_eq_false h3
         clear hn h3
         go_enter Tryz.func9, Tryz.ntmps9
         go_wp2_with fail
         go_ret
         exact ⟨rfl, rfl⟩
     . have e2 : decide (1 <= k) = false := decide_eq_false h2
       clear hn h2
       go_enter Tryz.func9, Tryz.ntmps9
       go_wp2_with fail
       go_ret
       exact ⟨rfl, rfl⟩
   . have e1 : decide (h <= 8) = false := decide_eq_false h1
     clear hn h1
     go_enter Tryz.func9, Tryz.ntmps9
     go_wp2_with fail
     go_ret
     exact ⟨rfl, rfl⟩
 . have e0 : decide (1 <= h) = false := decide_eq_false h0
   clear hn h0
   go_enter Tryz.func9, Tryz.ntmps9
   go_wp2_with fail
   go_ret
   exact ⟨rfl, rfl⟩
theorem step_store_part {P : Program} {ops : Array Oper} {o : Oper} {a : Act} {w : World} {K : Act -> World -> Prop} {Q : Exit -> Act -> World -> Prop} {E : Prop} (hgd : o.guard = none) (ty : TypeId) (x y : Operand) (ho : o.op = .store ty x y)
 (g off : Nat) (hx : a.eval x = .pointer (some ⟨g, off, none⟩)) (vs : List Value) (hy : a.eval y = .agg vs.toArray) {t : TypeId} {cs : Array Value} (hg : w.heap[g]? = some (.cells cs t (0, 0)))
 (hi : (P.info? ty).map (·.size) = some vs.length) (hl : off + vs.length <= cs.size) (h1 : ∀ v ∈ vs, v.oneCell' = true)
 (h : K (a.put o.dst undef) (w.setRow g (spliced cs off vs))) : if Region.wanted o (yielded ops a.tmps) = true then Oper.wp P o a w K Q else E := by
 rw [if_pos (by simp [Region.wanted, hgd])]
 unfold Oper.wp execOp
 simp only [ho, hx, hy, Instr.storeAt, Instr.sureAddr, Sem.run_bind, Sem.run_pure, Result.andThen_ok, storeVar_part w g off t ty cs vs hg hi hl h1]
 exact h
set_option maxHeartbeats 3200000 in
theorem yNew (n c : Nat) (d : Int) (w : World) (n8 : n <= 8) (c8 : c <= 8) :
 Calls Tryz.prog 12 #[.int .i64 n, .int .i64 c, .int .u32 d] w (DocPost n c (bx0 d) w) := by
 have hmk : ∀ w : World, (Instr.makeSlice 37 (.int .i64 c) (.int .i64 c)).run Tryz.prog w = .ok (.slice (some ⟨w.heap.size, 0, none⟩) c c) (w.alloc (zR c)) := fun w => mkRun c c8 w
 go_enter Tryz.func12, Tryz.ntmps12
 go_upto_region 1 with (fail)
 rename_i K7 hK7
 have HK7 := Hd hK7
 clear hK7
 rw [zM11_eq]
 have HZ := Hd (blk_below (trD (tr0 (w.alloc zM11))) (blk_new w zM11) (lt_of_block (blk_new w zM11)))
 have HB := Hd (trD (trA (tr0 w) zM11))
 refine wp_region_any (by kernel_rfl) ?_
 try (change wpAny _ _ _ _ _ _ _ (World.drew _))
 generalize (w.alloc zM11).drew = W0 at *
 generalize hbn : w.heap.size = b at *
 have HBN := Hd hbn
 clear hbn
 refine wpAny_take (i := 0) (v := .int .i64 n) rfl (by kernel_rfl) (by kernel_rfl) (by kernel_rfl) (fun _ _ _ h => h) (Or.inl ⟨by kernel_rfl, fun w => by go_simp⟩) ?_
 refine wpAny_take (i := 2) (v := .int .i64 c) rfl (by kernel_rfl) (by kernel_rfl) (by kernel_rfl) (fun _ _ _ h => h) (Or.inl ⟨by kernel_rfl, fun w => by go_simp⟩) ?_
 refine wpAny_take (i := 5) (v := .int .u32 d) rfl (by kernel_rfl) (by kernel_rfl) (by kernel_rfl) (fun _ _ _ h => h) (Or.inl ⟨by kernel_rfl, fun w => by go_simp⟩) ?_
 refine wpAny_take (i := 6) (v := .agg (kl (rk0 d)).toArray) rfl (by kernel_rfl) (by kernel_rfl) (by kernel_rfl) (fun _ _ _ h => h) (Or.inl ⟨by kernel_rfl, fun w => by kernel_rfl⟩) ?_
 refine wpAny_ready (rs := [1, 3]) (by kernel_rfl) (by simp) ?_
 refine AllReady.cons rfl (fun K hK => ?_) (AllReady.cons rfl (fun K hK => ?_) AllReady.nil)
 . go_simp
   go_wp2_with (go_at_call 39; refine (rcNew n _).mono ?_; rintro e w0 ⟨rfl, b0⟩; have HZ := Hd (blk_below b0 HZ.out (lt_of_block HZ.out)); have HB := Hd (tr_at HBN.out HB.out b0); clear b0)
   refine wpAny_ready (rs := [3, 4]) (by kernel_rfl) (by simp) ?_
   refine AllReady.cons rfl (fun K hK => ?_) (AllReady.cons rfl (fun K hK => ?_) AllReady.nil)
   . go_simp
     refine hK _ _ ?_
     clear hK K
     have HR := Hd (rwMade c c8 w0)
     have HZ := Hd (blk_below (trA (tr0 w0) (zR c)) HZ.out (lt_of_block HZ.out))
     have HB := Hd (tr_at HBN.out HB.out (trA (tr0 w0) (zR c)))
     generalize w0.alloc (zR c) = w1 at *
     generalize w0.heap.size = g at *
     refine wpAny_ready (rs := [4]) (by kernel_rfl) (by simp) ?_
     refine AllReady.cons rfl (fun K hK => ?_) AllReady.nil
     go_simp
     go_wp2_with (go_at_call 40; refine (u9New _).mono ?_; rintro e w2 ⟨rfl, b2⟩; have HZ := Hd (blk_below b2 HZ.out (lt_of_block HZ.out)); have HB := Hd (tr_at HBN.out HB.out b2); have HR := Hd (HR.out.below b2); clear b2)
     refine wpAny_take (i := 7) (v := .agg (ml n (bx0 d) (.slice (some ⟨g, 0, none⟩) c c) (.slice none 0 0)).toArray) rfl (by kernel_rfl) (by kernel_rfl) (by kernel_rfl) (fun _ _ _ h => h) (Or.inl ⟨by kernel_rfl, fun w => by kernel_rfl⟩) ?_
     refine wpAny_ready (rs := [8]) (by kernel_rfl) (by simp) ?_
     refine AllReady.cons rfl (fun K hK => ?_) AllReady.nil
     refine step_store_part rfl 47 (.tmp 6) (.tmp 14) rfl b 0 rfl (ml n (bx0 d) (.slice (some ⟨g, 0, none⟩) c c) (.slice none 0 0)) rfl HZ.out (by rw [ml_len]; exact iM11) (by rw [ml_len]; exact Nat.le_refl _) (ml_one n (bx0 d) (.slice (some ⟨g, 0, none⟩) c c) (.slice none 0 0) rfl rfl) ?_
     refine hK _ _ ?_
     clear hK K
     refine wpAny_done (by kernel_rfl) ?_ _
     refine HK7.out _ _ ?_
     clear HK7 K7
     rw [spliced_all _ _ (by rw [ml_len]; rfl)]
     have hN : NAt (w2.setRow b (ml n (bx0 d) (.slice (some ⟨g, 0, none⟩) c c) (.slice none 0 0)).toArray) b n (bx0 d) (.slice (some ⟨g, 0, none⟩) c c) (.slice none 0 0) := row_set _ HZ.out
     have ho := offW_row w2 b (ml n (bx0 d) (.slice (some ⟨g, 0, none⟩) c c) (.slice none 0 0)).toArray
     have hM : MV (w2.setRow b (ml n (bx0 d) (.slice (some ⟨g, 0, none⟩) c c) (.slice none 0 0)).toArray) c (bx0 d) (.slice (some ⟨g, 0, none⟩) c c) (.slice none 0 0) := ⟨⟨g, c, rfl, HR.out.off ho (HR.out.ne HZ.out rfl)⟩, ev_nil _ _⟩
     have hB : Below w.heap.size w (w2.setRow b (ml n (bx0 d) (.slice (some ⟨g, 0, none⟩) c c) (.slice none 0 0)).toArray) := by rw [HBN.out]; exact below_setRow HB.out _ (Nat.le_refl _)
     generalize w2.setRow b (ml n (bx0 d) (.slice (some ⟨g, 0, none⟩) c c) (.slice none 0 0)).toArray = u9 at *
     have HN := Hd hN
     have HM := Hd hM
     have HBB := Hd hB
     clear hN hM hB ho HB HZ HR
     go_wp2_with fail
     exact bodyPost_ret (resN rfl _ _ rfl HN.out) rfl ⟨_, _, rfl, HM.out, HBB.out⟩
   . go_simp
     go_wp2_with (go_at_call 40; refine (u9New _).mono ?_; rintro e w1 ⟨rfl, b1⟩; have HZ := Hd (blk_below b1 HZ.out (lt_of_block HZ.out)); have HB := Hd (tr_at HBN.out HB.out b1); clear b1)
     refine wpAny_ready (rs := [3]) (by kernel_rfl) (by simp) ?_
     refine AllReady.cons rfl (fun K hK => ?_) AllReady.nil
     go_simp
     refine hK _ _ ?_
     clear hK K
     have HR := Hd (rwMade c c8 w1)
     have HZ := Hd (blk_below (trA (tr0 w1) (zR c)) HZ.out (lt_of_block HZ.out))
     have HB := Hd (tr_at HBN.out HB.out (trA (tr0 w1) (zR c)))
     generalize w1.alloc (zR c) = w2 at *
     generalize w1.heap.size = g at *
     refine wpAny_take (i := 7) (v := .agg (ml n (bx0 d) (.slice (some ⟨g, 0, none⟩) c c) (.slice none 0 0)).toArray) rfl (by kernel_rfl) (by kernel_rfl) (by kernel_rfl) (fun _ _ _ h => h) (Or.inl ⟨by kernel_rfl, fun w => by kernel_rfl⟩) ?_
     refine wpAny_ready (rs := [8]) (by kernel_rfl) (by simp) ?_
     refine AllReady.cons rfl (fun K hK => ?_) AllReady.nil
     refine step_store_part rfl 47 (.tmp 6) (.tmp 14) rfl b 0 rfl (ml n (bx0 d) (.slice (some ⟨g, 0, none⟩) c c) (.slice none 0 0)) rfl HZ.out (by rw [ml_len]; exact iM11) (by rw [ml_len]; exact Nat.le_refl _) (ml_one n (bx0 d) (.slice (some ⟨g, 0, none⟩) c c) (.slice none 0 0) rfl rfl) ?_
     refine hK _ _ ?_
     clear hK K
     refine wpAny_done (by kernel_rfl) ?_ _
     refine HK7.out _ _ ?_
     clear HK7 K7
     rw [spliced_all _ _ (by rw [ml_len]; rfl)]
     have hN : NAt (w2.setRow b (ml n (bx0 d) (.slice (some ⟨g, 0, none⟩) c c) (.slice none 0 0)).toArray) b n (bx0 d) (.slice (some ⟨g, 0, none⟩) c c) (.slice none 0 0) := row_set _ HZ.out
     have ho := offW_row w2 b (ml n (bx0 d) (.slice (some ⟨g, 0, none⟩) c c) (.slice none 0 0)).toArray
     have hM : MV (w2.setRow b (ml n (bx0 d) (.slice (some ⟨g, 0, none⟩) c c) (.slice none 0 0)).toArray) c (bx0 d) (.slice (some ⟨g, 0, none⟩) c c) (.slice none 0 0) := ⟨⟨g, c, rfl, HR.out.off ho (HR.out.ne HZ.out rfl)⟩, ev_nil _ _⟩
     have hB : Below w.heap.size w (w2.setRow b (ml n (bx0 d) (.slice (some ⟨g, 0, none⟩) c c) (.slice none 0 0)).toArray) := by rw [HBN.out]; exact below_setRow HB.out _ (Nat.le_refl _)
     generalize w2.setRow b (ml n (bx0 d) (.slice (some ⟨g, 0, none⟩) c c) (.slice none 0 0)).toArray = u9 at *
     have HN := Hd hN
     have HM := Hd hM
     have HBB := Hd hB
     clear hN hM hB ho HB HZ HR
     go_wp2_with fail
     exact bodyPost_ret (resN rfl _ _ rfl HN.out) rfl ⟨_, _, rfl, HM.out, HBB.out⟩
 . go_simp
   refine hK _ _ ?_
   clear hK K
   have HR := Hd (rwMade c c8 W0)
   have HZ := Hd (blk_below (trA (tr0 W0) (zR c)) HZ.out (lt_of_block HZ.out))
   have HB := Hd (tr_at HBN.out HB.out (trA (tr0 W0) (zR c)))
   generalize W0.alloc (zR c) = w0 at *
   generalize W0.heap.size = g at *
   refine wpAny_ready (rs := [1]) (by kernel_rfl) (by simp) ?_
   refine AllReady.cons rfl (fun K hK => ?_) AllReady.nil
   go_simp
   go_wp2_with (go_at_call 39; refine (rcNew n _).mono ?_; rintro e w1 ⟨rfl, b1⟩; have HZ := Hd (blk_below b1 HZ.out (lt_of_block HZ.out)); have HB := Hd (tr_at HBN.out HB.out b1); have HR := Hd (HR.out.below b1); clear b1)
   refine wpAny_ready (rs := [4]) (by kernel_rfl) (by simp) ?_
   refine AllReady.cons rfl (fun K hK => ?_) AllReady.nil
   go_simp
   go_wp2_with (go_at_call 40; refine (u9New _).mono ?_; rintro e w2 ⟨rfl, b2⟩; have HZ := Hd (blk_below b2 HZ.out (lt_of_block HZ.out)); have HB := Hd (tr_at HBN.out HB.out b2); have HR := Hd (HR.out.below b2); clear b2)
   refine wpAny_take (i := 7) (v := .agg (ml n (bx0 d) (.slice (some ⟨g, 0, none⟩) c c) (.slice none 0 0)).toArray) rfl (by kernel_rfl) (by kernel_rfl) (by kernel_rfl) (fun _ _ _ h => h) (Or.inl ⟨by kernel_rfl, fun w => by kernel_rfl⟩) ?_
   refine wpAny_ready (rs := [8]) (by kernel_rfl) (by simp) ?_
   refine AllReady.cons rfl (fun K hK => ?_) AllReady.nil
   refine step_store_part rfl 47 (.tmp 6) (.tmp 14) rfl b 0 rfl (ml n (bx0 d) (.slice (some ⟨g, 0, none⟩) c c) (.slice none 0 0)) rfl HZ.out (by rw [ml_len]; exact iM11) (by rw [ml_len]; exact Nat.le_refl _) (ml_one n (bx0 d) (.slice (some ⟨g, 0, none⟩) c c) (.slice none 0 0) rfl rfl) ?_
   refine hK _ _ ?_
   clear hK K
   refine wpAny_done (by kernel_rfl) ?_ _
   refine HK7.out _ _ ?_
   clear HK7 K7
   rw [spliced_all _ _ (by rw [ml_len]; rfl)]
   have hN : NAt (w2.setRow b (ml n (bx0 d) (.slice (some ⟨g, 0, none⟩) c c) (.slice none 0 0)).toArray) b n (bx0 d) (.slice (some ⟨g, 0, none⟩) c c) (.slice none 0 0) := row_set _ HZ.out
   have ho := offW_row w2 b (ml n (bx0 d) (.slice (some ⟨g, 0, none⟩) c c) (.slice none 0 0)).toArray
   have hM : MV (w2.setRow b (ml n (bx0 d) (.slice (some ⟨g, 0, none⟩) c c) (.slice none 0 0)).toArray) c (bx0 d) (.slice (some ⟨g, 0, none⟩) c c) (.slice none 0 0) := ⟨⟨g, c, rfl, HR.out.off ho (HR.out.ne HZ.out rfl)⟩, ev_nil _ _⟩
   have hB : Below w.heap.size w (w2.setRow b (ml n (bx0 d) (.slice (some ⟨g, 0, none⟩) c c) (.slice none 0 0)).toArray) := by rw [HBN.out]; exact below_setRow HB.out _ (Nat.le_refl _)
   generalize w2.setRow b (ml n (bx0 d) (.slice (some ⟨g, 0, none⟩) c c) (.slice none 0 0)).toArray = u9 at *
   have HN := Hd hN
   have HM := Hd hM
   have HBB := Hd hB
   clear hN hM hB ho HB HZ HR
   go_wp2_with fail
   exact bodyPost_ret (resN rfl _ _ rfl HN.out) rfl ⟨_, _, rfl, HM.out, HBB.out⟩
end Go.Proofs.YtcgmnjajodegmaaGreat.B
