/- Several texts in one: What a board's call leaves of blocks that are not the board's. Layer 11's Do: a call of both, a board and the document's. .. -/
import Derived.Test.YtcgmnjajodegmaaGreatZPbl
import Derived.Test.YtcgmnjajodegmaaGreatZPbp
import Derived.Test.YtcgmnjajodegmaaGreatZPbq
namespace Go.Proofs.YtcgmnjajodegmaaGreat.B
set_option linter.unusedVariables false
set_option linter.unusedSimpArgs false
set_option maxRecDepth 100000
open Go.ChangeShapes Go.WideShapes Go.RowKit Go.Sort
def ownK (m : Nat) : Bool := devK m || (m == tBd + 1 || m == tEv + 1)
def allK (m : Nat) : Bool := ownK m || busK m
section
variable {w w' : World} {B : Bp} {x y : Bx}
theorem BdAt.ownKd (H : BdAt w B x) {k : Nat} (hk : B.own k) : ownK (kd w k) = true := by
 unfold ownK
 rcases hk with rfl | hd | he
 · rw [kd_of H.cell]; decide
 · rw [H.dv.kd hd]; rfl
 · rw [H.ev.kd he]; decide
theorem BdAt.allKd (H : BdAt w B x) {k : Nat} (hk : B.all k) : allK (kd w k) = true := by
 unfold allK
 rcases hk with hk | rfl | hk
 · rw [H.ownKd hk]; rfl
 · rw [kd_map H.dv.c.map]; decide
 · rw [H.bus.kd hk, Bool.or_true]
theorem BdAt.offk (H : BdAt w B x) {k : Nat} {cs : Array Value} {T : TypeId} {f : Nat × Nat} (ho : Off (· = k) w w') (hk : w.heap[k]? = some (.cells cs T f)) (hT : allK (T + 1) = false) : BdAt w' B x :=
 H.off ho fun j hj e => by have := H.allKd hj; rw [e, kd_of hk, hT] at this; cases this
def Kp (w w' : World) : Prop := ∀ (k : Nat) (cs : Array Value) (T : TypeId) (f : Nat × Nat), w.heap[k]? = some (.cells cs T f) → ownK (T + 1) = false → w'.heap[k]? = some (.cells cs T f)
theorem Kp.refl (w : World) : Kp w w := fun _ _ _ _ h _ => h
theorem Kp.trans {a b c : World} (h : Kp a b) (g : Kp b c) : Kp a c := fun k cs T f hk hT => g k cs T f (h k cs T f hk hT) hT
theorem Kp.ofBelow (hb : Below w.heap.size w w') : Kp w w' := fun _ _ _ _ h _ => blk_below hb h (lt_of_block h)
theorem Kp.ofOff {S : Nat → Prop} (ho : Off S w w') (hs : ∀ k, k < w.heap.size → S k → ownK (kd w k) = true) : Kp w w' := fun k cs T f hk hT =>
 ho.at hk fun hS => by have := hs k (lt_of_block hk) hS; rw [kd_of hk, hT] at this; cases this
theorem Left.kp (H : BdAt w B x) (L : Left B y w w') : Kp w w' := by
 obtain ⟨ev', h, ho, he⟩ := L
 exact Kp.ofOff ho fun k _ hk => H.ownKd hk
structure Lft (s : Nat) (B C : Bp) (y : Bx) (w w' : World) : Prop where
 h : BdAt w' C y
 nw : C.new s
 e : C.b = B.b
 n : C.n = B.n
 c : C.c = B.c
 d : C.div = B.div
 lo : Below s w w'
 kp : Kp w w'
theorem Left.lft {s : Nat} (H : BdAt w B x) (L : Left B y w w') (h : B.new s) (hs : s ≤ w.heap.size) : ∃ C, Lft s B C y w w' := by
 have K := L.kp H
 obtain ⟨ev', H1, ho, he⟩ := L
 exact ⟨{ B with ev := ev' }, H1, left_new h hs he, rfl, rfl, rfl, rfl, ho.below (fun k hk ho => by have := h k (.inl ho); omega) hs, K⟩
end
theorem Two.lft {w w' : World} {B C : Bp} {x y z : Bx} {s : Nat} (H : Two w B C x y) (L : Left B z w w') (h : B.new s) (hs : s ≤ w.heap.size) : ∃ B', Lft s B B' z w w' ∧ Two w' B' C z y := by
 have K := L.kp H.one
 obtain ⟨ev', H2, he⟩ := H.left L
 obtain ⟨ev2, H1, ho, he2⟩ := L
 exact ⟨{ B with ev := ev' }, ⟨H2.one, left_new h hs he, rfl, rfl, rfl, rfl, ho.below (fun k hk ho => by have := h k (.inl ho); omega) hs, K⟩, H2⟩
section
variable {w w' : World} {b n c : Nat} {x : Bx} {bk ev : Value}
theorem NAt.kp (h : NAt w b n x bk ev) (K : Kp w w') : NAt w' b n x bk ev := K _ _ _ _ h (by decide)
theorem MV.kp (M : MV w c x bk ev) (K : Kp w w') : MV w' c x bk ev := by
 obtain ⟨g, cap, h1, h2⟩ := M.k
 obtain ⟨cur, h3, h4, h5⟩ := h2.row
 refine ⟨⟨g, cap, h1, ⟨cur, K _ _ _ _ h3 (by decide), h4, h5⟩, h2.nc, h2.cm⟩, M.e.keep fun k hk => ?_⟩
 obtain ⟨cur, hc⟩ := row_obj M.e hk
 rw [hc]
 exact K _ _ _ _ hc (by decide)
theorem mv_offM {cs : Array Value} (M : MV w c x bk ev) (ho : Off (· = b) w w') (h : w.heap[b]? = some (.cells cs tM11 (0, 0))) : MV w' c x bk ev := by
 obtain ⟨g, cap, h3, h4⟩ := M.k
 exact ⟨⟨g, cap, h3, h4.off ho (h4.ne h rfl)⟩, M.e.keep fun k hk => ho.block k (M.e.lt hk) (fun e2 => by have h5 := M.e.kd hk; rw [e2, kd_of h] at h5; revert h5; decide)⟩
end
abbrev tA11 : TypeId := 52
def actO (K N a v : Int) : Obj := .cells #[.int .i64 K, .int .u64 N, .int .u32 a, .int .u32 v] tA11 (0, 0)
structure D11 (w0 w : World) (s b n : Nat) (x : Bx) (bk ev : Value) (K N a v : Int) : Prop where
 h : NAt w b n x bk ev
 a : w.heap[b + 1]? = some (actO K N a v)
 z : ∃ cs : Array Value, w.heap[b + 2]? = some (.cells cs tM11 (0, 0)) ∧ cs.size = 110
 lo : Below s w0 w
 kp : Kp w0 w
 sb : s ≤ w0.heap.size
 b0 : w0.heap.size ≤ b
section
variable {w0 w w' : World} {s b n : Nat} {x : Bx} {bk ev : Value} {K N a v : Int}
theorem D11.ss (F : D11 w0 w s b n x bk ev K N a v) : s ≤ w.heap.size := Nat.le_trans F.sb F.lo.size
theorem D11.step (F : D11 w0 w s b n x bk ev K N a v) (kp : Kp w w') (lo : Below s w w') : D11 w0 w' s b n x bk ev K N a v := by
 obtain ⟨cs, h1, h2⟩ := F.z
 exact ⟨F.h.kp kp, kp _ _ _ _ F.a (by decide), ⟨cs, kp _ _ _ _ h1 (by decide), h2⟩, F.lo.trans lo, F.kp.trans kp, F.sb, F.b0⟩
theorem D11.below (F : D11 w0 w s b n x bk ev K N a v) (hb : Below w.heap.size w w') : D11 w0 w' s b n x bk ev K N a v := F.step (Kp.ofBelow hb) (hb.mono F.ss)
theorem D11.x0 (F : D11 w0 w s b n x bk ev K N a v) : w.cell? ⟨b + 1, 0, none⟩ = some (.int .i64 K) := by have := blk_cell F.a 0; simpa using this
theorem D11.x1 (F : D11 w0 w s b n x bk ev K N a v) : w.cell? ⟨b + 1, 1, none⟩ = some (.int .u64 N) := by have := blk_cell F.a 1; simpa using this
theorem D11.x2 (F : D11 w0 w s b n x bk ev K N a v) : w.cell? ⟨b + 1, 2, none⟩ = some (.int .u32 a) := by have := blk_cell F.a 2; simpa using this
theorem D11.x3 (F : D11 w0 w s b n x bk ev K N a v) : w.cell? ⟨b + 1, 3, none⟩ = some (.int .u32 v) := by have := blk_cell F.a 3; simpa using this
theorem d11_new (w : World) (s n : Nat) (x : Bx) (bk ev : Value) (K N a v : Int) (hs : s ≤ w.heap.size) : D11 w (((w.alloc (oM11 n x bk ev)).alloc (actO K N a v)).alloc zM11) s w.heap.size n x bk ev K N a v := by
 have hb := trA (trA (trA (tr0 w) (oM11 n x bk ev)) (actO K N a v)) zM11
 exact ⟨b3_0 w _ _ _, b3_1 w _ _ _, ⟨_, b3_2 w _ _ _, rfl⟩, hb.mono hs, Kp.ofBelow hb, hs, Nat.le_refl _⟩
end
def DoPost11 (s : Nat) (B : Bp) (x : Bx) (w0 : World) (e : Ending) (w' : World) : Prop := ∃ C y bk ev, e = .returned (.tuple #[.pointer (some ⟨C.b, 0, none⟩), .agg (ml B.n y bk ev).toArray, .bool true]) ∧ BdAt w' C y ∧ C.new s ∧ (C.n = B.n ∧ C.c = B.c ∧ C.div = B.div) ∧ MV w' B.c y bk ev ∧ Nx B.n B.c x y ∧ Below s w0 w' ∧ Kp w0 w'
theorem resN3 {fn : Func} {p q r : Tmp} (h : fn.results = #[.tmp q, .cell p 47, .tmp r]) (tmps : Array Value) (w : World) {b n : Nat} {x : Bx} {bk ev : Value} (y z : Value) (hq : tmps[q]? = some y) (hp : tmps[p]? = some (.pointer (some ⟨b, 0, none⟩))) (hr : tmps[r]? = some z) (hg : NAt w b n x bk ev) :
 (results fn tmps).run Tryz.prog w = .ok (.tuple #[y, .agg (ml n x bk ev).toArray, z]) w := by
 simp [results, h, hp, hq, hr, asAddr, loadVar_part w b 0 _ _ _ _ _ (ml n x bk ev) hg Tryz.underlying47 rfl (by rw [ml_len]; exact iM11) (part_all _)]
theorem d11_end {w0 w w' : World} {s b n : Nat} {x0 x y : Bx} {bk ev bk' ev' : Value} {K N a v : Int} {B C : Bp} (F : D11 w0 w s b n x0 bk ev K N a v) (H : BdAt w C y) (hn : C.new s) (he : C.n = B.n ∧ C.c = B.c ∧ C.div = B.div) (M : MV w B.c y bk' ev') (hl : Nx B.n B.c x y) (ho : Off (· = b + 2) w w') :
 DoPost11 s B x w0 (.returned (.tuple #[.pointer (some ⟨C.b, 0, none⟩), .agg (ml B.n y bk' ev').toArray, .bool true])) w' := by
 obtain ⟨cs, h1, h2⟩ := F.z
 have h3 := F.b0
 have h4 := F.sb
 refine ⟨C, y, bk', ev', rfl, H.offk ho h1 (by decide), hn, he, mv_offM M ho h1, hl, Off.toBelow F.lo ho (fun k hk e => by omega) F.sb, fun k cs T f hk hT => ?_⟩
 exact ho.at (F.kp k cs T f hk hT) fun e => by have := lt_of_block hk; omega
theorem rnLoadB {o : Oper} {f : Operand → Value} {w : World} {b n : Nat} {x : Bx} {bk ev : Value} (y : Operand) (ho : o.op = .load 47 y) (hx : f y = .pointer (some ⟨b, 0, none⟩)) (hg : NAt w b n x bk ev) : (execOp f o).run Tryz.prog w = .ok (.value (.agg (ml n x bk ev).toArray)) w :=
 run_load_part _ y ho b 0 hx _ (ml n x bk ev) hg Tryz.underlying47 rfl (by rw [ml_len]; exact iM11) (part_all _)
theorem nLoadBg {ops : Array Oper} {rest : List Oper} {o : Oper} {a : Act} {w : World} {Q : Exit → Act → World → Prop} {b n : Nat} {x : Bx} {bk ev : Value} (y : Operand) (ho : o.op = .load 47 y) (hw : Region.wanted o (yielded ops a.tmps) = true) (hx : a.eval y = .pointer (some ⟨b, 0, none⟩)) (hg : NAt w b n x bk ev)
 (h : wpList Tryz.prog ops Q rest (a.put o.dst (.agg (ml n x bk ev).toArray)) w) : wpList Tryz.prog ops Q (o :: rest) a w :=
 wpList_load_part_g _ y ho hw b 0 hx _ (ml n x bk ev) hg Tryz.underlying47 rfl (by rw [ml_len]; exact iM11) (part_all _) h
theorem step_store_B {ops : Array Oper} {o : Oper} {a : Act} {w : World} {K : Act → World → Prop} {Q : Exit → Act → World → Prop} {E : Prop} (hgd : o.guard = none) (y z : Operand) (ho : o.op = .store 47 y z) {b : Nat} (hx : a.eval y = .pointer (some ⟨b, 0, none⟩)) (n' : Nat) (x' : Bx) (bk' ev' : Value) (hy : a.eval z = .agg (ml n' x' bk' ev').toArray) (hz : ∃ cs : Array Value, w.heap[b]? = some (.cells cs tM11 (0, 0)) ∧ cs.size = 110) (h1 : bk'.oneCell' = true ∧ ev'.oneCell' = true)
 (h : ∀ w', NAt w' b n' x' bk' ev' → Off (· = b) w w' → K (a.put o.dst undef) w') : if Region.wanted o (yielded ops a.tmps) = true then Oper.wp Tryz.prog o a w K Q else E := by
 obtain ⟨cs, hg, hl⟩ := hz
 have hR : NAt (w.setRow b (ml n' x' bk' ev').toArray) b n' x' bk' ev' := row_set _ hg
 refine step_store_part hgd _ y z ho b 0 hx (ml n' x' bk' ev') hy hg (by rw [ml_len]; exact iM11) (by rw [ml_len, hl]; omega) (ml_one n' x' bk' ev' h1.1 h1.2) ?_
 rw [spliced_all _ _ (by rw [hl, ml_len])]
 exact h _ hR ⟨rfl, rfl, rfl, by simp, fun k _ hs => setRow_other w b k _ hs⟩
theorem keep_or {w w' : World} {q r n : Nat} {y : Bx} {bk ev : Value} (h : NAt w q n y bk ev) (ho : Off (· = r) w w') (hN : NAt w' r n y bk ev) : NAt w' q n y bk ev := by
 by_cases hq : q = r
 · rw [hq]; exact hN
 · exact ho.at h hq
set_option maxHeartbeats 1600000 in
theorem yDo0 (B : Bp) (x : Bx) (bk ev : Value) (K N a v : Int) (s : Nat) (w : World) (H : BdAt w B x) (hn : B.new s) (hs : s ≤ w.heap.size) (M : MV w B.c x bk ev) (hl : x.es.length < 4294967290) (n0 : 0 ≤ N) (n1 : N < 18446744073709551616) (a0 : 0 ≤ a) (a1 : a < 4294967296) (v0 : 0 ≤ v) (v1 : v < 4294967296) (hK : K = 0) :
 Calls Tryz.prog 13 #[.pointer (some ⟨B.b, 0, none⟩), .agg (ml B.n x bk ev).toArray, .agg #[.int .i64 K, .int .u64 N, .int .u32 a, .int .u32 v]] w (DoPost11 s B x w) := by
 have hb := trA (trA (trA (tr0 w) (oM11 B.n x bk ev)) (actO K N a v)) zM11
 have HF := Lib.hid (d11_new w s B.n x bk ev K N a v hs)
 have HH := Lib.hid (H.below hb)
 have HM := Lib.hid (M.below hb)
 have HNW := Lib.hid hn
 have HOK := Lib.hid H.ok
 have HST := Lib.hid H.still
 have HL := Lib.hid (show x.es.length < 4294967296 by omega)
 have HL2 := Lib.hid hl
 clear H M hn hs hb hl
 subst hK
 go_enter Tryz.func13, Tryz.ntmps13
 go_upto_region 1 with (fail)
 rw [oM11_eq, zM11_eq, show Obj.cells #[.int .i64 0, .int .u64 N, .int .u32 a, .int .u32 v] 52 (0, 0) = actO 0 N a v from rfl]
 generalize ((w.alloc (oM11 B.n x bk ev)).alloc (actO 0 N a v)).alloc zM11 = W at *
 have x0 := HF.out.x0
 have x1 := HF.out.x1
 go_upto_region 4 with (go_at_call 17; refine (bdTick B x N _ HH.out n0 n1 HL.out).mono ?_; rintro e W1 ⟨rfl, hL⟩; obtain ⟨C, LC⟩ := hL.lft HH.out HNW.out HF.out.ss; have HF1 := Lib.hid (HF.out.step LC.kp LC.lo); have HM1 := Lib.hid (HM.out.kp LC.kp); have HLC := Lib.hid LC; clear LC hL x1 x0)
 have x1 := HF1.out.x1
 clear HF HM HH
 go_wp2_with (first | (refine nLoadB rfl (.tmp 4) rfl rfl HF1.out.h ?_) | (go_at_call 41; refine (yTick B.n B.c x bk ev N _ HM1.out HOK.out HST.out n0 n1 HL.out).mono ?_; rintro e W2 ⟨bk', ev', rfl, M2, hb⟩; have HF2 := Lib.hid (HF1.out.below hb); have HM2 := Lib.hid M2; have HC := Lib.hid (HLC.out.h.below hb); clear hb M2 x1) | (obtain ⟨cz, hz1, hz2⟩ := HF2.out.z; refine nStoreB rfl (.tmp 7) (.tmp 28) rfl rfl (x.tick N) bk' ev' _ rfl hz1 hz2 HM2.out.one ?_; intro W9 hN9 ho9; have HX := Lib.hid (d11_end HF2.out HC.out HLC.out.nw ⟨HLC.out.n, HLC.out.c, HLC.out.d⟩ HM2.out (.inr (.inl ⟨N, n0, n1, rfl⟩)) ho9); rw [HLC.out.e] at HX; clear hz1 hz2 ho9))
 exact bodyPost_ret (resN3 rfl _ _ _ _ rfl rfl rfl hN9) rfl HX.out
set_option maxHeartbeats 1600000 in
theorem yDo1 (B : Bp) (x : Bx) (bk ev : Value) (K N a v : Int) (s : Nat) (w : World) (H : BdAt w B x) (hn : B.new s) (hs : s ≤ w.heap.size) (M : MV w B.c x bk ev) (hl : x.es.length < 4294967290) (n0 : 0 ≤ N) (n1 : N < 18446744073709551616) (a0 : 0 ≤ a) (a1 : a < 4294967296) (v0 : 0 ≤ v) (v1 : v < 4294967296) (hK : K = 1) :
 Calls Tryz.prog 13 #[.pointer (some ⟨B.b, 0, none⟩), .agg (ml B.n x bk ev).toArray, .agg #[.int .i64 K, .int .u64 N, .int .u32 a, .int .u32 v]] w (DoPost11 s B x w) := by
 have hb := trA (trA (trA (tr0 w) (oM11 B.n x bk ev)) (actO K N a v)) zM11
 have HF := Lib.hid (d11_new w s B.n x bk ev K N a v hs)
 have HH := Lib.hid (H.below hb)
 have HM := Lib.hid (M.below hb)
 have HNW := Lib.hid hn
 have HOK := Lib.hid H.ok
 have HST := Lib.hid H.still
 have HL := Lib.hid (show x.es.length < 4294967296 by omega)
 have HL2 := Lib.hid hl
 clear H M hn hs hb hl
 subst hK
 go_enter Tryz.func13, Tryz.ntmps13
 go_upto_region 1 with (fail)
 rw [oM11_eq, zM11_eq, show Obj.cells #[.int .i64 1, .int .u64 N, .int .u32 a, .int .u32 v] 52 (0, 0) = actO 1 N a v from rfl]
 generalize ((w.alloc (oM11 B.n x bk ev)).alloc (actO 1 N a v)).alloc zM11 = W at *
 have x0 := HF.out.x0
 obtain ⟨V, hV⟩ : ∃ V, x.ldv B.n B.c a = V := ⟨_, rfl⟩
 obtain ⟨E, hE⟩ : ∃ E, Bx.lde B.n B.c a = E := ⟨_, rfl⟩
 have CL := Lib.hid (fun w' (h : BdAt w' B x) => by have := bdLoad B x a w' h a0 a1; rw [hV, hE] at this; exact this)
 have RL := Lib.hid (fun w' (h : MV w' B.c x bk ev) => by have := yLoad B.n B.c x bk ev a w' h HOK.out a0 a1; rw [hV, hE] at this; exact this)
 have zV := beq_self_eq_true V
 have zE := beq_self_eq_true E
 clear hV hE
 have x2 := HF.out.x2
 go_upto_region 7 with (first | (refine nLoadB rfl (.tmp 4) rfl rfl HF.out.h ?_) | (go_at_call 42; refine (RL.out _ HM.out).mono ?_; rintro e W1 ⟨rfl, hb⟩; have HF := Lib.hid (HF.out.below hb); have HM := Lib.hid (HM.out.below hb); have HH := Lib.hid (HH.out.below hb); clear hb x2 x0))
 have x2 := HF.out.x2
 go_upto_region 8 with (go_at_call 31; refine (CL.out _ HH.out).mono ?_; rintro e W2 ⟨rfl, hb⟩; have HF := Lib.hid (HF.out.below hb); have HM := Lib.hid (HM.out.below hb); have HH := Lib.hid (HH.out.below hb); clear hb x2)
 have HF := Lib.hid (HF.out.below (trD (tr0 W2)))
 have HM := Lib.hid (HM.out.below (trD (tr0 W2)))
 have HH := Lib.hid (HH.out.below (trD (tr0 W2)))
 refine wp_region_held_drew (S := fun w' => NAt w' w.heap.size B.n x bk ev) (by kernel_rfl) HF.out.h (fun _ => ?_)
 generalize W2.drew = W3 at *
 refine wpAnyH_take (i := 0) (v := .pointer (some ⟨B.b, 0, none⟩)) rfl (by kernel_rfl) (by kernel_rfl) (by kernel_rfl) (fun _ _ _ h => h) (Or.inl ⟨by kernel_rfl, fun w' hSw => by clear hSw; go_simp⟩) HF.out.h ?_
 simp only [List.getElem_toArray, List.getElem_cons_zero, List.getElem_cons_succ, Act.put, List.setIfInBounds_toArray, List.set_cons_zero, List.set_cons_succ]
 refine wpAnyH_take (i := 1) (v := .agg (ml B.n x bk ev).toArray) rfl (by kernel_rfl) (by kernel_rfl) (by kernel_rfl) (fun _ _ _ h => h) (Or.inl ⟨by kernel_rfl, fun w' hSw => rnLoadB (.tmp 4) rfl rfl hSw⟩) HF.out.h ?_
 simp only [List.getElem_toArray, List.getElem_cons_zero, List.getElem_cons_succ, Act.put, List.setIfInBounds_toArray, List.set_cons_zero, List.set_cons_succ]
 refine wpAnyH_take (i := 2) (v := .int .u32 V) rfl (by kernel_rfl) (by kernel_rfl) (by kernel_rfl) (fun _ _ _ h => h) (Or.inl ⟨by kernel_rfl, fun w' hSw => by clear hSw; go_simp⟩) HF.out.h ?_
 simp only [List.getElem_toArray, List.getElem_cons_zero, List.getElem_cons_succ, Act.put, List.setIfInBounds_toArray, List.set_cons_zero, List.set_cons_succ]
 refine wpAnyH_take (i := 3) (v := .int .u32 V) rfl (by kernel_rfl) (by kernel_rfl) (by kernel_rfl) (fun _ _ _ h => h) (Or.inl ⟨by kernel_rfl, fun w' hSw => by clear hSw; go_simp⟩) HF.out.h ?_
 simp only [List.getElem_toArray, List.getElem_cons_zero, List.getElem_cons_succ, Act.put, List.setIfInBounds_toArray, List.set_cons_zero, List.set_cons_succ]
 refine wpAnyH_take (i := 4) (v := .bool true) rfl (by kernel_rfl) (by kernel_rfl) (by kernel_rfl) (fun _ _ _ h => h) (Or.inl ⟨by kernel_rfl, fun w' hSw => by clear hSw; go_simp⟩) HF.out.h ?_
 simp only [List.getElem_toArray, List.getElem_cons_zero, List.getElem_cons_succ, Act.put, List.setIfInBounds_toArray, List.set_cons_zero, List.set_cons_succ]
 refine wpAnyH_take (i := 5) (v := .bool true) rfl (by kernel_rfl) (by kernel_rfl) (by kernel_rfl) (fun _ _ _ h => h) (Or.inl ⟨by kernel_rfl, fun w' hSw => by clear hSw; go_simp⟩) HF.out.h ?_
 simp only [List.getElem_toArray, List.getElem_cons_zero, List.getElem_cons_succ, Act.put, List.setIfInBounds_toArray, List.set_cons_zero, List.set_cons_succ]
 refine wpAnyH_take (i := 6) (v := .int .i64 E) rfl (by kernel_rfl) (by kernel_rfl) (by kernel_rfl) (fun _ _ _ h => h) (Or.inl ⟨by kernel_rfl, fun w' hSw => by clear hSw; go_simp⟩) HF.out.h ?_
 simp only [List.getElem_toArray, List.getElem_cons_zero, List.getElem_cons_succ, Act.put, List.setIfInBounds_toArray, List.set_cons_zero, List.set_cons_succ]
 refine wpAnyH_take (i := 7) (v := .int .i64 E) rfl (by kernel_rfl) (by kernel_rfl) (by kernel_rfl) (fun _ _ _ h => h) (Or.inl ⟨by kernel_rfl, fun w' hSw => by clear hSw; go_simp⟩) HF.out.h ?_
 simp only [List.getElem_toArray, List.getElem_cons_zero, List.getElem_cons_succ, Act.put, List.setIfInBounds_toArray, List.set_cons_zero, List.set_cons_succ]
 refine wpAnyH_take (i := 8) (v := .bool true) rfl (by kernel_rfl) (by kernel_rfl) (by kernel_rfl) (fun _ _ _ h => h) (Or.inl ⟨by kernel_rfl, fun w' hSw => by clear hSw; go_simp⟩) HF.out.h ?_
 simp only [List.getElem_toArray, List.getElem_cons_zero, List.getElem_cons_succ, Act.put, List.setIfInBounds_toArray, List.set_cons_zero, List.set_cons_succ]
 refine wpAnyH_take (i := 9) (v := .bool true) rfl (by kernel_rfl) (by kernel_rfl) (by kernel_rfl) (fun _ _ _ h => h) (Or.inl ⟨by kernel_rfl, fun w' hSw => by clear hSw; go_simp⟩) HF.out.h ?_
 simp only [List.getElem_toArray, List.getElem_cons_zero, List.getElem_cons_succ, Act.put, List.setIfInBounds_toArray, List.set_cons_zero, List.set_cons_succ]
 refine wpAnyH_take (i := 10) (v := .pointer (some ⟨B.b, 0, none⟩)) rfl (by kernel_rfl) (by kernel_rfl) (by kernel_rfl) (fun _ _ _ h => h) (Or.inl ⟨by kernel_rfl, fun w' hSw => by clear hSw; go_simp⟩) HF.out.h ?_
 simp only [List.getElem_toArray, List.getElem_cons_zero, List.getElem_cons_succ, Act.put, List.setIfInBounds_toArray, List.set_cons_zero, List.set_cons_succ]
 refine wpAnyH_ready (rs := [11]) (by kernel_rfl) (by simp) ?_
 refine AllReadyH.cons rfl (fun K hK => ?_) AllReadyH.nil
 refine step_store_B rfl (.tmp 7) (.tmp 46) rfl rfl B.n x bk ev rfl HF.out.z HM.out.one ?_
 intro W9 hN9 ho9
 have HX := Lib.hid (d11_end HF.out HH.out HNW.out ⟨rfl, rfl, rfl⟩ HM.out (.inl rfl) ho9)
 have hS9 := (show NAt W9 w.heap.size B.n x bk ev from ho9.at HF.out.h (by omega))
 refine hK.out _ _ hS9 (fun _ => ?_)
 clear hK K ho9
 simp only [Act.put]
 refine wpAnyH_take (i := 12) (v := .bool true) rfl (by kernel_rfl) (by kernel_rfl) (by kernel_rfl) (fun _ _ _ h => h) (Or.inl ⟨by kernel_rfl, fun w' hSw => by clear hSw; go_simp⟩) hS9 ?_
 simp only [List.getElem_toArray, List.getElem_cons_zero, List.getElem_cons_succ, Act.put, List.setIfInBounds_toArray, List.set_cons_zero, List.set_cons_succ]
 clear hS9
 refine wpAnyH_done (by kernel_rfl) ?_ _
 go_wp2_with fail
 exact bodyPost_ret (resN3 rfl _ _ _ _ rfl rfl rfl hN9) rfl HX.out
set_option maxHeartbeats 1600000 in
theorem yDo2 (B : Bp) (x : Bx) (bk ev : Value) (K N a v : Int) (s : Nat) (w : World) (H : BdAt w B x) (hn : B.new s) (hs : s ≤ w.heap.size) (M : MV w B.c x bk ev) (hl : x.es.length < 4294967290) (n0 : 0 ≤ N) (n1 : N < 18446744073709551616) (a0 : 0 ≤ a) (a1 : a < 4294967296) (v0 : 0 ≤ v) (v1 : v < 4294967296) (hK : K = 2) :
 Calls Tryz.prog 13 #[.pointer (some ⟨B.b, 0, none⟩), .agg (ml B.n x bk ev).toArray, .agg #[.int .i64 K, .int .u64 N, .int .u32 a, .int .u32 v]] w (DoPost11 s B x w) := by
 have hb := trA (trA (trA (tr0 w) (oM11 B.n x bk ev)) (actO K N a v)) zM11
 have HF := Lib.hid (d11_new w s B.n x bk ev K N a v hs)
 have HH := Lib.hid (H.below hb)
 have HM := Lib.hid (M.below hb)
 have HNW := Lib.hid hn
 have HOK := Lib.hid H.ok
 have HST := Lib.hid H.still
 have HL := Lib.hid (show x.es.length < 4294967296 by omega)
 have HL2 := Lib.hid hl
 clear H M hn hs hb hl
 subst hK
 go_enter Tryz.func13, Tryz.ntmps13
 go_upto_region 1 with (fail)
 rw [oM11_eq, zM11_eq, show Obj.cells #[.int .i64 2, .int .u64 N, .int .u32 a, .int .u32 v] 52 (0, 0) = actO 2 N a v from rfl]
 generalize ((w.alloc (oM11 B.n x bk ev)).alloc (actO 2 N a v)).alloc zM11 = W at *
 have x0 := HF.out.x0
 have x2 := HF.out.x2
 have x3 := HF.out.x3
 obtain ⟨E, hE⟩ : ∃ E, Bx.ste B.n B.c a = E := ⟨_, rfl⟩
 have CS := Lib.hid (fun w' (h : BdAt w' B x) => by have := bdStore B x a v w' h a0 a1 v0 v1 HL.out; rw [hE] at this; exact this)
 have RS := Lib.hid (fun w' (h : MV w' B.c x bk ev) => by have := yStore B.n B.c x bk ev a v w' h HOK.out HST.out a0 a1 v0 v1 HL.out; rw [hE] at this; exact this)
 have zE := beq_self_eq_true E
 have HSL := Lib.hid (show Nx B.n B.c x (x.sto B.n B.c a v) from .inr (.inr ⟨a, v, rfl⟩))
 clear hE
 generalize hy : x.sto B.n B.c a v = y at *
 clear hy
 go_upto_region 11 with (first | (refine nLoadB rfl (.tmp 4) rfl rfl HF.out.h ?_) | (go_at_call 43; refine (RS.out _ HM.out).mono ?_; rintro e W1 ⟨bk', ev', rfl, M1, hb⟩; have HF := Lib.hid (HF.out.below hb); have HM1 := Lib.hid M1; have HH := Lib.hid (HH.out.below hb); clear hb x2 x0 x3 M1) | (rw [zM11_eq]; refine nStoreB rfl (.tmp 13) (.tmp 64) rfl rfl y bk' ev' _ rfl (blk_new W1 zM11) rfl HM1.out.one ?_; intro W2 hN2 ho2; have hb := Off.toBelow (trA (tr0 W1) zM11) ho2 (fun k hk e => by omega) (Nat.le_refl _); have HF := Lib.hid (HF.out.below hb); have HM1 := Lib.hid (HM1.out.below hb); have HH := Lib.hid (HH.out.below hb); have HN2 := Lib.hid hN2; clear hb hN2 ho2))
 generalize W1.heap.size = q at *
 have HF := Lib.hid (HF.out.below (trD (tr0 W2)))
 have HM1 := Lib.hid (HM1.out.below (trD (tr0 W2)))
 have HH := Lib.hid (HH.out.below (trD (tr0 W2)))
 have HN2 := Lib.hid (HN2.out.below (trD (tr0 W2)))
 refine wp_region_held_drew (S := fun w' => NAt w' q B.n y bk' ev' ∧ w'.heap[w.heap.size + 1]? = some (actO 2 N a v)) (by kernel_rfl) ⟨HN2.out, HF.out.a⟩ (fun _ => ?_)
 generalize W2.drew = W3 at *
 refine wpAnyH_take (i := 0) (v := .pointer (some ⟨B.b, 0, none⟩)) rfl (by kernel_rfl) (by kernel_rfl) (by kernel_rfl) (fun _ _ _ h => h) (Or.inl ⟨by kernel_rfl, fun w' hSw => by clear hSw; go_simp⟩) ⟨HN2.out, HF.out.a⟩ ?_
 simp only [List.getElem_toArray, List.getElem_cons_zero, List.getElem_cons_succ, Act.put, List.setIfInBounds_toArray, List.set_cons_zero, List.set_cons_succ]
 refine wpAnyH_take (i := 1) (v := .agg (ml B.n y bk' ev').toArray) rfl (by kernel_rfl) (by kernel_rfl) (by kernel_rfl) (fun _ _ _ h => h) (Or.inl ⟨by kernel_rfl, fun w' hSw => rnLoadB (.tmp 13) rfl rfl hSw.1⟩) ⟨HN2.out, HF.out.a⟩ ?_
 simp only [List.getElem_toArray, List.getElem_cons_zero, List.getElem_cons_succ, Act.put, List.setIfInBounds_toArray, List.set_cons_zero, List.set_cons_succ]
 refine wpAnyH_take (i := 2) (v := .pointer (some ⟨B.b, 0, none⟩)) rfl (by kernel_rfl) (by kernel_rfl) (by kernel_rfl) (fun _ _ _ h => h) (Or.inl ⟨by kernel_rfl, fun w' hSw => by clear hSw; go_simp⟩) ⟨HN2.out, HF.out.a⟩ ?_
 simp only [List.getElem_toArray, List.getElem_cons_zero, List.getElem_cons_succ, Act.put, List.setIfInBounds_toArray, List.set_cons_zero, List.set_cons_succ]
 refine wpAnyH_take (i := 3) (v := .pointer (some ⟨w.heap.size + 1, 2, none⟩)) rfl (by kernel_rfl) (by kernel_rfl) (by kernel_rfl) (fun _ _ _ h => h) (Or.inl ⟨by kernel_rfl, fun w' hSw => by clear hSw; go_simp⟩) ⟨HN2.out, HF.out.a⟩ ?_
 simp only [List.getElem_toArray, List.getElem_cons_zero, List.getElem_cons_succ, Act.put, List.setIfInBounds_toArray, List.set_cons_zero, List.set_cons_succ]
 refine wpAnyH_take (i := 4) (v := .int .u32 a) rfl (by kernel_rfl) (by kernel_rfl) (by kernel_rfl) (fun _ _ _ h => h) (Or.inl ⟨by kernel_rfl, fun w' hSw => by have c := blk_cell hSw.2 2; simp at c; clear hSw; go_simp⟩) ⟨HN2.out, HF.out.a⟩ ?_
 simp only [List.getElem_toArray, List.getElem_cons_zero, List.getElem_cons_succ, Act.put, List.setIfInBounds_toArray, List.set_cons_zero, List.set_cons_succ]
 refine wpAnyH_take (i := 5) (v := .pointer (some ⟨w.heap.size + 1, 3, none⟩)) rfl (by kernel_rfl) (by kernel_rfl) (by kernel_rfl) (fun _ _ _ h => h) (Or.inl ⟨by kernel_rfl, fun w' hSw => by clear hSw; go_simp⟩) ⟨HN2.out, HF.out.a⟩ ?_
 simp only [List.getElem_toArray, List.getElem_cons_zero, List.getElem_cons_succ, Act.put, List.setIfInBounds_toArray, List.set_cons_zero, List.set_cons_succ]
 refine wpAnyH_take (i := 6) (v := .int .u32 v) rfl (by kernel_rfl) (by kernel_rfl) (by kernel_rfl) (fun _ _ _ h => h) (Or.inl ⟨by kernel_rfl, fun w' hSw => by have c := blk_cell hSw.2 3; simp at c; clear hSw; go_simp⟩) ⟨HN2.out, HF.out.a⟩ ?_
 simp only [List.getElem_toArray, List.getElem_cons_zero, List.getElem_cons_succ, Act.put, List.setIfInBounds_toArray, List.set_cons_zero, List.set_cons_succ]
 refine wpAnyH_take (i := 8) (v := .int .i64 E) rfl (by kernel_rfl) (by kernel_rfl) (by kernel_rfl) (fun _ _ _ h => h) (Or.inl ⟨by kernel_rfl, fun w' hSw => by clear hSw; go_simp⟩) ⟨HN2.out, HF.out.a⟩ ?_
 simp only [List.getElem_toArray, List.getElem_cons_zero, List.getElem_cons_succ, Act.put, List.setIfInBounds_toArray, List.set_cons_zero, List.set_cons_succ]
 refine wpAnyH_ready (rs := [7]) (by kernel_rfl) (by simp) ?_
 refine AllReadyH.cons rfl (fun K hK => ?_) AllReadyH.nil
 go_simp
 go_wp2_with (go_at_call 28; refine (CS.out _ HH.out).mono ?_; rintro e W4 ⟨rfl, hL⟩; obtain ⟨C, LC⟩ := hL.lft HH.out HNW.out HF.out.ss; have HF := Lib.hid (HF.out.step LC.kp LC.lo); have HM1 := Lib.hid (HM1.out.kp LC.kp); have HN2 := Lib.hid (HN2.out.kp LC.kp); have HLC := Lib.hid LC; clear LC hL)
 refine hK.out _ _ ⟨HN2.out, HF.out.a⟩ (fun _ => ?_)
 clear hK K
 refine wpAnyH_take (i := 9) (v := .bool true) rfl (by kernel_rfl) (by kernel_rfl) (by kernel_rfl) (fun _ _ _ h => h) (Or.inl ⟨by kernel_rfl, fun w' hSw => by clear hSw; go_simp⟩) ⟨HN2.out, HF.out.a⟩ ?_
 simp only [List.getElem_toArray, List.getElem_cons_zero, List.getElem_cons_succ, Act.put, List.setIfInBounds_toArray, List.set_cons_zero, List.set_cons_succ]
 refine wpAnyH_take (i := 10) (v := .pointer (some ⟨B.b, 0, none⟩)) rfl (by kernel_rfl) (by kernel_rfl) (by kernel_rfl) (fun _ _ _ h => h) (Or.inl ⟨by kernel_rfl, fun w' hSw => by clear hSw; go_simp⟩) ⟨HN2.out, HF.out.a⟩ ?_
 simp only [List.getElem_toArray, List.getElem_cons_zero, List.getElem_cons_succ, Act.put, List.setIfInBounds_toArray, List.set_cons_zero, List.set_cons_succ]
 refine wpAnyH_ready (rs := [11]) (by kernel_rfl) (by simp) ?_
 refine AllReadyH.cons rfl (fun K hK => ?_) AllReadyH.nil
 refine step_store_B rfl (.tmp 7) (.tmp 67) rfl rfl B.n y bk' ev' rfl HF.out.z HM1.out.one ?_
 intro W9 hN9 ho9
 have HX := Lib.hid (d11_end HF.out HLC.out.h HLC.out.nw ⟨HLC.out.n, HLC.out.c, HLC.out.d⟩ HM1.out HSL.out ho9)
 rw [HLC.out.e] at HX
 have hS9 := (show NAt W9 q B.n y bk' ev' ∧ W9.heap[w.heap.size + 1]? = some (actO 2 N a v) from ⟨keep_or HN2.out ho9 hN9, ho9.at HF.out.a (by omega)⟩)
 refine hK.out _ _ hS9 (fun _ => ?_)
 clear hK K ho9
 simp only [Act.put]
 refine wpAnyH_take (i := 12) (v := .bool true) rfl (by kernel_rfl) (by kernel_rfl) (by kernel_rfl) (fun _ _ _ h => h) (Or.inl ⟨by kernel_rfl, fun w' hSw => by clear hSw; go_simp⟩) hS9 ?_
 simp only [List.getElem_toArray, List.getElem_cons_zero, List.getElem_cons_succ, Act.put, List.setIfInBounds_toArray, List.set_cons_zero, List.set_cons_succ]
 clear hS9
 refine wpAnyH_done (by kernel_rfl) ?_ _
 go_wp2_with fail
 exact bodyPost_ret (resN3 rfl _ _ _ _ rfl rfl rfl hN9) rfl HX.out
set_option maxHeartbeats 1600000 in
theorem yDo3 (B : Bp) (x : Bx) (bk ev : Value) (K N a v : Int) (s : Nat) (w : World) (H : BdAt w B x) (hn : B.new s) (hs : s ≤ w.heap.size) (M : MV w B.c x bk ev) (hl : x.es.length < 4294967290) (n0 : 0 ≤ N) (n1 : N < 18446744073709551616) (a0 : 0 ≤ a) (a1 : a < 4294967296) (v0 : 0 ≤ v) (v1 : v < 4294967296) (hK : K = 3) :
 Calls Tryz.prog 13 #[.pointer (some ⟨B.b, 0, none⟩), .agg (ml B.n x bk ev).toArray, .agg #[.int .i64 K, .int .u64 N, .int .u32 a, .int .u32 v]] w (DoPost11 s B x w) := by
 have hb := trA (trA (trA (tr0 w) (oM11 B.n x bk ev)) (actO K N a v)) zM11
 have HF := Lib.hid (d11_new w s B.n x bk ev K N a v hs)
 have HH := Lib.hid (H.below hb)
 have HM := Lib.hid (M.below hb)
 have HNW := Lib.hid hn
 have HOK := Lib.hid H.ok
 have HST := Lib.hid H.still
 have HL := Lib.hid (show x.es.length < 4294967296 by omega)
 have HL2 := Lib.hid hl
 clear H M hn hs hb hl
 subst hK
 go_enter Tryz.func13, Tryz.ntmps13
 go_upto_region 1 with (fail)
 rw [oM11_eq, zM11_eq, show Obj.cells #[.int .i64 3, .int .u64 N, .int .u32 a, .int .u32 v] 52 (0, 0) = actO 3 N a v from rfl]
 generalize ((w.alloc (oM11 B.n x bk ev)).alloc (actO 3 N a v)).alloc zM11 = W at *
 have x0 := HF.out.x0
 go_upto_region 14 with (go_at_call 16; refine (bdCopy B x _ HH.out HL.out).mono ?_; rintro e W1 ⟨C, rfl, h1, h2, h3, h7, h8, h9⟩; have H2 := Lib.hid (two_copy HH.out h2 h1 h3); have HCN := Lib.hid (show C.new s from fun k hk => Nat.le_trans HF.out.ss (h3 k hk)); have HF := Lib.hid (HF.out.below h2); have HM := Lib.hid (HM.out.below h2); have HCE := Lib.hid (show C.n = B.n ∧ C.c = B.c ∧ C.div = B.div from ⟨h7, h8, h9⟩); clear h1 h2 h3 h7 h8 h9 x0 HH)
 have AL := Lib.hid (fun w' (h : BdAt w' C x) (m : MV w' B.c x bk ev) => by have := yAlike C x bk ev w' h (by rw [HCE.out.2.1]; exact m) HL.out; rw [HCE.out.1] at this; exact this)
 go_upto_region 16 with (first | (refine nLoadBg (.tmp 4) rfl (by kernel_rfl) rfl HF.out.h ?_) | (go_at_call 14; refine (AL.out _ H2.out.two HM.out).mono ?_; rintro e W2 ⟨rfl, hb⟩; have HF := Lib.hid (HF.out.below hb); have HM := Lib.hid (HM.out.below hb); have H2 := Lib.hid (H2.out.below hb); clear hb AL))
 go_upto_region 17 with (go_at_call 17; refine (bdTick B x 50 _ H2.out.one (by omega) (by omega) HL.out).mono ?_; rintro e W3 ⟨rfl, hL⟩; obtain ⟨C1, LC, H3⟩ := H2.out.lft hL HNW.out HF.out.ss; have HF := Lib.hid (HF.out.step LC.kp LC.lo); have HM := Lib.hid (HM.out.kp LC.kp); have HLC := Lib.hid LC; have H2 := Lib.hid H3; clear LC hL H3)
 have CS := Lib.hid (fun w' (h : BdAt w' C1 (x.tick 50)) => by have := bdStore C1 (x.tick 50) 268632072 45063 w' h (by omega) (by omega) (by omega) (by omega) (by have := tick_len x 50; have := HL2.out; omega); rw [HLC.out.e] at this; exact this)
 go_upto_region 18 with (go_at_call 28; refine (CS.out _ H2.out.one).mono ?_; rintro e W4 ⟨rfl, hL⟩; obtain ⟨C2, LC, H3⟩ := H2.out.lft hL HLC.out.nw HF.out.ss; have HF := Lib.hid (HF.out.step LC.kp LC.lo); have HM := Lib.hid (HM.out.kp LC.kp); have H2 := Lib.hid H3; clear LC hL H3 CS)
 have HF := Lib.hid (HF.out.below (trD (tr0 W4)))
 have HM := Lib.hid (HM.out.below (trD (tr0 W4)))
 have HC := Lib.hid (H2.out.two.below (trD (tr0 W4)))
 refine wp_region_held_drew (S := fun w' => NAt w' w.heap.size B.n x bk ev) (by kernel_rfl) HF.out.h (fun _ => ?_)
 generalize W4.drew = W5 at *
 refine wpAnyH_take (i := 0) (v := .pointer (some ⟨C.b, 0, none⟩)) rfl (by kernel_rfl) (by kernel_rfl) (by kernel_rfl) (fun _ _ _ h => h) (Or.inl ⟨by kernel_rfl, fun w' hSw => by clear hSw; go_simp⟩) HF.out.h ?_
 simp only [List.getElem_toArray, List.getElem_cons_zero, List.getElem_cons_succ, Act.put, List.setIfInBounds_toArray, List.set_cons_zero, List.set_cons_succ]
 refine wpAnyH_take (i := 1) (v := .agg (ml B.n x bk ev).toArray) rfl (by kernel_rfl) (by kernel_rfl) (by kernel_rfl) (fun _ _ _ h => h) (Or.inl ⟨by kernel_rfl, fun w' hSw => rnLoadB (.tmp 4) rfl rfl hSw⟩) HF.out.h ?_
 simp only [List.getElem_toArray, List.getElem_cons_zero, List.getElem_cons_succ, Act.put, List.setIfInBounds_toArray, List.set_cons_zero, List.set_cons_succ]
 refine wpAnyH_take (i := 2) (v := .pointer (some ⟨C.b, 0, none⟩)) rfl (by kernel_rfl) (by kernel_rfl) (by kernel_rfl) (fun _ _ _ h => h) (Or.inl ⟨by kernel_rfl, fun w' hSw => by clear hSw; go_simp⟩) HF.out.h ?_
 simp only [List.getElem_toArray, List.getElem_cons_zero, List.getElem_cons_succ, Act.put, List.setIfInBounds_toArray, List.set_cons_zero, List.set_cons_succ]
 refine wpAnyH_ready (rs := [3]) (by kernel_rfl) (by simp) ?_
 refine AllReadyH.cons rfl (fun K hK => ?_) AllReadyH.nil
 refine step_store_B rfl (.tmp 7) (.tmp 95) rfl rfl B.n x bk ev rfl HF.out.z HM.out.one ?_
 intro W9 hN9 ho9
 have HX := Lib.hid (d11_end HF.out HC.out HCN.out HCE.out HM.out (.inl rfl) ho9)
 have hS9 := (show NAt W9 w.heap.size B.n x bk ev from ho9.at HF.out.h (by omega))
 refine hK.out _ _ hS9 (fun _ => ?_)
 clear hK K ho9
 simp only [Act.put]
 refine wpAnyH_take (i := 4) (v := .bool true) rfl (by kernel_rfl) (by kernel_rfl) (by kernel_rfl) (fun _ _ _ h => h) (Or.inl ⟨by kernel_rfl, fun w' hSw => by clear hSw; go_simp⟩) hS9 ?_
 simp only [List.getElem_toArray, List.getElem_cons_zero, List.getElem_cons_succ, Act.put, List.setIfInBounds_toArray, List.set_cons_zero, List.set_cons_succ]
 clear hS9
 refine wpAnyH_done (by kernel_rfl) ?_ _
 go_wp2_with fail
 exact bodyPost_ret (resN3 rfl _ _ _ _ rfl rfl rfl hN9) rfl HX.out
end Go.Proofs.YtcgmnjajodegmaaGreat.B
