/- A part of the proof of a law of layer 12: bx. -/
import Derived.Test.YtpojmmgokgamgaaGreatZYbw
set_option linter.unusedVariables false
set_option linter.unusedSimpArgs false
set_option maxHeartbeats 12800000
set_option maxRecDepth 100000
namespace Go.Proofs.YtpojmmgokgamgaaGreat.B
open Go.Proofs.Tryz
open Go.ChangeShapes Go.WideShapes Go.RowKit Go.Sort
section
variable {s n c m q : Nat} {B : Bp} {p : Pt} {gv bk ev dv : Value} {K a v : Int} {gA : Value} {gs : List Int} {N : Int} {w : World}
theorem aMV (A : Ar s n c m q B p gv bk ev dv a v gA gs N w) (hK : K = 3) (hmany : 64 < gs.length) : DoC s n c m q p bk ev dv K a v gA N w := by
 have HF := Hd (A.f K)
 have HB := Hd (A.b K)
 have HG := Hd (A.g K)
 have HA := Hd A
 clear A
 unfold DoC
 subst hK
 obtain ⟨yA, capA, rfl, _, _, hyA⟩ := HG.out
 go_enter func12, ntmps12
 go_upto_region 1 with (fail)
 rw [cY, cU, show Obj.cells #[.int .i64 3, .int .u32 a, .int .u32 v, (.slice yA gs.length capA), .int .u64 N] 56 (0, 0) = jC 3 a v (.slice yA gs.length capA) N from rfl]
 generalize ((w.alloc (gU n p bk ev dv)).alloc (jC 3 a v (.slice yA gs.length capA) N)).alloc fY = W at *
 have x0 := HF.out.x0
 have CG := Hd (fun w' => aDv q yA gs.length capA w' hmany)
 have hd := decide_eq_true (show (64 : Int) < gs.length by omega)
 have x3 := HF.out.x3
 go_upto_region 14 with (go_at_call 21; refine (CG.out _).mono ?_; rintro e W1 ⟨rfl, hb⟩; have HF := Hd (HF.out.below hb); have HB := Hd (HB.out.below hb); clear hb x3 x0)
 have x3 := HF.out.x3
 go_upto_region 15 with (fail)
 clear x3
 have HF := Hd (HF.out.below (jH (aI W1)))
 have HB := Hd (HB.out.below (jH (aI W1)))
 have HB := Hd (HB.out.le (Nat.le_succ m) (by have := HA.out.hm; omega))
 refine wp_region_held_drew (S := fun w' => QP w' w.heap.size n p bk ev dv) (by kernel_rfl) HF.out.h (fun _ => ?_)
 generalize W1.drew = W5 at *
 refine eA (i := 0) (v := .pointer (some ⟨q, 0, none⟩)) HF.out.h ?_
 simp only [iA, hJ, hI, Act.put, dH, dF, dG]
 refine rQ (i := 1) (v := (.agg (pl n p bk ev dv).toArray)) rfl (by kernel_rfl) (fun _ _ _ h => h) (fun w' hSw => aAD (.tmp 4) rfl rfl hSw) HF.out.h ?_
 simp only [iA, hJ, hI, Act.put, dH, dF, dG]
 refine eA (i := 2) (v := .int .i64 6) HF.out.h ?_
 simp only [iA, hJ, hI, Act.put, dH, dF, dG]
 refine eA (i := 3) (v := .bool true) HF.out.h ?_
 simp only [iA, hJ, hI, Act.put, dH, dF, dG]
 refine eA (i := 4) (v := .pointer (some ⟨q, 0, none⟩)) HF.out.h ?_
 simp only [iA, hJ, hI, Act.put, dH, dF, dG]
 refine nP (i := 5) (by kernel_rfl) rfl fun K hK => ?_
 refine iY rfl (.tmp 7) (.tmp 94) rfl rfl n p bk ev dv rfl HF.out.z ⟨HB.out.F.M.one.1, HB.out.F.M.one.2, HB.out.F.G.one⟩ ?_
 intro W9 hN9 ho9
 have HX := Hd (kA HF.out HB.out ho9)
 have hS9 := (show QP W9 w.heap.size n p bk ev dv from ho9.at HF.out.h (by omega))
 refine hK.out _ _ hS9 (fun _ => ?_)
 clear hK K ho9
 simp only [Act.put]
 refine eA (i := 6) (v := .bool true) hS9 ?_
 exact gD
end
theorem aJh : (prog.info? tU).map (fun i => (i.zero, i.size, i.bytes)) = some (some (.int .u32 0), 1, 4) := by kernel_rfl
theorem rR (g : Nat) (y : Option Addr) (cap : Nat) (ty : TypeId) (w : World) : (Builtin.append_ #[25, 25] ty #[.slice (some ⟨g, 0, none⟩) 0 0, .slice y 0 cap]).run prog w = .ok (.slice (some ⟨g, 0, none⟩) 0 0) w := by
 obtain ⟨i0, hi, hz0, hz1, hz2⟩ := info_parts aJh
 cases y <;> simp [Builtin.append_, run_underlying (underlying25), sizeOf, typeInfo, hi, Builtin.lenOf, Builtin.firstCells, loadCells, loadCellsFrom, storeCells]
theorem kY.up {s : Nat} {w : World} {v : Value} {gs : List Int} (h : kY 0 w v gs) : kY s w v gs := by
 obtain ⟨y, cap, rfl, h1, h2, h3⟩ := h
 refine ⟨y, cap, rfl, h1, h2, h3.imp id ?_⟩
 rintro ⟨b, off, rfl, hb, hg, hc⟩
 exact ⟨b, off, rfl, hb, hg.imp (fun e => by omega) id, hc⟩
theorem aKj {s : Nat} {w : World} {B : Nat} {v : Value} {gs : List Int} (hn : gs.length <= 64) (h : w.ownsRow B tU 1 v gs.length (lR gs)) : kY s w v gs := by
 rcases fR h with ⟨rfl, h0⟩ | ⟨g, cap, rfl, h1, h2, h3, cur, hc⟩
 . exact ⟨none, 0, by rw [h0], by omega, Nat.zero_le _, .inl h0⟩
 . refine ⟨_, cap, rfl, h1, h2, .inr ⟨g, 0, rfl, h3, .inr (by rw [bP hc]; decide), fun i x hi => ?_⟩⟩
   have hil : i < gs.length := (List.getElem?_eq_some_iff.1 hi).1
   have := World.ownsRow.cellAt h i (by omega)
   rw [Nat.zero_add, this]
   unfold lR
   rw [List.getElem?_map, hi]
   rfl
section
variable {ops : Array Oper} {rest : List Oper} {o : Oper} {a : Act} {w : World} {Q : Exit -> Act -> World -> Prop}
theorem aIx (hgd : o.guard = none) (s x : Operand) (ho : o.op = .call { callee := .builtin .append, args := #[s, x], argTypes := #[25, 25] })
 {g t : Nat} {y : Option Addr} {cap : Nat} {gs : List Int} (hs : a.eval s = .slice (some ⟨g, 0, none⟩) 0 0) (hg : w.heap[g]? = some (.cells #[] tU (0, 0))) (hx : a.eval x = .slice y gs.length cap) (hG : kY t w (.slice y gs.length cap) gs) (hn : gs.length <= 64)
 (h : ∀ v' w', kY 0 w' v' gs -> aF (· = g) w w' -> wpList prog ops Q rest (a.put o.dst v') w') : wpList prog ops Q (o :: rest) a w := by
 have hgl := lt_of_block hg
 obtain ⟨y', cap', he, h1, h2, h3⟩ := hG
 cases he
 by_cases h0 : gs.length = 0
 . have hrun := rR g y cap o.type w
   have hfin := h (.slice (some ⟨g, 0, none⟩) 0 0) w ⟨_, 0, by rw [h0], by omega, Nat.zero_le _, .inl h0⟩ (aF.refl _ _)
   rw [h0] at hx
   refine wpList_plain hgd fun K hK => ?_
   unfold Oper.wp
   simp [execOp, ho, resolve, invoke, builtin, hs, hx, hrun, Result.andThen]
   exact hK _ _ hfin
 . obtain ⟨bb, off, rfl, hb, _, hc⟩ := h3.resolve_left h0
   obtain ⟨i0, hi, hz0, hz1, hz2⟩ := info_parts aJh
   have hO : w.ownsRow 0 tU 1 (.slice (some ⟨g, 0, none⟩) 0 0) 0 [] := ⟨rfl, .inr ⟨g, 0, #[], rfl, Nat.zero_le _, hg, Nat.le_refl _, Nat.zero_le _, rfl, rfl⟩⟩
   refine wpList_append_own w hgd s x _ ho 0 tU i0 _ 1 4 underlying25 hi hz0 hz1 hz2 rfl (by decide) _ 0 [] hs hO ⟨bb, off, none⟩ gs.length cap (lR gs) hx (by unfold lR; simp) (fun j u hu => ?_) (aBA gs) (by unfold maxLen; omega) (by omega) (Nat.zero_le _) fun v' w' h5 h6 _ => ?_
   . obtain ⟨x, hxj, rfl⟩ := aBD hu
     rw [sQ]
     exact hc j x hxj
   . rw [Nat.zero_add, List.nil_append] at h5
     exact h v' w' (aKj hn h5) (aF.ofGrown h6 fun k hk => by
      have : some g = some k := hk
      cases this; rfl)
end
section
variable {s n c m q : Nat} {B : Bp} {p : Pt} {gv bk ev dv : Value} {K a v : Int} {gA : Value} {gs : List Int} {N : Int} {w : World}
theorem aKI (A : Ar s n c m q B p gv bk ev dv a v gA gs N w) (hK : K = 3) (hfew : gs.length <= 64) : DoC s n c m q p bk ev dv K a v gA N w := by
 have HF := Hd (A.f K)
 have HB := Hd (A.b K)
 have HG := Hd (A.g K)
 have HA := Hd A
 clear A
 unfold DoC
 subst hK
 obtain ⟨yA, capA, rfl, _, _, hyA⟩ := HG.out
 go_enter func12, ntmps12
 go_upto_region 1 with (fail)
 rw [cY, cU, show Obj.cells #[.int .i64 3, .int .u32 a, .int .u32 v, (.slice yA gs.length capA), .int .u64 N] 56 (0, 0) = jC 3 a v (.slice yA gs.length capA) N from rfl]
 generalize ((w.alloc (gU n p bk ev dv)).alloc (jC 3 a v (.slice yA gs.length capA) N)).alloc fY = W at *
 have x0 := HF.out.x0
 have CG := Hd (fun w' (b : Bo s n c m w' q B p gv bk ev (dv)) (g : kY s w' (.slice yA gs.length capA) gs) => aNi q B p gv s (.slice yA gs.length capA) gs w' b.H g hfew)
 have hd := decide_eq_false (show ¬ (64 : Int) < gs.length by omega)
 have x3 := HF.out.x3
 go_upto_region 14 with (go_at_call 21; refine (CG.out _ HB.out HG.out).mono ?_; rintro e W1 ⟨rfl, gv', hL⟩; obtain ⟨C, LC⟩ := hL.lp HB.out.H HB.out.nw HB.out.sq HF.out.ss; have HF := Hd (HF.out.step LC.kq LC.lo); have HM0 := Hd (HB.out.F.M.kq LC.kq); have HG1 := Hd (HG.out.kq LC.kq LC.lo); have HLC := Hd LC; have HSB := Hd (show s <= W1.heap.size from Nat.le_trans HB.out.F.sb LC.lo.size); clear LC hL CG x3 x0)
 have x3 := HF.out.x3
 have hla := lt_of_block HF.out.a
 go_upto_region 17 with (refine aIx rfl (.tmp 97) (.tmp 99) rfl rfl (aD W1 (.cells #[] tU (0, 0))) rfl (HG1.out.below (aE (aI W1) (.cells #[] tU (0, 0)))) hfew ?_; intro v' W2 hG2 ho2; obtain ⟨yy, ll, cc, rfl⟩ := hG2.own; have hb := kS (aE (aI W1) (.cells #[] tU (0, 0))) ho2 (Nat.le_refl _) (Nat.le_refl _); have HF := Hd (HF.out.below hb); have HM0 := Hd (HM0.out.below hb); have HC := Hd (HLC.out.h.below hb); have HSB := Hd (Nat.le_trans HSB.out hb.size); have HG2 := Hd hG2; have fG := HF.out.h.free 110; have cG := HF.out.h.cG; have hlb := HF.out.h.lt; clear hb ho2 hG2 x3 hla)
 have hso := aG W2 w.heap.size 110 (.slice yy ll cc)
 have HBB := Hd (show Bo s n c (m + 1) W2 q C (p.gap' gs) gv' bk ev (.slice yy ll cc) from ⟨HC.out, HLC.out.nw, HB.out.sq, HLC.out.n.trans HB.out.en, HLC.out.c.trans HB.out.ec, HM0.out, HG2.out.up, HB.out.F.ok, HB.out.F.st, ⟨HA.out.po.td, HA.out.po.se, Nat.le_succ_of_le HA.out.po.es, Nat.le_succ_of_le HA.out.po.md, HA.out.po.s0, HA.out.po.s1, hfew, HA.out.hgs⟩, by have := HA.out.hm; omega, HSB.out⟩)
 have HB := Hd (HBB.out.offP hso HF.out.h (Nat.le_trans HF.out.sb HF.out.b0))
 have HF := Hd (show rT w (W2.setCell ⟨w.heap.size, 110, none⟩ (.slice yy ll cc)) s w.heap.size n (p.gap' gs) bk ev (.slice yy ll cc) 3 a v (.slice yA gs.length capA) N from HF.out.turn (HF.out.h.setG (.slice yy ll cc) gs) hso)
 clear hso HBB HG2 HC HM0 fG cG hlb HG1 HLC HSB
 generalize W2.setCell ⟨w.heap.size, 110, none⟩ (.slice yy ll cc) = W3 at *
 have HF := Hd (HF.out.below (jH (aI W3)))
 have HB := Hd (HB.out.below (jH (aI W3)))
 refine wp_region_held_drew (S := fun w' => QP w' w.heap.size n (p.gap' gs) bk ev (.slice yy ll cc)) (by kernel_rfl) HF.out.h (fun _ => ?_)
 generalize W3.drew = W5 at *
 refine eA (i := 0) (v := .pointer (some ⟨q, 0, none⟩)) HF.out.h ?_
 simp only [iA, hJ, hI, Act.put, dH, dF, dG]
 refine rQ (i := 1) (v := (.agg (pl n (p.gap' gs) bk ev (.slice yy ll cc)).toArray)) rfl (by kernel_rfl) (fun _ _ _ h => h) (fun w' hSw => aAD (.tmp 4) rfl rfl hSw) HF.out.h ?_
 simp only [iA, hJ, hI, Act.put, dH, dF, dG]
 refine eA (i := 2) (v := .int .i64 0) HF.out.h ?_
 simp only [iA, hJ, hI, Act.put, dH, dF, dG]
 refine eA (i := 3) (v := .bool true) HF.out.h ?_
 simp only [iA, hJ, hI, Act.put, dH, dF, dG]
 refine eA (i := 4) (v := .pointer (some ⟨q, 0, none⟩)) HF.out.h ?_
 simp only [iA, hJ, hI, Act.put, dH, dF, dG]
 refine nP (i := 5) (by kernel_rfl) rfl fun K hK => ?_
 refine iY rfl (.tmp 7) (.tmp 103) rfl rfl n (p.gap' gs) bk ev (.slice yy ll cc) rfl HF.out.z ⟨HB.out.F.M.one.1, HB.out.F.M.one.2, HB.out.F.G.one⟩ ?_
 intro W9 hN9 ho9
 have HX := Hd (kA HF.out HB.out ho9)
 have hS9 := (show QP W9 w.heap.size n (p.gap' gs) bk ev (.slice yy ll cc) from ho9.at HF.out.h (by omega))
 refine hK.out _ _ hS9 (fun _ => ?_)
 clear hK K ho9
 simp only [Act.put]
 refine eA (i := 6) (v := .bool true) hS9 ?_
 exact gD
end
section
variable {s n c m q : Nat} {B : Bp} {p : Pt} {gv bk ev dv : Value} {K a v : Int} {gA : Value} {gs : List Int} {N : Int} {w : World}
theorem aOP (A : Ar s n c m q B p gv bk ev dv a v gA gs N w) (hK : K = 4) : DoC s n c m q p bk ev dv K a v gA N w := by
 have HF := Hd (A.f K)
 have HB := Hd (A.b K)
 have HG := Hd (A.g K)
 have HA := Hd A
 clear A
 unfold DoC
 subst hK
 obtain ⟨yA, capA, rfl, _, _, hyA⟩ := HG.out
 go_enter func12, ntmps12
 go_upto_region 1 with (fail)
 rw [cY, cU, show Obj.cells #[.int .i64 4, .int .u32 a, .int .u32 v, (.slice yA gs.length capA), .int .u64 N] 56 (0, 0) = jC 4 a v (.slice yA gs.length capA) N from rfl]
 generalize ((w.alloc (gU n p bk ev dv)).alloc (jC 4 a v (.slice yA gs.length capA) N)).alloc fY = W at *
 have x0 := HF.out.x0
 have HOK := Hd (Pt.tk_ok HA.out.po HB.out.F.st HB.out.F.hm N)
 have CB := Hd (fun w' (b : Bo s n c m w' q B p gv bk ev (dv)) => xW q B p gv w' b.H)
 have CT := Hd (fun w' (b : Bo s n c m w' q B p gv bk ev (dv)) => aFy B p.x N w' b.H.bd HA.out.n0 HA.out.n1 (by have := HA.out.el; omega))
 have RT := Hd (fun w' (M : MV w' c p.x bk ev) => aJN n c p.x bk ev N w' M HB.out.F.ok HB.out.F.st HA.out.n0 HA.out.n1 (by have := HA.out.el; omega))
 have x4 := HF.out.x4
 have hlb := lt_of_block HF.out.a
 have hg := bI
 go_upto_region 19 with (fail)
 refine jE 4 (by kernel_rfl) (by kernel_rfl) (by intro _ _ d _ _ h; cases d <;> exact h) ?_
 simp only [List.take_succ_cons, List.take_zero, List.drop_succ_cons, List.drop_zero]
 repeat (go_big_quiet_step (first | (go_at_call 10; exact Calls.regrown_of (CB.out _ (HB.out.below (below_regrown W _ _))))))
 refine wpQuiet_nil ?_
 intro _ hw'
 obtain ⟨⟨dq, osq⟩, hw''⟩ := hw'
 subst hw''
 have hb := below_regrown W dq osq
 have HF := Hd (HF.out.below hb)
 have HB := Hd (HB.out.below hb)
 clear hb hg x4 hlb x0 CB
 dsimp only at HF HB ⊢
 generalize grow (redrawn W dq) osq = W1 at *
 go_upto_region 20 with (go_at_call 33; refine (CT.out _ HB.out).mono ?_; rintro e W2 ⟨rfl, hL⟩; obtain ⟨C, LC⟩ := (HB.out.H.board hL).lp HB.out.H HB.out.nw HB.out.sq HF.out.ss; have HF := Hd (HF.out.step LC.kq LC.lo); have HM0 := Hd (HB.out.F.M.kq LC.kq); have HG0 := Hd (HB.out.F.G.kq LC.kq LC.lo); have HLC := Hd LC; have HBN := Hd (And.intro HB.out.en (And.intro HB.out.ec HB.out.sq)); have HSB := Hd (show s <= W2.heap.size from Nat.le_trans HB.out.F.sb LC.lo.size); clear LC hL CT HB)
 have x4 := HF.out.x4
 go_upto_region 28 with (first | (refine aGc rfl (.tmp 113) rfl rfl HF.out.h ?_) | (go_at_call 34; refine (RT.out _ HM0.out).mono ?_; rintro e W3 ⟨bk', ev', rfl, M1, hb⟩; have HF := Hd (HF.out.below hb); have HM1 := Hd M1; have HG0 := Hd (HG0.out.below hb); have HC := Hd (HLC.out.h.below hb); have HSB := Hd (Nat.le_trans HSB.out hb.size); clear hb M1 x4) | (refine aHi rfl (.tmp 118) (.tmp 117) rfl rfl (p.x.tick N) bk' ev' rfl HF.out.h HM1.out.one ?_; intro W4 hq4 ho4; have HB := Hd (show Bo s n c (m + 1) W3 q C (p.tk N) gv bk' ev' dv from ⟨HC.out, HLC.out.nw, HBN.out.2.2, HLC.out.n.trans HBN.out.1, HLC.out.c.trans HBN.out.2.1, HM1.out, HG0.out, (by have := HC.out.bd.ok; rw [HLC.out.n, HLC.out.c, HBN.out.1, HBN.out.2.1] at this; exact this), HC.out.bd.still, HOK.out, by have := HA.out.hm; omega, HSB.out⟩); have HB := Hd (HB.out.offP ho4 HF.out.h (Nat.le_trans HF.out.sb HF.out.b0)); have HF := Hd (show rT w W4 s w.heap.size n (p.tk N) bk' ev' dv 4 a v (.slice yA gs.length capA) N from HF.out.turn hq4 ho4); clear hq4 ho4 HM0 HG0 HC HM1 HSB))
 have HF := Hd (HF.out.below (jH (aI W4)))
 have HB := Hd (HB.out.below (jH (aI W4)))
 refine wp_region_held_drew (S := fun w' => QP w' w.heap.size n (p.tk N) bk' ev' dv) (by kernel_rfl) HF.out.h (fun _ => ?_)
 generalize W4.drew = W5 at *
 refine eA (i := 0) (v := .pointer (some ⟨q, 0, none⟩)) HF.out.h ?_
 simp only [iA, hJ, hI, Act.put, dH, dF, dG]
 refine rQ (i := 1) (v := (.agg (pl n (p.tk N) bk' ev' dv).toArray)) rfl (by kernel_rfl) (fun _ _ _ h => h) (fun w' hSw => aAD (.tmp 4) rfl rfl hSw) HF.out.h ?_
 simp only [iA, hJ, hI, Act.put, dH, dF, dG]
 refine eA (i := 2) (v := .pointer (some ⟨q, 0, none⟩)) HF.out.h ?_
 simp only [iA, hJ, hI, Act.put, dH, dF, dG]
 refine nP (i := 3) (by kernel_rfl) rfl fun K hK => ?_
 refine iY rfl (.tmp 7) (.tmp 148) rfl rfl n (p.tk N) bk' ev' dv rfl HF.out.z ⟨HB.out.F.M.one.1, HB.out.F.M.one.2, HB.out.F.G.one⟩ ?_
 intro W9 hN9 ho9
 have HX := Hd (kA HF.out HB.out ho9)
 have hS9 := (show QP W9 w.heap.size n (p.tk N) bk' ev' dv from ho9.at HF.out.h (by omega))
 refine hK.out _ _ hS9 (fun _ => ?_)
 clear hK K ho9
 simp only [Act.put]
 refine eA (i := 4) (v := .bool true) hS9 ?_
 exact gD
end
section
variable {s n c m q : Nat} {B : Bp} {p : Pt} {gv bk ev dv : Value} {K a v : Int} {gA : Value} {gs : List Int} {N : Int} {w : World}
theorem aM6 (A : Ar s n c m q B p gv bk ev dv a v gA gs N w) (hK : K = 5) : DoC s n c m q p bk ev dv K a v gA N w := by
 have HF := Hd (A.f K)
 have HB := Hd (A.b K)
 have HG := Hd (A.g K)
 have HA := Hd A
 clear A
 unfold DoC
 subst hK
 obtain ⟨yA, capA, rfl, _, _, hyA⟩ := HG.out
 go_enter func12, ntmps12
 go_upto_region 1 with (fail)
 rw [cY, cU, show Obj.cells #[.int .i64 5, .int .u32 a, .int .u32 v, (.slice yA gs.length capA), .int .u64 N] 56 (0, 0) = jC 5 a v (.slice yA gs.length capA) N from rfl]
 generalize ((w.alloc (gU n p bk ev dv)).alloc (jC 5 a v (.slice yA gs.length capA) N)).alloc fY = W at *
 have x0 := HF.out.x0
 have CB := Hd (fun w' (b : Bo s n c m w' q B p gv bk ev (dv)) => xW q B p gv w' b.H)
 have CC := Hd (fun w' (b : Bo s n c m w' q B p gv bk ev (dv)) => aMb B p.x w' b.H.bd (by have := HA.out.el; omega))
 have CP := Hd (fun C w' (b : Bo s n c m w' q B p gv bk ev (dv)) h => aNL q B C p p.x gv w' b.H h HA.out.po.gl)
 have hP1 := Pt.stp_ok (n := B.n) (c := B.c) HA.out.po HB.out.F.st HA.out.ps HB.out.F.hm 268632072 45063
 have CS := Hd (fun w' (h : aY w' q B p gv) => aFe q B p gv m 268632072 45063 w' h HA.out.po (by have := HA.out.hm; omega) (by decide) (by decide) (by decide) (by decide))
 obtain ⟨P1, hP⟩ : ∃ P1, p.stp B.n B.c 268632072 45063 = P1 := ⟨_, rfl⟩
 rw [hP] at hP1
 have CS := Hd (fun w' h => by have := CS.out w' h; rw [hP] at this; exact this)
 have CBt := Hd (fun ev1 w' (h : aY w' q { B with ev := ev1 } P1 gv) => aJc q { B with ev := ev1 } P1 gv (m + 1) w' h hP1 (by have := HA.out.hm; omega))
 clear hP hP1
 go_upto_region 23 with (first | (go_at_call 10; refine (CB.out _ HB.out).mono ?_; rintro e W1 ⟨rfl, hb⟩; have HF := Hd (HF.out.below hb); have HB := Hd (HB.out.below hb); clear hb) | (go_at_call 35; refine (CC.out _ HB.out).mono ?_; rintro e W2 ⟨C, rfl, h1, hb, h3, h7, h8, h9⟩; have HAP := Hd (And.intro (aDt HB.out.H h3) (show C.new s from fun k hk => Nat.le_trans HF.out.ss (h3 k hk))); have HF := Hd (HF.out.below hb); have HB := Hd (HB.out.below hb); have HC := Hd h1; have HCE := Hd (show C.n = n /\ C.c = c from ⟨h7.trans HB.out.en, h8.trans HB.out.ec⟩); clear h1 hb h3 h7 h8 h9 CC CB) | (go_at_call 22; refine (CP.out C _ HB.out HC.out).mono ?_; rintro e W3 ⟨r, gv', rfl, hr, hp, hb⟩; have HT := Hd (aBl HB.out.H hp HAP.out.1 hb hr); have HSR := Hd (Nat.le_trans HF.out.ss hr); have HF := Hd (HF.out.below hb); have HB := Hd (HB.out.below hb); clear hr hp hb CP HC))
 have AL := Hd (fun w' (h : aY w' r C p gv') (F : Fit s n c m p bk ev dv w') => by have := aC4 r C p gv' s m bk ev dv w' h (by rw [HCE.out.1, HCE.out.2]; exact F); rw [HCE.out.1] at this; exact this)
 go_upto_region 25 with (first | (refine aOJ (.tmp 4) rfl (by kernel_rfl) rfl HF.out.h ?_) | (go_at_call 13; refine (AL.out _ HT.out.two HB.out.F).mono ?_; rintro e W4 ⟨rfl, hb⟩; have HF := Hd (HF.out.below hb); have HB := Hd (HB.out.below hb); have HT := Hd (HT.out.below hb); clear hb AL) | (go_at_call 22; refine (aD1 q _).mono ?_; rintro e W5 ⟨rfl, hb⟩; have HF := Hd (HF.out.below hb); have HB := Hd (HB.out.below hb); have HT := Hd (HT.out.below hb); clear hb))
 have HEB := Hd (And.intro HB.out.nw (And.intro HB.out.sq (And.intro HB.out.F.ok HB.out.F.st)))
 have HM0 := Hd HB.out.F.M
 have HG0 := Hd HB.out.F.G
 clear HB
 go_upto_region 26 with (go_at_call 18; refine (CS.out _ HT.out.one).mono ?_; rintro e W6 ⟨rfl, hL⟩; obtain ⟨C1, LC⟩ := hL.lp HT.out.one HEB.out.1 HEB.out.2.1 HF.out.ss; obtain ⟨ev1, T1, _, he1⟩ := HT.out.left hL; have HN1 := Hd (aAi HEB.out.1 HF.out.ss he1); have HF := Hd (HF.out.step LC.kq LC.lo); have HM0 := Hd (HM0.out.kq LC.kq); have HG0 := Hd (HG0.out.kq LC.kq LC.lo); have HT := Hd T1; clear LC hL T1 he1 CS)
 go_upto_region 27 with (go_at_call 19; refine (CBt.out _ _ HT.out.one).mono ?_; rintro e W7 ⟨rfl, hL⟩; obtain ⟨C2, LC⟩ := hL.lp HT.out.one HN1.out HEB.out.2.1 HF.out.ss; obtain ⟨ev2, T1, _, he1⟩ := HT.out.left hL; have HF := Hd (HF.out.step LC.kq LC.lo); have HM0 := Hd (HM0.out.kq LC.kq); have HG0 := Hd (HG0.out.kq LC.kq LC.lo); have HT := Hd T1; clear LC hL T1 he1 CBt)
 have HB := Hd (show Bo s n c (m + 1) W7 r C p gv' bk ev dv from ⟨HT.out.two, HAP.out.2, HSR.out, HCE.out.1, HCE.out.2, HM0.out, HG0.out, HEB.out.2.2.1, HEB.out.2.2.2, HA.out.po.le (Nat.le_succ m), by have := HA.out.hm; omega, HF.out.ss⟩)
 have HF := Hd (HF.out.below (jH (aI W7)))
 have HB := Hd (HB.out.below (jH (aI W7)))
 refine wp_region_held_drew (S := fun w' => QP w' w.heap.size n p bk ev dv) (by kernel_rfl) HF.out.h (fun _ => ?_)
 generalize W7.drew = W8 at *
 refine eA (i := 0) (v := .pointer (some ⟨r, 0, none⟩)) HF.out.h ?_
 simp only [iA, hJ, hI, Act.put, dH, dF, dG]
 refine rQ (i := 1) (v := (.agg (pl n p bk ev dv).toArray)) rfl (by kernel_rfl) (fun _ _ _ h => h) (fun w' hSw => aAD (.tmp 4) rfl rfl hSw) HF.out.h ?_
 simp only [iA, hJ, hI, Act.put, dH, dF, dG]
 refine eA (i := 2) (v := .pointer (some ⟨r, 0, none⟩)) HF.out.h ?_
 simp only [iA, hJ, hI, Act.put, dH, dF, dG]
 refine nP (i := 3) (by kernel_rfl) rfl fun K hK => ?_
 refine iY rfl (.tmp 7) (.tmp 146) rfl rfl n p bk ev dv rfl HF.out.z ⟨HB.out.F.M.one.1, HB.out.F.M.one.2, HB.out.F.G.one⟩ ?_
 intro W9 hN9 ho9
 have HX := Hd (kA HF.out HB.out ho9)
 have hS9 := (show QP W9 w.heap.size n p bk ev dv from ho9.at HF.out.h (by omega))
 refine hK.out _ _ hS9 (fun _ => ?_)
 clear hK K ho9
 simp only [Act.put]
 refine eA (i := 4) (v := .bool true) hS9 ?_
 exact gD
end
section
variable {s n c m q : Nat} {B : Bp} {p : Pt} {gv bk ev dv : Value} {K a v : Int} {gA : Value} {gs : List Int} {N : Int} {w : World}
theorem aNl (A : Ar s n c m q B p gv bk ev dv a v gA gs N w) (k0 : (K == 0) = false) (k1 : (K == 1) = false) (k2 : (K == 2) = false) (k3 : (K == 3) = false) (k4 : (K == 4) = false) (k5 : (K == 5) = false) : DoC s n c m q p bk ev dv K a v gA N w := by
 have HF := Hd (A.f K)
 have HB := Hd (A.b K)
 have HG := Hd (A.g K)
 have HA := Hd A
 clear A
 unfold DoC
 obtain ⟨yA, capA, rfl, _, _, hyA⟩ := HG.out
 go_enter func12, ntmps12
 go_upto_region 1 with (fail)
 rw [cY, cU, show Obj.cells #[.int .i64 K, .int .u32 a, .int .u32 v, (.slice yA gs.length capA), .int .u64 N] 56 (0, 0) = jC K a v (.slice yA gs.length capA) N from rfl]
 generalize ((w.alloc (gU n p bk ev dv)).alloc (jC K a v (.slice yA gs.length capA) N)).alloc fY = W at *
 have x0 := HF.out.x0
 go_upto_region 28 with (fail)
 have HF := Hd (HF.out.below (jH (aI W)))
 have HB := Hd (HB.out.below (jH (aI W)))
 have HB := Hd (HB.out.le (Nat.le_succ m) (by have := HA.out.hm; omega))
 refine wp_region_held_drew (S := fun w' => QP w' w.heap.size n p bk ev dv) (by kernel_rfl) HF.out.h (fun _ => ?_)
 generalize W.drew = W5 at *
 refine eA (i := 0) (v := .pointer (some ⟨q, 0, none⟩)) HF.out.h ?_
 simp only [iA, hJ, hI, Act.put, dH, dF, dG]
 refine rQ (i := 1) (v := (.agg (pl n p bk ev dv).toArray)) rfl (by kernel_rfl) (fun _ _ _ h => h) (fun w' hSw => aAD (.tmp 4) rfl rfl hSw) HF.out.h ?_
 simp only [iA, hJ, hI, Act.put, dH, dF, dG]
 refine eA (i := 2) (v := .pointer (some ⟨q, 0, none⟩)) HF.out.h ?_
 simp only [iA, hJ, hI, Act.put, dH, dF, dG]
 refine nP (i := 3) (by kernel_rfl) rfl fun K hK => ?_
 refine iY rfl (.tmp 7) (.tmp 148) rfl rfl n p bk ev dv rfl HF.out.z ⟨HB.out.F.M.one.1, HB.out.F.M.one.2, HB.out.F.G.one⟩ ?_
 intro W9 hN9 ho9
 have HX := Hd (kA HF.out HB.out ho9)
 have hS9 := (show QP W9 w.heap.size n p bk ev dv from ho9.at HF.out.h (by omega))
 refine hK.out _ _ hS9 (fun _ => ?_)
 clear hK K ho9
 simp only [Act.put]
 refine eA (i := 4) (v := .bool true) hS9 ?_
 exact gD
end
section
variable {s n c m q : Nat} {B : Bp} {p : Pt} {gv bk ev dv : Value} {K a v : Int} {gA : Value} {gs : List Int} {N : Int} {w : World}
theorem aO0 (A : Ar s n c m q B p gv bk ev dv a v gA gs N w) : DoC s n c m q p bk ev dv K a v gA N w := by
 by_cases h0 : K = 0
 . exact aNz A h0
 by_cases h1 : K = 1
 . exact aNG A h1
 by_cases h2 : K = 2
 . exact aOQ A h2
 by_cases h3 : K = 3
 . by_cases hl : gs.length <= 64
   . exact aKI A h3 hl
   . exact aMV A h3 (by omega)
 by_cases h4 : K = 4
 . exact aOP A h4
 by_cases h5 : K = 5
 . exact aM6 A h5
 exact aNl A (by simpa using h0) (by simpa using h1) (by simpa using h2) (by simpa using h3) (by simpa using h4) (by simpa using h5)
end
end Go.Proofs.YtpojmmgokgamgaaGreat.B
