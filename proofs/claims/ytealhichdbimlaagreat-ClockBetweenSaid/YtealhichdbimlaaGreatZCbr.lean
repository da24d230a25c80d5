/- A part of the proof of a law of layer 12: br. -/
import Derived.Test.YtealhichdbimlaaGreatZCbq
set_option linter.unusedVariables false
set_option linter.unusedSimpArgs false
set_option maxHeartbeats 12800000
set_option maxRecDepth 100000
namespace Go.Proofs.YtealhichdbimlaaGreat.B
open Go.Proofs.Tryz
open Go.ChangeShapes Go.WideShapes Go.RowKit Go.Sort Go.MapKept
theorem aKM : (prog.info? tU).map (fun i => (i.zero, i.size, i.bytes)) = some (some (.int .u32 0), 1, 4) := by kernel_rfl
theorem sJ (g : Nat) (y : Option Addr) (cap : Nat) (ty : TypeId) (w : World) : (Builtin.append_ #[23, 23] ty #[.slice (some ⟨g, 0, none⟩) 0 0, .slice y 0 cap]).run prog w = .ok (.slice (some ⟨g, 0, none⟩) 0 0) w := by
 obtain ⟨i0, hi, hz0, hz1, hz2⟩ := info_parts aKM
 cases y <;> simp [Builtin.append_, run_underlying (underlying23), sizeOf, typeInfo, hi, Builtin.lenOf, Builtin.firstCells, loadCells, loadCellsFrom, storeCells]
theorem jU.up {s : Nat} {w : World} {v : Value} {gs : List Int} (h : jU 0 w v gs) : jU s w v gs := by
 obtain ⟨y, cap, rfl, h1, h2, h3⟩ := h
 refine ⟨y, cap, rfl, h1, h2, h3.imp id ?_⟩
 rintro ⟨b, off, rfl, hb, hg, hc⟩
 exact ⟨b, off, rfl, hb, hg.imp (fun e => by omega) id, hc⟩
theorem aLv {s : Nat} {w : World} {B : Nat} {v : Value} {gs : List Int} (hn : gs.length <= 64) (h : w.ownsRow B tU 1 v gs.length (mG gs)) : jU s w v gs := by
 rcases gB h with ⟨rfl, h0⟩ | ⟨g, cap, rfl, h1, h2, h3, cur, hc⟩
 . exact ⟨none, 0, by rw [h0], by omega, Nat.zero_le _, .inl h0⟩
 . refine ⟨_, cap, rfl, h1, h2, .inr ⟨g, 0, rfl, h3, .inr (by rw [bM hc]; decide), fun i x hi => ?_⟩⟩
   have hil : i < gs.length := (List.getElem?_eq_some_iff.1 hi).1
   have := World.ownsRow.cellAt h i (by omega)
   rw [Nat.zero_add, this]
   unfold mG
   rw [List.getElem?_map, hi]
   rfl
section
variable {ops : Array Oper} {rest : List Oper} {o : Oper} {a : Act} {w : World} {Q : Exit -> Act -> World -> Prop}
theorem aIC (hgd : o.guard = none) (s x : Operand) (ho : o.op = .call { callee := .builtin .append, args := #[s, x], argTypes := #[23, 23] })
 {g t : Nat} {y : Option Addr} {cap : Nat} {gs : List Int} (hs : a.eval s = .slice (some ⟨g, 0, none⟩) 0 0) (hg : w.heap[g]? = some (.cells #[] tU (0, 0))) (hx : a.eval x = .slice y gs.length cap) (hG : jU t w (.slice y gs.length cap) gs) (hn : gs.length <= 64)
 (h : ∀ v' w', jU 0 w' v' gs -> aF (· = g) w w' -> wpList prog ops Q rest (a.put o.dst v') w') : wpList prog ops Q (o :: rest) a w := by
 have hgl := lt_of_block hg
 obtain ⟨y', cap', he, h1, h2, h3⟩ := hG
 cases he
 by_cases h0 : gs.length = 0
 . have hrun := sJ g y cap o.type w
   have hfin := h (.slice (some ⟨g, 0, none⟩) 0 0) w ⟨_, 0, by rw [h0], by omega, Nat.zero_le _, .inl h0⟩ (aF.refl _ _)
   rw [h0] at hx
   refine wpList_plain hgd fun K hK => ?_
   unfold Oper.wp
   simp [execOp, ho, resolve, invoke, builtin, hs, hx, hrun, Result.andThen]
   exact hK _ _ hfin
 . obtain ⟨bb, off, rfl, hb, _, hc⟩ := h3.resolve_left h0
   obtain ⟨i0, hi, hz0, hz1, hz2⟩ := info_parts aKM
   have hO : w.ownsRow 0 tU 1 (.slice (some ⟨g, 0, none⟩) 0 0) 0 [] := ⟨rfl, .inr ⟨g, 0, #[], rfl, Nat.zero_le _, hg, Nat.le_refl _, Nat.zero_le _, rfl, rfl⟩⟩
   refine wpList_append_own w hgd s x _ ho 0 tU i0 _ 1 4 underlying23 hi hz0 hz1 hz2 rfl (by decide) _ 0 [] hs hO ⟨bb, off, none⟩ gs.length cap (mG gs) hx (by unfold mG; simp) (fun j u hu => ?_) (aAs gs) (by unfold maxLen; omega) (by omega) (Nat.zero_le _) fun v' w' h5 h6 _ => ?_
   . obtain ⟨x, hxj, rfl⟩ := aAr hu
     rw [sY]
     exact hc j x hxj
   . rw [Nat.zero_add, List.nil_append] at h5
     exact h v' w' (aLv hn h5) (aF.ofGrown h6 fun k hk => by
      have : some g = some k := hk
      cases this; rfl)
end
section
variable {s n c m q : Nat} {B : Bp} {p : Pt} {gv bk ev dv : Value} {K a v : Int} {gA : Value} {gs : List Int} {N : Int} {w : World}
theorem aMd (A : Ar s n c m q B p gv bk ev dv a v gA gs N w) (hK : K = 3) (hfew : gs.length <= 64) : DoC s n c m q p bk ev dv K a v gA N w := by
 have HF := Hd (A.f K)
 have HB := Hd (A.b K)
 have HG := Hd (A.g K)
 have HA := Hd A
 clear A
 unfold DoC
 subst hK
 obtain ⟨yA, capA, rfl, _, _, hyA⟩ := HG.out
 go_enter func29, ntmps29
 go_upto_region 1 with (fail)
 rw [cU, bE, show Obj.cells #[.int .i64 3, .int .u32 a, .int .u32 v, (.slice yA gs.length capA), .int .u64 N] 78 (0, 0) = iJ 3 a v (.slice yA gs.length capA) N from rfl]
 generalize ((w.alloc (fV n p bk ev dv)).alloc (iJ 3 a v (.slice yA gs.length capA) N)).alloc cY = W at *
 have x0 := HF.out.x0
 have CG := Hd (fun w' (b : Bo s n c m w' q B p gv bk ev (dv)) (g : jU s w' (.slice yA gs.length capA) gs) => aOf q B p gv s (.slice yA gs.length capA) gs w' b.H g hfew)
 have hd := decide_eq_false (show ¬ (64 : Int) < gs.length by omega)
 have x3 := HF.out.x3
 go_upto_region 14 with (go_at_call 63; refine (CG.out _ HB.out HG.out).mono ?_; rintro e W1 ⟨rfl, gv', hL⟩; obtain ⟨C, LC⟩ := hL.lp HB.out.H HB.out.nw HB.out.sq HF.out.ss; have HF := Hd (HF.out.step LC.kq LC.lo); have HM0 := Hd (HB.out.F.M.kq LC.kq); have HG1 := Hd (HG.out.kq LC.kq LC.lo); have HLC := Hd LC; have HSB := Hd (show s <= W1.heap.size from Nat.le_trans HB.out.F.sb LC.lo.size); clear LC hL CG x3 x0)
 have x3 := HF.out.x3
 have hla := lt_of_block HF.out.a
 go_upto_region 17 with (refine aIC rfl (.tmp 97) (.tmp 99) rfl rfl (aD W1 (.cells #[] tU (0, 0))) rfl (HG1.out.below (aE (aI W1) (.cells #[] tU (0, 0)))) hfew ?_; intro v' W2 hG2 ho2; obtain ⟨yy, ll, cc, rfl⟩ := hG2.own; have hb := lH (aE (aI W1) (.cells #[] tU (0, 0))) ho2 (Nat.le_refl _) (Nat.le_refl _); have HF := Hd (HF.out.below hb); have HM0 := Hd (HM0.out.below hb); have HC := Hd (HLC.out.h.below hb); have HSB := Hd (Nat.le_trans HSB.out hb.size); have HG2 := Hd hG2; have fG := HF.out.h.free 110; have cG := HF.out.h.cG; have hlb := HF.out.h.lt; clear hb ho2 hG2 x3 hla)
 have hso := aH W2 w.heap.size 110 (.slice yy ll cc)
 have HBB := Hd (show Bo s n c (m + 1) W2 q C (p.gap' gs) gv' bk ev (.slice yy ll cc) from ⟨HC.out, HLC.out.nw, HB.out.sq, HLC.out.n.trans HB.out.en, HLC.out.c.trans HB.out.ec, HM0.out, HG2.out.up, HB.out.F.ok, HB.out.F.st, ⟨HA.out.po.td, HA.out.po.se, Nat.le_succ_of_le HA.out.po.es, Nat.le_succ_of_le HA.out.po.md, HA.out.po.s0, HA.out.po.s1, hfew, HA.out.hgs⟩, by have := HA.out.hm; omega, HSB.out⟩)
 have HB := Hd (HBB.out.offP hso HF.out.h (Nat.le_trans HF.out.sb HF.out.b0))
 have HF := Hd (show rU w (W2.setCell ⟨w.heap.size, 110, none⟩ (.slice yy ll cc)) s w.heap.size n (p.gap' gs) bk ev (.slice yy ll cc) 3 a v (.slice yA gs.length capA) N from HF.out.turn (HF.out.h.setG (.slice yy ll cc) gs) hso)
 clear hso HBB HG2 HC HM0 fG cG hlb HG1 HLC HSB
 generalize W2.setCell ⟨w.heap.size, 110, none⟩ (.slice yy ll cc) = W3 at *
 have HF := Hd (HF.out.below (jT (aI W3)))
 have HB := Hd (HB.out.below (jT (aI W3)))
 refine wp_region_held_drew (S := fun w' => QP w' w.heap.size n (p.gap' gs) bk ev (.slice yy ll cc)) (by kernel_rfl) HF.out.h (fun _ => ?_)
 generalize W3.drew = W5 at *
 refine eD (i := 0) (v := .pointer (some ⟨q, 0, none⟩)) HF.out.h ?_
 simp only [iF, iH, iG, Act.put, dG, dI, dH]
 refine sK (i := 1) (v := (.agg (pl n (p.gap' gs) bk ev (.slice yy ll cc)).toArray)) rfl (by kernel_rfl) (fun _ _ _ h => h) (fun w' hSw => aBS (.tmp 4) rfl rfl hSw) HF.out.h ?_
 simp only [iF, iH, iG, Act.put, dG, dI, dH]
 refine eD (i := 2) (v := .int .i64 0) HF.out.h ?_
 simp only [iF, iH, iG, Act.put, dG, dI, dH]
 refine eD (i := 3) (v := .bool true) HF.out.h ?_
 simp only [iF, iH, iG, Act.put, dG, dI, dH]
 refine eD (i := 4) (v := .pointer (some ⟨q, 0, none⟩)) HF.out.h ?_
 simp only [iF, iH, iG, Act.put, dG, dI, dH]
 refine oC (i := 5) (by kernel_rfl) rfl fun K hK => ?_
 refine jI rfl (.tmp 7) (.tmp 103) rfl rfl n (p.gap' gs) bk ev (.slice yy ll cc) rfl HF.out.z ⟨HB.out.F.M.one.1, HB.out.F.M.one.2, HB.out.F.G.one⟩ ?_
 intro W9 hN9 ho9
 have HX := Hd (kN HF.out HB.out ho9)
 have hS9 := (show QP W9 w.heap.size n (p.gap' gs) bk ev (.slice yy ll cc) from ho9.at HF.out.h (by omega))
 refine hK.out _ _ hS9 (fun _ => ?_)
 clear hK K ho9
 simp only [Act.put]
 refine eD (i := 6) (v := .bool true) hS9 ?_
 exact gJ
end
section
variable {s n c m q : Nat} {B : Bp} {p : Pt} {gv bk ev dv : Value} {K a v : Int} {gA : Value} {gs : List Int} {N : Int} {w : World}
theorem aOk (A : Ar s n c m q B p gv bk ev dv a v gA gs N w) (hK : K = 4) : DoC s n c m q p bk ev dv K a v gA N w := by
 have HF := Hd (A.f K)
 have HB := Hd (A.b K)
 have HG := Hd (A.g K)
 have HA := Hd A
 clear A
 unfold DoC
 subst hK
 obtain ⟨yA, capA, rfl, _, _, hyA⟩ := HG.out
 go_enter func29, ntmps29
 go_upto_region 1 with (fail)
 rw [cU, bE, show Obj.cells #[.int .i64 4, .int .u32 a, .int .u32 v, (.slice yA gs.length capA), .int .u64 N] 78 (0, 0) = iJ 4 a v (.slice yA gs.length capA) N from rfl]
 generalize ((w.alloc (fV n p bk ev dv)).alloc (iJ 4 a v (.slice yA gs.length capA) N)).alloc cY = W at *
 have x0 := HF.out.x0
 have HOK := Hd (Pt.tk_ok HA.out.po HB.out.F.st HB.out.F.hm N)
 have CB := Hd (fun w' (b : Bo s n c m w' q B p gv bk ev (dv)) => uN q B p gv w' b.H)
 have CT := Hd (fun w' (b : Bo s n c m w' q B p gv bk ev (dv)) => sZ B p.x N w' b.H.bd HA.out.n0 HA.out.n1 (by have := HA.out.el; omega))
 have RT := Hd (fun w' (M : MV w' c p.x bk ev) => aH0 n c p.x bk ev N w' M HB.out.F.ok HB.out.F.st HA.out.n0 HA.out.n1 (by have := HA.out.el; omega))
 have x4 := HF.out.x4
 have hlb := lt_of_block HF.out.a
 have hg := bJ
 go_upto_region 19 with (fail)
 refine jO 4 (by kernel_rfl) (by kernel_rfl) (by intro _ _ d _ _ h; cases d <;> exact h) ?_
 simp only [List.take_succ_cons, List.take_zero, List.drop_succ_cons, List.drop_zero]
 repeat (go_big_quiet_step (first | (go_at_call 19; exact Calls.regrown_of (CB.out _ (HB.out.below (below_regrown W _ _))))))
 refine wpQuiet_nil ?_
 intro _ hw'
 obtain ⟨⟨dq, osq⟩, hw''⟩ := hw'
 subst hw''
 have hb := below_regrown W dq osq
 have HF := Hd (HF.out.below hb)
 have HB := Hd (HB.out.below hb)
 clear hb hg x4 hlb x0 CB
 dsimp only at HF HB ⊢
 generalize grow (redrawn W dq) osq = W1 at *
 go_upto_region 20 with (go_at_call 20; refine (CT.out _ HB.out).mono ?_; rintro e W2 ⟨rfl, hL⟩; obtain ⟨C, LC⟩ := (HB.out.H.board hL).lp HB.out.H HB.out.nw HB.out.sq HF.out.ss; have HF := Hd (HF.out.step LC.kq LC.lo); have HM0 := Hd (HB.out.F.M.kq LC.kq); have HG0 := Hd (HB.out.F.G.kq LC.kq LC.lo); have HLC := Hd LC; have HBN := Hd (And.intro HB.out.en (And.intro HB.out.ec HB.out.sq)); have HSB := Hd (show s <= W2.heap.size from Nat.le_trans HB.out.F.sb LC.lo.size); clear LC hL CT HB)
 have x4 := HF.out.x4
 go_upto_region 28 with (first | (refine aGS rfl (.tmp 113) rfl rfl HF.out.h ?_) | (go_at_call 27; refine (RT.out _ HM0.out).mono ?_; rintro e W3 ⟨bk', ev', rfl, M1, hb⟩; have HF := Hd (HF.out.below hb); have HM1 := Hd M1; have HG0 := Hd (HG0.out.below hb); have HC := Hd (HLC.out.h.below hb); have HSB := Hd (Nat.le_trans HSB.out hb.size); clear hb M1 x4) | (refine aJL rfl (.tmp 118) (.tmp 117) rfl rfl (p.x.tick N) bk' ev' rfl HF.out.h HM1.out.one ?_; intro W4 hq4 ho4; have HB := Hd (show Bo s n c (m + 1) W3 q C (p.tk N) gv bk' ev' dv from ⟨HC.out, HLC.out.nw, HBN.out.2.2, HLC.out.n.trans HBN.out.1, HLC.out.c.trans HBN.out.2.1, HM1.out, HG0.out, (by have := HC.out.bd.ok; rw [HLC.out.n, HLC.out.c, HBN.out.1, HBN.out.2.1] at this; exact this), HC.out.bd.still, HOK.out, by have := HA.out.hm; omega, HSB.out⟩); have HB := Hd (HB.out.offP ho4 HF.out.h (Nat.le_trans HF.out.sb HF.out.b0)); have HF := Hd (show rU w W4 s w.heap.size n (p.tk N) bk' ev' dv 4 a v (.slice yA gs.length capA) N from HF.out.turn hq4 ho4); clear hq4 ho4 HM0 HG0 HC HM1 HSB))
 have HF := Hd (HF.out.below (jT (aI W4)))
 have HB := Hd (HB.out.below (jT (aI W4)))
 refine wp_region_held_drew (S := fun w' => QP w' w.heap.size n (p.tk N) bk' ev' dv) (by kernel_rfl) HF.out.h (fun _ => ?_)
 generalize W4.drew = W5 at *
 refine eD (i := 0) (v := .pointer (some ⟨q, 0, none⟩)) HF.out.h ?_
 simp only [iF, iH, iG, Act.put, dG, dI, dH]
 refine sK (i := 1) (v := (.agg (pl n (p.tk N) bk' ev' dv).toArray)) rfl (by kernel_rfl) (fun _ _ _ h => h) (fun w' hSw => aBS (.tmp 4) rfl rfl hSw) HF.out.h ?_
 simp only [iF, iH, iG, Act.put, dG, dI, dH]
 refine eD (i := 2) (v := .pointer (some ⟨q, 0, none⟩)) HF.out.h ?_
 simp only [iF, iH, iG, Act.put, dG, dI, dH]
 refine oC (i := 3) (by kernel_rfl) rfl fun K hK => ?_
 refine jI rfl (.tmp 7) (.tmp 148) rfl rfl n (p.tk N) bk' ev' dv rfl HF.out.z ⟨HB.out.F.M.one.1, HB.out.F.M.one.2, HB.out.F.G.one⟩ ?_
 intro W9 hN9 ho9
 have HX := Hd (kN HF.out HB.out ho9)
 have hS9 := (show QP W9 w.heap.size n (p.tk N) bk' ev' dv from ho9.at HF.out.h (by omega))
 refine hK.out _ _ hS9 (fun _ => ?_)
 clear hK K ho9
 simp only [Act.put]
 refine eD (i := 4) (v := .bool true) hS9 ?_
 exact gJ
end
section
variable {s n c m q : Nat} {B : Bp} {p : Pt} {gv bk ev dv : Value} {K a v : Int} {gA : Value} {gs : List Int} {N : Int} {w : World}
theorem aOl (A : Ar s n c m q B p gv bk ev dv a v gA gs N w) (hK : K = 5) : DoC s n c m q p bk ev dv K a v gA N w := by
 have HF := Hd (A.f K)
 have HB := Hd (A.b K)
 have HG := Hd (A.g K)
 have HA := Hd A
 clear A
 unfold DoC
 subst hK
 obtain ⟨yA, capA, rfl, _, _, hyA⟩ := HG.out
 go_enter func29, ntmps29
 go_upto_region 1 with (fail)
 rw [cU, bE, show Obj.cells #[.int .i64 5, .int .u32 a, .int .u32 v, (.slice yA gs.length capA), .int .u64 N] 78 (0, 0) = iJ 5 a v (.slice yA gs.length capA) N from rfl]
 generalize ((w.alloc (fV n p bk ev dv)).alloc (iJ 5 a v (.slice yA gs.length capA) N)).alloc cY = W at *
 have x0 := HF.out.x0
 have CB := Hd (fun w' (b : Bo s n c m w' q B p gv bk ev (dv)) => uN q B p gv w' b.H)
 have CC := Hd (fun w' (b : Bo s n c m w' q B p gv bk ev (dv)) => aK3 B p.x w' b.H.bd (by have := HA.out.el; omega))
 have CP := Hd (fun C w' (b : Bo s n c m w' q B p gv bk ev (dv)) h => aOe q B C p p.x gv w' b.H h HA.out.po.gl)
 have hP1 := Pt.stp_ok (n := B.n) (c := B.c) HA.out.po HB.out.F.st HA.out.ps HB.out.F.hm 268632072 45063
 have CS := Hd (fun w' (h : aV w' q B p gv) => aG2 q B p gv m 268632072 45063 w' h HA.out.po (by have := HA.out.hm; omega) (by decide) (by decide) (by decide) (by decide))
 obtain ⟨P1, hP⟩ : ∃ P1, p.stp B.n B.c 268632072 45063 = P1 := ⟨_, rfl⟩
 rw [hP] at hP1
 have CS := Hd (fun w' h => by have := CS.out w' h; rw [hP] at this; exact this)
 have CBt := Hd (fun ev1 w' (h : aV w' q { B with ev := ev1 } P1 gv) => aKb q { B with ev := ev1 } P1 gv (m + 1) w' h hP1 (by have := HA.out.hm; omega))
 clear hP hP1
 go_upto_region 23 with (first | (go_at_call 19; refine (CB.out _ HB.out).mono ?_; rintro e W1 ⟨rfl, hb⟩; have HF := Hd (HF.out.below hb); have HB := Hd (HB.out.below hb); clear hb) | (go_at_call 65; refine (CC.out _ HB.out).mono ?_; rintro e W2 ⟨C, rfl, h1, hb, h3, h7, h8, h9⟩; have HAP := Hd (And.intro (aE4 HB.out.H h3) (show C.new s from fun k hk => Nat.le_trans HF.out.ss (h3 k hk))); have HF := Hd (HF.out.below hb); have HB := Hd (HB.out.below hb); have HC := Hd h1; have HCE := Hd (show C.n = n /\ C.c = c from ⟨h7.trans HB.out.en, h8.trans HB.out.ec⟩); clear h1 hb h3 h7 h8 h9 CC CB) | (go_at_call 64; refine (CP.out C _ HB.out HC.out).mono ?_; rintro e W3 ⟨r, gv', rfl, hr, hp, hb⟩; have HT := Hd (aDA HB.out.H hp HAP.out.1 hb hr); have HSR := Hd (Nat.le_trans HF.out.ss hr); have HF := Hd (HF.out.below hb); have HB := Hd (HB.out.below hb); clear hr hp hb CP HC))
 have AL := Hd (fun w' (h : aV w' r C p gv') (F : Fit s n c m p bk ev dv w') => by have := aDu r C p gv' s m bk ev dv w' h (by rw [HCE.out.1, HCE.out.2]; exact F); rw [HCE.out.1] at this; exact this)
 go_upto_region 25 with (first | (refine zW (.tmp 4) rfl (by kernel_rfl) rfl HF.out.h ?_) | (go_at_call 17; refine (AL.out _ HT.out.two HB.out.F).mono ?_; rintro e W4 ⟨rfl, hb⟩; have HF := Hd (HF.out.below hb); have HB := Hd (HB.out.below hb); have HT := Hd (HT.out.below hb); clear hb AL) | (go_at_call 64; refine (aEt q _).mono ?_; rintro e W5 ⟨rfl, hb⟩; have HF := Hd (HF.out.below hb); have HB := Hd (HB.out.below hb); have HT := Hd (HT.out.below hb); clear hb))
 have HEB := Hd (And.intro HB.out.nw (And.intro HB.out.sq (And.intro HB.out.F.ok HB.out.F.st)))
 have HM0 := Hd HB.out.F.M
 have HG0 := Hd HB.out.F.G
 clear HB
 go_upto_region 26 with (go_at_call 60; refine (CS.out _ HT.out.one).mono ?_; rintro e W6 ⟨rfl, hL⟩; obtain ⟨C1, LC⟩ := hL.lp HT.out.one HEB.out.1 HEB.out.2.1 HF.out.ss; obtain ⟨ev1, T1, _, he1⟩ := HT.out.left hL; have HN1 := Hd (aA7 HEB.out.1 HF.out.ss he1); have HF := Hd (HF.out.step LC.kq LC.lo); have HM0 := Hd (HM0.out.kq LC.kq); have HG0 := Hd (HG0.out.kq LC.kq LC.lo); have HT := Hd T1; clear LC hL T1 he1 CS)
 go_upto_region 27 with (go_at_call 62; refine (CBt.out _ _ HT.out.one).mono ?_; rintro e W7 ⟨rfl, hL⟩; obtain ⟨C2, LC⟩ := hL.lp HT.out.one HN1.out HEB.out.2.1 HF.out.ss; obtain ⟨ev2, T1, _, he1⟩ := HT.out.left hL; have HF := Hd (HF.out.step LC.kq LC.lo); have HM0 := Hd (HM0.out.kq LC.kq); have HG0 := Hd (HG0.out.kq LC.kq LC.lo); have HT := Hd T1; clear LC hL T1 he1 CBt)
 have HB := Hd (show Bo s n c (m + 1) W7 r C p gv' bk ev dv from ⟨HT.out.two, HAP.out.2, HSR.out, HCE.out.1, HCE.out.2, HM0.out, HG0.out, HEB.out.2.2.1, HEB.out.2.2.2, HA.out.po.le (Nat.le_succ m), by have := HA.out.hm; omega, HF.out.ss⟩)
 have HF := Hd (HF.out.below (jT (aI W7)))
 have HB := Hd (HB.out.below (jT (aI W7)))
 refine wp_region_held_drew (S := fun w' => QP w' w.heap.size n p bk ev dv) (by kernel_rfl) HF.out.h (fun _ => ?_)
 generalize W7.drew = W8 at *
 refine eD (i := 0) (v := .pointer (some ⟨r, 0, none⟩)) HF.out.h ?_
 simp only [iF, iH, iG, Act.put, dG, dI, dH]
 refine sK (i := 1) (v := (.agg (pl n p bk ev dv).toArray)) rfl (by kernel_rfl) (fun _ _ _ h => h) (fun w' hSw => aBS (.tmp 4) rfl rfl hSw) HF.out.h ?_
 simp only [iF, iH, iG, Act.put, dG, dI, dH]
 refine eD (i := 2) (v := .pointer (some ⟨r, 0, none⟩)) HF.out.h ?_
 simp only [iF, iH, iG, Act.put, dG, dI, dH]
 refine oC (i := 3) (by kernel_rfl) rfl fun K hK => ?_
 refine jI rfl (.tmp 7) (.tmp 146) rfl rfl n p bk ev dv rfl HF.out.z ⟨HB.out.F.M.one.1, HB.out.F.M.one.2, HB.out.F.G.one⟩ ?_
 intro W9 hN9 ho9
 have HX := Hd (kN HF.out HB.out ho9)
 have hS9 := (show QP W9 w.heap.size n p bk ev dv from ho9.at HF.out.h (by omega))
 refine hK.out _ _ hS9 (fun _ => ?_)
 clear hK K ho9
 simp only [Act.put]
 refine eD (i := 4) (v := .bool true) hS9 ?_
 exact gJ
end
section
variable {s n c m q : Nat} {B : Bp} {p : Pt} {gv bk ev dv : Value} {K a v : Int} {gA : Value} {gs : List Int} {N : Int} {w : World}
theorem aOm (A : Ar s n c m q B p gv bk ev dv a v gA gs N w) (k0 : (K == 0) = false) (k1 : (K == 1) = false) (k2 : (K == 2) = false) (k3 : (K == 3) = false) (k4 : (K == 4) = false) (k5 : (K == 5) = false) : DoC s n c m q p bk ev dv K a v gA N w := by
 have HF := Hd (A.f K)
 have HB := Hd (A.b K)
 have HG := Hd (A.g K)
 have HA := Hd A
 clear A
 unfold DoC
 obtain ⟨yA, capA, rfl, _, _, hyA⟩ := HG.out
 go_enter func29, ntmps29
 go_upto_region 1 with (fail)
 rw [cU, bE, show Obj.cells #[.int .i64 K, .int .u32 a, .int .u32 v, (.slice yA gs.length capA), .int .u64 N] 78 (0, 0) = iJ K a v (.slice yA gs.length capA) N from rfl]
 generalize ((w.alloc (fV n p bk ev dv)).alloc (iJ K a v (.slice yA gs.length capA) N)).alloc cY = W at *
 have x0 := HF.out.x0
 go_upto_region 28 with (fail)
 have HF := Hd (HF.out.below (jT (aI W)))
 have HB := Hd (HB.out.below (jT (aI W)))
 have HB := Hd (HB.out.le (Nat.le_succ m) (by have := HA.out.hm; omega))
 refine wp_region_held_drew (S := fun w' => QP w' w.heap.size n p bk ev dv) (by kernel_rfl) HF.out.h (fun _ => ?_)
 generalize W.drew = W5 at *
 refine eD (i := 0) (v := .pointer (some ⟨q, 0, none⟩)) HF.out.h ?_
 simp only [iF, iH, iG, Act.put, dG, dI, dH]
 refine sK (i := 1) (v := (.agg (pl n p bk ev dv).toArray)) rfl (by kernel_rfl) (fun _ _ _ h => h) (fun w' hSw => aBS (.tmp 4) rfl rfl hSw) HF.out.h ?_
 simp only [iF, iH, iG, Act.put, dG, dI, dH]
 refine eD (i := 2) (v := .pointer (some ⟨q, 0, none⟩)) HF.out.h ?_
 simp only [iF, iH, iG, Act.put, dG, dI, dH]
 refine oC (i := 3) (by kernel_rfl) rfl fun K hK => ?_
 refine jI rfl (.tmp 7) (.tmp 148) rfl rfl n p bk ev dv rfl HF.out.z ⟨HB.out.F.M.one.1, HB.out.F.M.one.2, HB.out.F.G.one⟩ ?_
 intro W9 hN9 ho9
 have HX := Hd (kN HF.out HB.out ho9)
 have hS9 := (show QP W9 w.heap.size n p bk ev dv from ho9.at HF.out.h (by omega))
 refine hK.out _ _ hS9 (fun _ => ?_)
 clear hK K ho9
 simp only [Act.put]
 refine eD (i := 4) (v := .bool true) hS9 ?_
 exact gJ
end
section
variable {s n c m q : Nat} {B : Bp} {p : Pt} {gv bk ev dv : Value} {K a v : Int} {gA : Value} {gs : List Int} {N : Int} {w : World}
theorem aP7 (A : Ar s n c m q B p gv bk ev dv a v gA gs N w) : DoC s n c m q p bk ev dv K a v gA N w := by
 by_cases h0 : K = 0
 . exact aOh A h0
 by_cases h1 : K = 1
 . exact aOi A h1
 by_cases h2 : K = 2
 . exact aOj A h2
 by_cases h3 : K = 3
 . by_cases hl : gs.length <= 64
   . exact aMd A h3 hl
   . exact aMe A h3 (by omega)
 by_cases h4 : K = 4
 . exact aOk A h4
 by_cases h5 : K = 5
 . exact aOl A h5
 exact aOm A (by simpa using h0) (by simpa using h1) (by simpa using h2) (by simpa using h3) (by simpa using h4) (by simpa using h5)
end
structure P11 (w0 w : World) (p n c : Nat) (d : Int) (C : Bp) (y : Bx) (bk ev : Value) : Prop where
 h : bA w C y
 nw : C.new w0.heap.size
 en : C.n = n
 ec : C.c = c
 ed : C.div = d
 N : eO w p n y bk ev
 M : MV w c y bk ev
 lo : Below w0.heap.size w0 w
 hp : w0.heap.size <= p
section
variable {w0 w w' : World} {p n c : Nat} {d : Int} {C : Bp} {y : Bx} {bk ev : Value}
theorem P11.below (P : P11 w0 w p n c d C y bk ev) (hb : Below w.heap.size w w') : P11 w0 w' p n c d C y bk ev := ⟨P.h.below hb, P.nw, P.en, P.ec, P.ed, P.N.below hb, P.M.below hb, tr P.lo hb, P.hp⟩
end
theorem aFU (n c g l k lc : Nat) (x : Bx) (y : Option Addr) (y2 : Option Addr) (l2 k2 : Nat) (gs : List Int) (w : World) : (Instr.build 43 #[(0, .agg (ml n x (.slice (some ⟨g, 0, none⟩) c k) (.slice y2 l2 k2)).toArray), (1, .slice y l lc)]).run prog w = .ok (.agg (pl n ⟨x, gs, 0, 0, 0⟩ (.slice (some ⟨g, 0, none⟩) c k) (.slice y2 l2 k2) (.slice y l lc)).toArray) w := by kernel_rfl
theorem aC5 {ops : Array Oper} {rest : List Oper} {o : Oper} {a : Act} {w : World} {Q : Exit -> Act -> World -> Prop} (hgd : o.guard = none) (x y : Operand) (ho : o.op = .build 43 #[(0, x), (1, y)]) (n c g l k lc : Nat) (z : Bx) (yy : Option Addr) (y2 : Option Addr) (l2 k2 : Nat) (gs : List Int)
 (hx : a.eval x = .agg (ml n z (.slice (some ⟨g, 0, none⟩) c k) (.slice y2 l2 k2)).toArray) (hy : a.eval y = .slice yy l lc)
 (h : wpList prog ops Q rest (a.put o.dst (.agg (pl n ⟨z, gs, 0, 0, 0⟩ (.slice (some ⟨g, 0, none⟩) c k) (.slice y2 l2 k2) (.slice yy l lc)).toArray)) w) : wpList prog ops Q (o :: rest) a w :=
 wpList_plain hgd fun _ hK => by
  have hrun := aFU n c g l k lc z yy y2 l2 k2 gs w
  unfold Oper.wp execOp
  simp only [ho, List.map_toArray, List.map_cons, List.map_nil, hx, hy, Sem.run_bind, hrun, Result.andThen_ok]
  exact hK _ _ h
end Go.Proofs.YtealhichdbimlaaGreat.B
