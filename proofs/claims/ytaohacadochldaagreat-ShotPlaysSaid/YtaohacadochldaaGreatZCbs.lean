/- A part of the proof of a law of layer 12: bs. -/
import Derived.Test.YtaohacadochldaaGreatZCbr
set_option linter.unusedVariables false
set_option linter.unusedSimpArgs false
set_option maxHeartbeats 12800000
set_option maxRecDepth 100000
namespace Go.Proofs.YtaohacadochldaaGreat.B
open Go.Proofs.Tryz
open Go.ChangeShapes Go.WideShapes Go.RowKit Go.Sort
section
variable {s n c m q : Nat} {B : Bp} {p : Pt} {gv bk ev dv : Value} {K a v : Int} {gA : Value} {gs : List Int} {N : Int} {w : World}
theorem aOf (A : Ar s n c m q B p gv bk ev dv a v gA gs N w) (hK : K = 1) : DoC s n c m q p bk ev dv K a v gA N w := by
 have HF := Hd (A.f K)
 have HB := Hd (A.b K)
 have HG := Hd (A.g K)
 have HA := Hd A
 clear A
 unfold DoC
 subst hK
 obtain ⟨yA, capA, rfl, _, _, hyA⟩ := HG.out
 go_enter func15, ntmps15
 go_upto_region 1 with (fail)
 rw [cP, bH, show Obj.cells #[.int .i64 1, .int .u32 a, .int .u32 v, (.slice yA gs.length capA), .int .u64 N] 52 (0, 0) = hJ 1 a v (.slice yA gs.length capA) N from rfl]
 generalize ((w.alloc (fW n p bk ev dv)).alloc (hJ 1 a v (.slice yA gs.length capA) N)).alloc dI = W at *
 have x0 := HF.out.x0
 obtain ⟨E, hE⟩ : ∃ E, p.ste n c a v = E := ⟨_, rfl⟩
 obtain ⟨P, hP⟩ : ∃ P, p.stp n c a v = P := ⟨_, rfl⟩
 have hok := Pt.stp_ok (n := n) (c := c) HA.out.po HB.out.F.st HA.out.ps HB.out.F.hm a v
 have CS := Hd (fun w' (b : Bo s n c m w' q B p gv bk ev (dv)) => by have := aCt q B p gv m a v w' b.H b.F.po b.F.hm HA.out.a0 HA.out.a1 HA.out.v0 HA.out.v1; rw [b.en, b.ec, hE, hP] at this; exact this)
 have RS := Hd (fun w' (F : Fit s n c m p bk ev dv w') => by have := lO s n c m p bk ev dv a v HA.out.a0 HA.out.a1 HA.out.v0 HA.out.v1 w' F HA.out.hm; rw [hE, hP] at this; exact this)
 have zE := beq_self_eq_true E
 rw [hP] at hok
 have HOK := Hd hok
 have HGP := Hd (show P.gs = p.gs from hP ▸ Pt.stp_gs a v)
 clear hE hP hok
 have x1 := HF.out.x1
 have x2 := HF.out.x2
 go_upto_region 8 with (first | (refine mN rfl (.tmp 4) rfl rfl HF.out.h ?_) | (go_at_call 33; refine (RS.out _ HB.out.F).mono ?_; rintro e W1 ⟨bk', ev', rfl, M1, hb⟩; have HF := Hd (HF.out.below hb); have HB := Hd (HB.out.below hb); have HM1 := Hd M1; clear hb M1 x1 x2 x0) | (rw [bH]; refine nD rfl (.tmp 14) (.tmp 58) rfl rfl P bk' ev' dv n rfl (ZP.new W1 (aD W1 dI)) ⟨HM1.out.one.1, HM1.out.one.2, HB.out.F.G.one⟩ ?_; intro W2 hq2 ho2; have hb := lF (aE (aH W1) dI) ho2 (Nat.le_refl _) (Nat.le_refl _); have HF := Hd (HF.out.below hb); have HB := Hd (HB.out.below hb); have HM1 := Hd (HM1.out.below hb); have HN2 := Hd hq2; clear hb hq2 ho2))
 generalize W1.heap.size = r at *
 have HF := Hd (HF.out.below (jQ (aH W2)))
 have HB := Hd (HB.out.below (jQ (aH W2)))
 have HN2 := Hd (HN2.out.below (jQ (aH W2)))
 have HM1 := Hd (HM1.out.below (jQ (aH W2)))
 refine wp_region_held_drew (S := fun w' => QP w' r n P bk' ev' dv /\ w'.heap[w.heap.size + 1]? = some (hJ 1 a v (.slice yA gs.length capA) N)) (by kernel_rfl) ⟨HN2.out, HF.out.a⟩ (fun _ => ?_)
 generalize W2.drew = W3 at *
 refine cW (i := 0) (v := .pointer (some ⟨q, 0, none⟩)) ⟨HN2.out, HF.out.a⟩ ?_
 simp only [dN, dP, dO, Act.put, bN, bP, bO]
 refine qM (i := 1) (v := (.agg (pl n P bk' ev' dv).toArray)) rfl (by kernel_rfl) (fun _ _ _ h => h) (fun w' hSw => aBa (.tmp 14) rfl rfl hSw.1) ⟨HN2.out, HF.out.a⟩ ?_
 simp only [dN, dP, dO, Act.put, bN, bP, bO]
 refine cW (i := 2) (v := .pointer (some ⟨q, 0, none⟩)) ⟨HN2.out, HF.out.a⟩ ?_
 simp only [dN, dP, dO, Act.put, bN, bP, bO]
 refine cW (i := 3) (v := .pointer (some ⟨w.heap.size + 1, 1, none⟩)) ⟨HN2.out, HF.out.a⟩ ?_
 simp only [dN, dP, dO, Act.put, bN, bP, bO]
 refine qM (i := 4) (v := .int .u32 a) rfl (by kernel_rfl) (fun _ _ _ h => h) (fun w' hSw => by have c := aA hSw.2 1; simp at c; clear hSw; go_simp) ⟨HN2.out, HF.out.a⟩ ?_
 simp only [dN, dP, dO, Act.put, bN, bP, bO]
 refine cW (i := 5) (v := .pointer (some ⟨w.heap.size + 1, 2, none⟩)) ⟨HN2.out, HF.out.a⟩ ?_
 simp only [dN, dP, dO, Act.put, bN, bP, bO]
 refine qM (i := 6) (v := .int .u32 v) rfl (by kernel_rfl) (fun _ _ _ h => h) (fun w' hSw => by have c := aA hSw.2 2; simp at c; clear hSw; go_simp) ⟨HN2.out, HF.out.a⟩ ?_
 simp only [dN, dP, dO, Act.put, bN, bP, bO]
 refine cW (i := 8) (v := .int .i64 E) ⟨HN2.out, HF.out.a⟩ ?_
 simp only [dN, dP, dO, Act.put, bN, bP, bO]
 refine lU (i := 7) (by kernel_rfl) rfl fun K hK => ?_
 go_simp
 go_wp2_with (go_at_call 30; refine (CS.out _ HB.out).mono ?_; rintro e W4 ⟨rfl, hL⟩; obtain ⟨C, LC⟩ := hL.lp HB.out.H HB.out.nw HB.out.sq HF.out.ss; have HF := Hd (HF.out.step LC.kq LC.lo); have HM1 := Hd (HM1.out.kq LC.kq); have HN2 := Hd (HN2.out.kq LC.kq); have HB := Hd (show Bo s n c (m + 1) W4 q C P gv bk' ev' dv from ⟨LC.h, LC.nw, HB.out.sq, LC.n.trans HB.out.en, LC.c.trans HB.out.ec, HM1.out, by rw [HGP.out]; exact HB.out.F.G.kq LC.kq LC.lo, by have := LC.h.bd.ok; rw [LC.n, LC.c, HB.out.en, HB.out.ec] at this; exact this, LC.h.bd.still, HOK.out, by have := HA.out.hm; omega, Nat.le_trans HB.out.F.sb LC.lo.size⟩); clear LC hL)
 refine hK.out _ _ ⟨HN2.out, HF.out.a⟩ (fun _ => ?_)
 clear hK K
 refine cW (i := 9) (v := .bool true) ⟨HN2.out, HF.out.a⟩ ?_
 simp only [dN, dP, dO, Act.put, bN, bP, bO]
 refine cW (i := 10) (v := .pointer (some ⟨q, 0, none⟩)) ⟨HN2.out, HF.out.a⟩ ?_
 simp only [dN, dP, dO, Act.put, bN, bP, bO]
 refine lU (i := 11) (by kernel_rfl) rfl fun K hK => ?_
 refine jK rfl (.tmp 7) (.tmp 61) rfl rfl n P bk' ev' dv rfl HF.out.z ⟨HB.out.F.M.one.1, HB.out.F.M.one.2, HB.out.F.G.one⟩ ?_
 intro W9 hN9 ho9
 have HX := Hd (lM HF.out HB.out ho9)
 have hS9 := (show QP W9 r n P bk' ev' dv /\ W9.heap[w.heap.size + 1]? = some (hJ 1 a v (.slice yA gs.length capA) N) from ⟨uF HN2.out ho9 hN9, ho9.at HF.out.a (by omega)⟩)
 refine hK.out _ _ hS9 (fun _ => ?_)
 clear hK K ho9
 simp only [Act.put]
 refine cW (i := 12) (v := .bool true) hS9 ?_
 exact gR
end
section
variable {s n c m q : Nat} {B : Bp} {p : Pt} {gv bk ev dv : Value} {K a v : Int} {gA : Value} {gs : List Int} {N : Int} {w : World}
theorem aOg (A : Ar s n c m q B p gv bk ev dv a v gA gs N w) (hK : K = 2) : DoC s n c m q p bk ev dv K a v gA N w := by
 have HF := Hd (A.f K)
 have HB := Hd (A.b K)
 have HG := Hd (A.g K)
 have HA := Hd A
 clear A
 unfold DoC
 subst hK
 obtain ⟨yA, capA, rfl, _, _, hyA⟩ := HG.out
 go_enter func15, ntmps15
 go_upto_region 1 with (fail)
 rw [cP, bH, show Obj.cells #[.int .i64 2, .int .u32 a, .int .u32 v, (.slice yA gs.length capA), .int .u64 N] 52 (0, 0) = hJ 2 a v (.slice yA gs.length capA) N from rfl]
 generalize ((w.alloc (fW n p bk ev dv)).alloc (hJ 2 a v (.slice yA gs.length capA) N)).alloc dI = W at *
 have x0 := HF.out.x0
 obtain ⟨E, hE⟩ : ∃ E, (p.x.es.length : Int) - p.se = E := ⟨_, rfl⟩
 have CS := Hd (fun w' (b : Bo s n c m w' q B p gv bk ev (dv)) => by have := aKZ q B p gv m w' b.H b.F.po b.F.hm; rw [hE] at this; exact this)
 have RS := Hd (fun w' (F : Fit s n c m p bk ev dv w') => by have := aNz s n c m p bk ev dv w' F; rw [hE] at this; exact this)
 have zE := beq_self_eq_true E
 have HOK := Hd ((Pt.bt_ok HA.out.po).le (Nat.le_succ m))
 have HGP := Hd (show p.bt.gs = p.gs from rfl)
 clear hE
 go_upto_region 11 with (first | (refine mN rfl (.tmp 4) rfl rfl HF.out.h ?_) | (go_at_call 38; refine (RS.out _ HB.out.F).mono ?_; rintro e W1 ⟨bk', ev', rfl, M1, hb⟩; have HF := Hd (HF.out.below hb); have HB := Hd (HB.out.below hb); have HM1 := Hd M1; clear hb M1 x0) | (rw [bH]; refine nD rfl (.tmp 16) (.tmp 75) rfl rfl p.bt bk' ev' dv n rfl (ZP.new W1 (aD W1 dI)) ⟨HM1.out.one.1, HM1.out.one.2, HB.out.F.G.one⟩ ?_; intro W2 hq2 ho2; have hb := lF (aE (aH W1) dI) ho2 (Nat.le_refl _) (Nat.le_refl _); have HF := Hd (HF.out.below hb); have HB := Hd (HB.out.below hb); have HM1 := Hd (HM1.out.below hb); have HN2 := Hd hq2; clear hb hq2 ho2))
 generalize W1.heap.size = r at *
 have HF := Hd (HF.out.below (jQ (aH W2)))
 have HB := Hd (HB.out.below (jQ (aH W2)))
 have HN2 := Hd (HN2.out.below (jQ (aH W2)))
 have HM1 := Hd (HM1.out.below (jQ (aH W2)))
 refine wp_region_held_drew (S := fun w' => QP w' r n p.bt bk' ev' dv) (by kernel_rfl) HN2.out (fun _ => ?_)
 generalize W2.drew = W3 at *
 refine cW (i := 0) (v := .pointer (some ⟨q, 0, none⟩)) HN2.out ?_
 simp only [dN, dP, dO, Act.put, bN, bP, bO]
 refine qM (i := 1) (v := (.agg (pl n p.bt bk' ev' dv).toArray)) rfl (by kernel_rfl) (fun _ _ _ h => h) (fun w' hSw => aBa (.tmp 16) rfl rfl hSw) HN2.out ?_
 simp only [dN, dP, dO, Act.put, bN, bP, bO]
 refine cW (i := 2) (v := .pointer (some ⟨q, 0, none⟩)) HN2.out ?_
 simp only [dN, dP, dO, Act.put, bN, bP, bO]
 refine cW (i := 4) (v := .int .i64 E) HN2.out ?_
 simp only [dN, dP, dO, Act.put, bN, bP, bO]
 refine lU (i := 3) (by kernel_rfl) rfl fun K hK => ?_
 go_simp
 go_wp2_with (go_at_call 39; refine (CS.out _ HB.out).mono ?_; rintro e W4 ⟨rfl, hL⟩; obtain ⟨C, LC⟩ := hL.lp HB.out.H HB.out.nw HB.out.sq HF.out.ss; have HF := Hd (HF.out.step LC.kq LC.lo); have HM1 := Hd (HM1.out.kq LC.kq); have HN2 := Hd (HN2.out.kq LC.kq); have HB := Hd (show Bo s n c (m + 1) W4 q C p.bt gv bk' ev' dv from ⟨LC.h, LC.nw, HB.out.sq, LC.n.trans HB.out.en, LC.c.trans HB.out.ec, HM1.out, by rw [HGP.out]; exact HB.out.F.G.kq LC.kq LC.lo, by have := LC.h.bd.ok; rw [LC.n, LC.c, HB.out.en, HB.out.ec] at this; exact this, LC.h.bd.still, HOK.out, by have := HA.out.hm; omega, Nat.le_trans HB.out.F.sb LC.lo.size⟩); clear LC hL)
 refine hK.out _ _ HN2.out (fun _ => ?_)
 clear hK K
 refine cW (i := 5) (v := .bool true) HN2.out ?_
 simp only [dN, dP, dO, Act.put, bN, bP, bO]
 refine cW (i := 6) (v := .pointer (some ⟨q, 0, none⟩)) HN2.out ?_
 simp only [dN, dP, dO, Act.put, bN, bP, bO]
 refine lU (i := 7) (by kernel_rfl) rfl fun K hK => ?_
 refine jK rfl (.tmp 7) (.tmp 78) rfl rfl n p.bt bk' ev' dv rfl HF.out.z ⟨HB.out.F.M.one.1, HB.out.F.M.one.2, HB.out.F.G.one⟩ ?_
 intro W9 hN9 ho9
 have HX := Hd (lM HF.out HB.out ho9)
 have hS9 := (show QP W9 r n p.bt bk' ev' dv from uF HN2.out ho9 hN9)
 refine hK.out _ _ hS9 (fun _ => ?_)
 clear hK K ho9
 simp only [Act.put]
 refine cW (i := 8) (v := .bool true) hS9 ?_
 exact gR
end
section
variable {s n c m q : Nat} {B : Bp} {p : Pt} {gv bk ev dv : Value} {K a v : Int} {gA : Value} {gs : List Int} {N : Int} {w : World}
theorem aMZ (A : Ar s n c m q B p gv bk ev dv a v gA gs N w) (hK : K = 3) (hmany : 64 < gs.length) : DoC s n c m q p bk ev dv K a v gA N w := by
 have HF := Hd (A.f K)
 have HB := Hd (A.b K)
 have HG := Hd (A.g K)
 have HA := Hd A
 clear A
 unfold DoC
 subst hK
 obtain ⟨yA, capA, rfl, _, _, hyA⟩ := HG.out
 go_enter func15, ntmps15
 go_upto_region 1 with (fail)
 rw [cP, bH, show Obj.cells #[.int .i64 3, .int .u32 a, .int .u32 v, (.slice yA gs.length capA), .int .u64 N] 52 (0, 0) = hJ 3 a v (.slice yA gs.length capA) N from rfl]
 generalize ((w.alloc (fW n p bk ev dv)).alloc (hJ 3 a v (.slice yA gs.length capA) N)).alloc dI = W at *
 have x0 := HF.out.x0
 have CG := Hd (fun w' => aEp q yA gs.length capA w' hmany)
 have hd := decide_eq_true (show (64 : Int) < gs.length by omega)
 have x3 := HF.out.x3
 go_upto_region 14 with (go_at_call 40; refine (CG.out _).mono ?_; rintro e W1 ⟨rfl, hb⟩; have HF := Hd (HF.out.below hb); have HB := Hd (HB.out.below hb); clear hb x3 x0)
 have x3 := HF.out.x3
 go_upto_region 15 with (fail)
 clear x3
 have HF := Hd (HF.out.below (jQ (aH W1)))
 have HB := Hd (HB.out.below (jQ (aH W1)))
 have HB := Hd (HB.out.le (Nat.le_succ m) (by have := HA.out.hm; omega))
 refine wp_region_held_drew (S := fun w' => QP w' w.heap.size n p bk ev dv) (by kernel_rfl) HF.out.h (fun _ => ?_)
 generalize W1.drew = W5 at *
 refine cW (i := 0) (v := .pointer (some ⟨q, 0, none⟩)) HF.out.h ?_
 simp only [dN, dP, dO, Act.put, bN, bP, bO]
 refine qM (i := 1) (v := (.agg (pl n p bk ev dv).toArray)) rfl (by kernel_rfl) (fun _ _ _ h => h) (fun w' hSw => aBa (.tmp 4) rfl rfl hSw) HF.out.h ?_
 simp only [dN, dP, dO, Act.put, bN, bP, bO]
 refine cW (i := 2) (v := .int .i64 6) HF.out.h ?_
 simp only [dN, dP, dO, Act.put, bN, bP, bO]
 refine cW (i := 3) (v := .bool true) HF.out.h ?_
 simp only [dN, dP, dO, Act.put, bN, bP, bO]
 refine cW (i := 4) (v := .pointer (some ⟨q, 0, none⟩)) HF.out.h ?_
 simp only [dN, dP, dO, Act.put, bN, bP, bO]
 refine lU (i := 5) (by kernel_rfl) rfl fun K hK => ?_
 refine jK rfl (.tmp 7) (.tmp 94) rfl rfl n p bk ev dv rfl HF.out.z ⟨HB.out.F.M.one.1, HB.out.F.M.one.2, HB.out.F.G.one⟩ ?_
 intro W9 hN9 ho9
 have HX := Hd (lM HF.out HB.out ho9)
 have hS9 := (show QP W9 w.heap.size n p bk ev dv from ho9.at HF.out.h (by omega))
 refine hK.out _ _ hS9 (fun _ => ?_)
 clear hK K ho9
 simp only [Act.put]
 refine cW (i := 6) (v := .bool true) hS9 ?_
 exact gR
end
theorem aKL : (prog.info? tU).map (fun i => (i.zero, i.size, i.bytes)) = some (some (.int .u32 0), 1, 4) := by kernel_rfl
theorem sT (g : Nat) (y : Option Addr) (cap : Nat) (ty : TypeId) (w : World) : (Builtin.append_ #[22, 22] ty #[.slice (some ⟨g, 0, none⟩) 0 0, .slice y 0 cap]).run prog w = .ok (.slice (some ⟨g, 0, none⟩) 0 0) w := by
 obtain ⟨i0, hi, hz0, hz1, hz2⟩ := info_parts aKL
 cases y <;> simp [Builtin.append_, run_underlying (underlying22), sizeOf, typeInfo, hi, Builtin.lenOf, Builtin.firstCells, loadCells, loadCellsFrom, storeCells]
theorem jW.up {s : Nat} {w : World} {v : Value} {gs : List Int} (h : jW 0 w v gs) : jW s w v gs := by
 obtain ⟨y, cap, rfl, h1, h2, h3⟩ := h
 refine ⟨y, cap, rfl, h1, h2, h3.imp id ?_⟩
 rintro ⟨b, off, rfl, hb, hg, hc⟩
 exact ⟨b, off, rfl, hb, hg.imp (fun e => by omega) id, hc⟩
theorem aLr {s : Nat} {w : World} {B : Nat} {v : Value} {gs : List Int} (hn : gs.length <= 64) (h : w.ownsRow B tU 1 v gs.length (mM gs)) : jW s w v gs := by
 rcases gH h with ⟨rfl, h0⟩ | ⟨g, cap, rfl, h1, h2, h3, cur, hc⟩
 . exact ⟨none, 0, by rw [h0], by omega, Nat.zero_le _, .inl h0⟩
 . refine ⟨_, cap, rfl, h1, h2, .inr ⟨g, 0, rfl, h3, .inr (by rw [bT hc]; decide), fun i x hi => ?_⟩⟩
   have hil : i < gs.length := (List.getElem?_eq_some_iff.1 hi).1
   have := World.ownsRow.cellAt h i (by omega)
   rw [Nat.zero_add, this]
   unfold mM
   rw [List.getElem?_map, hi]
   rfl
section
variable {ops : Array Oper} {rest : List Oper} {o : Oper} {a : Act} {w : World} {Q : Exit -> Act -> World -> Prop}
theorem aIH (hgd : o.guard = none) (s x : Operand) (ho : o.op = .call { callee := .builtin .append, args := #[s, x], argTypes := #[22, 22] })
 {g t : Nat} {y : Option Addr} {cap : Nat} {gs : List Int} (hs : a.eval s = .slice (some ⟨g, 0, none⟩) 0 0) (hg : w.heap[g]? = some (.cells #[] tU (0, 0))) (hx : a.eval x = .slice y gs.length cap) (hG : jW t w (.slice y gs.length cap) gs) (hn : gs.length <= 64)
 (h : ∀ v' w', jW 0 w' v' gs -> aF (· = g) w w' -> wpList prog ops Q rest (a.put o.dst v') w') : wpList prog ops Q (o :: rest) a w := by
 have hgl := lt_of_block hg
 obtain ⟨y', cap', he, h1, h2, h3⟩ := hG
 cases he
 by_cases h0 : gs.length = 0
 . have hrun := sT g y cap o.type w
   have hfin := h (.slice (some ⟨g, 0, none⟩) 0 0) w ⟨_, 0, by rw [h0], by omega, Nat.zero_le _, .inl h0⟩ (aF.refl _ _)
   rw [h0] at hx
   refine wpList_plain hgd fun K hK => ?_
   unfold Oper.wp
   simp [execOp, ho, resolve, invoke, builtin, hs, hx, hrun, Result.andThen]
   exact hK _ _ hfin
 . obtain ⟨bb, off, rfl, hb, _, hc⟩ := h3.resolve_left h0
   obtain ⟨i0, hi, hz0, hz1, hz2⟩ := info_parts aKL
   have hO : w.ownsRow 0 tU 1 (.slice (some ⟨g, 0, none⟩) 0 0) 0 [] := ⟨rfl, .inr ⟨g, 0, #[], rfl, Nat.zero_le _, hg, Nat.le_refl _, Nat.zero_le _, rfl, rfl⟩⟩
   refine wpList_append_own w hgd s x _ ho 0 tU i0 _ 1 4 underlying22 hi hz0 hz1 hz2 rfl (by decide) _ 0 [] hs hO ⟨bb, off, none⟩ gs.length cap (mM gs) hx (by unfold mM; simp) (fun j u hu => ?_) (aA4 gs) (by unfold maxLen; omega) (by omega) (Nat.zero_le _) fun v' w' h5 h6 _ => ?_
   . obtain ⟨x, hxj, rfl⟩ := aA3 hu
     rw [tI]
     exact hc j x hxj
   . rw [Nat.zero_add, List.nil_append] at h5
     exact h v' w' (aLr hn h5) (aF.ofGrown h6 fun k hk => by
      have : some g = some k := hk
      cases this; rfl)
end
section
variable {s n c m q : Nat} {B : Bp} {p : Pt} {gv bk ev dv : Value} {K a v : Int} {gA : Value} {gs : List Int} {N : Int} {w : World}
theorem aMY (A : Ar s n c m q B p gv bk ev dv a v gA gs N w) (hK : K = 3) (hfew : gs.length <= 64) : DoC s n c m q p bk ev dv K a v gA N w := by
 have HF := Hd (A.f K)
 have HB := Hd (A.b K)
 have HG := Hd (A.g K)
 have HA := Hd A
 clear A
 unfold DoC
 subst hK
 obtain ⟨yA, capA, rfl, _, _, hyA⟩ := HG.out
 go_enter func15, ntmps15
 go_upto_region 1 with (fail)
 rw [cP, bH, show Obj.cells #[.int .i64 3, .int .u32 a, .int .u32 v, (.slice yA gs.length capA), .int .u64 N] 52 (0, 0) = hJ 3 a v (.slice yA gs.length capA) N from rfl]
 generalize ((w.alloc (fW n p bk ev dv)).alloc (hJ 3 a v (.slice yA gs.length capA) N)).alloc dI = W at *
 have x0 := HF.out.x0
 have CG := Hd (fun w' (b : Bo s n c m w' q B p gv bk ev (dv)) (g : jW s w' (.slice yA gs.length capA) gs) => aOc q B p gv s (.slice yA gs.length capA) gs w' b.H g hfew)
 have hd := decide_eq_false (show ¬ (64 : Int) < gs.length by omega)
 have x3 := HF.out.x3
 go_upto_region 14 with (go_at_call 40; refine (CG.out _ HB.out HG.out).mono ?_; rintro e W1 ⟨rfl, gv', hL⟩; obtain ⟨C, LC⟩ := hL.lp HB.out.H HB.out.nw HB.out.sq HF.out.ss; have HF := Hd (HF.out.step LC.kq LC.lo); have HM0 := Hd (HB.out.F.M.kq LC.kq); have HG1 := Hd (HG.out.kq LC.kq LC.lo); have HLC := Hd LC; have HSB := Hd (show s <= W1.heap.size from Nat.le_trans HB.out.F.sb LC.lo.size); clear LC hL CG x3 x0)
 have x3 := HF.out.x3
 have hla := lt_of_block HF.out.a
 go_upto_region 17 with (refine aIH rfl (.tmp 97) (.tmp 99) rfl rfl (aD W1 (.cells #[] tU (0, 0))) rfl (HG1.out.below (aE (aH W1) (.cells #[] tU (0, 0)))) hfew ?_; intro v' W2 hG2 ho2; obtain ⟨yy, ll, cc, rfl⟩ := hG2.own; have hb := lF (aE (aH W1) (.cells #[] tU (0, 0))) ho2 (Nat.le_refl _) (Nat.le_refl _); have HF := Hd (HF.out.below hb); have HM0 := Hd (HM0.out.below hb); have HC := Hd (HLC.out.h.below hb); have HSB := Hd (Nat.le_trans HSB.out hb.size); have HG2 := Hd hG2; have fG := HF.out.h.free 110; have cG := HF.out.h.cG; have hlb := HF.out.h.lt; clear hb ho2 hG2 x3 hla)
 have hso := aG W2 w.heap.size 110 (.slice yy ll cc)
 have HBB := Hd (show Bo s n c (m + 1) W2 q C (p.gap' gs) gv' bk ev (.slice yy ll cc) from ⟨HC.out, HLC.out.nw, HB.out.sq, HLC.out.n.trans HB.out.en, HLC.out.c.trans HB.out.ec, HM0.out, HG2.out.up, HB.out.F.ok, HB.out.F.st, ⟨HA.out.po.td, HA.out.po.se, Nat.le_succ_of_le HA.out.po.es, Nat.le_succ_of_le HA.out.po.md, HA.out.po.s0, HA.out.po.s1, hfew, HA.out.hgs⟩, by have := HA.out.hm; omega, HSB.out⟩)
 have HB := Hd (HBB.out.offP hso HF.out.h (Nat.le_trans HF.out.sb HF.out.b0))
 have HF := Hd (show qS w (W2.setCell ⟨w.heap.size, 110, none⟩ (.slice yy ll cc)) s w.heap.size n (p.gap' gs) bk ev (.slice yy ll cc) 3 a v (.slice yA gs.length capA) N from HF.out.turn (HF.out.h.setG (.slice yy ll cc) gs) hso)
 clear hso HBB HG2 HC HM0 fG cG hlb HG1 HLC HSB
 generalize W2.setCell ⟨w.heap.size, 110, none⟩ (.slice yy ll cc) = W3 at *
 have HF := Hd (HF.out.below (jQ (aH W3)))
 have HB := Hd (HB.out.below (jQ (aH W3)))
 refine wp_region_held_drew (S := fun w' => QP w' w.heap.size n (p.gap' gs) bk ev (.slice yy ll cc)) (by kernel_rfl) HF.out.h (fun _ => ?_)
 generalize W3.drew = W5 at *
 refine cW (i := 0) (v := .pointer (some ⟨q, 0, none⟩)) HF.out.h ?_
 simp only [dN, dP, dO, Act.put, bN, bP, bO]
 refine qM (i := 1) (v := (.agg (pl n (p.gap' gs) bk ev (.slice yy ll cc)).toArray)) rfl (by kernel_rfl) (fun _ _ _ h => h) (fun w' hSw => aBa (.tmp 4) rfl rfl hSw) HF.out.h ?_
 simp only [dN, dP, dO, Act.put, bN, bP, bO]
 refine cW (i := 2) (v := .int .i64 0) HF.out.h ?_
 simp only [dN, dP, dO, Act.put, bN, bP, bO]
 refine cW (i := 3) (v := .bool true) HF.out.h ?_
 simp only [dN, dP, dO, Act.put, bN, bP, bO]
 refine cW (i := 4) (v := .pointer (some ⟨q, 0, none⟩)) HF.out.h ?_
 simp only [dN, dP, dO, Act.put, bN, bP, bO]
 refine lU (i := 5) (by kernel_rfl) rfl fun K hK => ?_
 refine jK rfl (.tmp 7) (.tmp 103) rfl rfl n (p.gap' gs) bk ev (.slice yy ll cc) rfl HF.out.z ⟨HB.out.F.M.one.1, HB.out.F.M.one.2, HB.out.F.G.one⟩ ?_
 intro W9 hN9 ho9
 have HX := Hd (lM HF.out HB.out ho9)
 have hS9 := (show QP W9 w.heap.size n (p.gap' gs) bk ev (.slice yy ll cc) from ho9.at HF.out.h (by omega))
 refine hK.out _ _ hS9 (fun _ => ?_)
 clear hK K ho9
 simp only [Act.put]
 refine cW (i := 6) (v := .bool true) hS9 ?_
 exact gR
end
section
variable {s n c m q : Nat} {B : Bp} {p : Pt} {gv bk ev dv : Value} {K a v : Int} {gA : Value} {gs : List Int} {N : Int} {w : World}
theorem aOh (A : Ar s n c m q B p gv bk ev dv a v gA gs N w) (hK : K = 4) : DoC s n c m q p bk ev dv K a v gA N w := by
 have HF := Hd (A.f K)
 have HB := Hd (A.b K)
 have HG := Hd (A.g K)
 have HA := Hd A
 clear A
 unfold DoC
 subst hK
 obtain ⟨yA, capA, rfl, _, _, hyA⟩ := HG.out
 go_enter func15, ntmps15
 go_upto_region 1 with (fail)
 rw [cP, bH, show Obj.cells #[.int .i64 4, .int .u32 a, .int .u32 v, (.slice yA gs.length capA), .int .u64 N] 52 (0, 0) = hJ 4 a v (.slice yA gs.length capA) N from rfl]
 generalize ((w.alloc (fW n p bk ev dv)).alloc (hJ 4 a v (.slice yA gs.length capA) N)).alloc dI = W at *
 have x0 := HF.out.x0
 have HOK := Hd (Pt.tk_ok HA.out.po HB.out.F.st HB.out.F.hm N)
 have CB := Hd (fun w' (b : Bo s n c m w' q B p gv bk ev (dv)) => pI q B p gv w' b.H)
 have CT := Hd (fun w' (b : Bo s n c m w' q B p gv bk ev (dv)) => aFO B p.x N w' b.H.bd HA.out.n0 HA.out.n1 (by have := HA.out.el; omega))
 have RT := Hd (fun w' (M : MV w' c p.x bk ev) => aKx n c p.x bk ev N w' M HB.out.F.ok HB.out.F.st HA.out.n0 HA.out.n1 (by have := HA.out.el; omega))
 have x4 := HF.out.x4
 have hlb := lt_of_block HF.out.a
 have hg := bC
 go_upto_region 19 with (fail)
 refine cY 4 (by kernel_rfl) (by kernel_rfl) (by intro _ _ d _ _ h; cases d <;> exact h) ?_
 simp only [List.take_succ_cons, List.take_zero, List.drop_succ_cons, List.drop_zero]
 repeat (go_big_quiet_step (first | (go_at_call 20; exact Calls.regrown_of (CB.out _ (HB.out.below (below_regrown W _ _))))))
 refine wpQuiet_nil ?_
 intro _ hw'
 obtain ⟨⟨dq, osq⟩, hw''⟩ := hw'
 subst hw''
 have hb := below_regrown W dq osq
 have HF := Hd (HF.out.below hb)
 have HB := Hd (HB.out.below hb)
 clear hb hg x4 hlb x0 CB
 dsimp only at HF HB ⊢
 generalize grow (redrawn W dq) osq = W1 at *
 go_upto_region 20 with (go_at_call 41; refine (CT.out _ HB.out).mono ?_; rintro e W2 ⟨rfl, hL⟩; obtain ⟨C, LC⟩ := (HB.out.H.board hL).lp HB.out.H HB.out.nw HB.out.sq HF.out.ss; have HF := Hd (HF.out.step LC.kq LC.lo); have HM0 := Hd (HB.out.F.M.kq LC.kq); have HG0 := Hd (HB.out.F.G.kq LC.kq LC.lo); have HLC := Hd LC; have HBN := Hd (And.intro HB.out.en (And.intro HB.out.ec HB.out.sq)); have HSB := Hd (show s <= W2.heap.size from Nat.le_trans HB.out.F.sb LC.lo.size); clear LC hL CT HB)
 have x4 := HF.out.x4
 go_upto_region 28 with (first | (refine aGT rfl (.tmp 113) rfl rfl HF.out.h ?_) | (go_at_call 42; refine (RT.out _ HM0.out).mono ?_; rintro e W3 ⟨bk', ev', rfl, M1, hb⟩; have HF := Hd (HF.out.below hb); have HM1 := Hd M1; have HG0 := Hd (HG0.out.below hb); have HC := Hd (HLC.out.h.below hb); have HSB := Hd (Nat.le_trans HSB.out hb.size); clear hb M1 x4) | (refine aJL rfl (.tmp 118) (.tmp 117) rfl rfl (p.x.tick N) bk' ev' rfl HF.out.h HM1.out.one ?_; intro W4 hq4 ho4; have HB := Hd (show Bo s n c (m + 1) W3 q C (p.tk N) gv bk' ev' dv from ⟨HC.out, HLC.out.nw, HBN.out.2.2, HLC.out.n.trans HBN.out.1, HLC.out.c.trans HBN.out.2.1, HM1.out, HG0.out, (by have := HC.out.bd.ok; rw [HLC.out.n, HLC.out.c, HBN.out.1, HBN.out.2.1] at this; exact this), HC.out.bd.still, HOK.out, by have := HA.out.hm; omega, HSB.out⟩); have HB := Hd (HB.out.offP ho4 HF.out.h (Nat.le_trans HF.out.sb HF.out.b0)); have HF := Hd (show qS w W4 s w.heap.size n (p.tk N) bk' ev' dv 4 a v (.slice yA gs.length capA) N from HF.out.turn hq4 ho4); clear hq4 ho4 HM0 HG0 HC HM1 HSB))
 have HF := Hd (HF.out.below (jQ (aH W4)))
 have HB := Hd (HB.out.below (jQ (aH W4)))
 refine wp_region_held_drew (S := fun w' => QP w' w.heap.size n (p.tk N) bk' ev' dv) (by kernel_rfl) HF.out.h (fun _ => ?_)
 generalize W4.drew = W5 at *
 refine cW (i := 0) (v := .pointer (some ⟨q, 0, none⟩)) HF.out.h ?_
 simp only [dN, dP, dO, Act.put, bN, bP, bO]
 refine qM (i := 1) (v := (.agg (pl n (p.tk N) bk' ev' dv).toArray)) rfl (by kernel_rfl) (fun _ _ _ h => h) (fun w' hSw => aBa (.tmp 4) rfl rfl hSw) HF.out.h ?_
 simp only [dN, dP, dO, Act.put, bN, bP, bO]
 refine cW (i := 2) (v := .pointer (some ⟨q, 0, none⟩)) HF.out.h ?_
 simp only [dN, dP, dO, Act.put, bN, bP, bO]
 refine lU (i := 3) (by kernel_rfl) rfl fun K hK => ?_
 refine jK rfl (.tmp 7) (.tmp 148) rfl rfl n (p.tk N) bk' ev' dv rfl HF.out.z ⟨HB.out.F.M.one.1, HB.out.F.M.one.2, HB.out.F.G.one⟩ ?_
 intro W9 hN9 ho9
 have HX := Hd (lM HF.out HB.out ho9)
 have hS9 := (show QP W9 w.heap.size n (p.tk N) bk' ev' dv from ho9.at HF.out.h (by omega))
 refine hK.out _ _ hS9 (fun _ => ?_)
 clear hK K ho9
 simp only [Act.put]
 refine cW (i := 4) (v := .bool true) hS9 ?_
 exact gR
end
end Go.Proofs.YtaohacadochldaaGreat.B
