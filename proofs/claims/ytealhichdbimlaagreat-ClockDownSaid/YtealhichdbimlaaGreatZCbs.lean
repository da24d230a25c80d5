/- A part of the proof of a law of layer 12: bs. -/
import Derived.Test.YtealhichdbimlaaGreatZCbr
set_option linter.unusedVariables false
set_option linter.unusedSimpArgs false
set_option maxHeartbeats 12800000
set_option maxRecDepth 100000
namespace Go.Proofs.YtealhichdbimlaaGreat.B
open Go.Proofs.Tryz
open Go.ChangeShapes Go.WideShapes Go.RowKit Go.Sort
theorem aO0 {fn : Func} {q r : Tmp} (h : fn.results = #[.tmp r, .cell q 43]) (tmps : Array Value) (w : World) {b n : Nat} {p : Pt} {bk ev gv : Value} (y : Value) (hr : tmps[r]? = some y) (hp : tmps[q]? = some (.pointer (some ⟨b, 0, none⟩))) (hg : QP w b n p bk ev gv) :
 (results fn tmps).run prog w = .ok (.tuple #[y, .agg (pl n p bk ev gv).toArray]) w := by
 simp [results, h, hp, hr, asAddr, eR w b 0 _ _ _ _ _ (pl n p bk ev gv) hg underlying43 rfl (by rw [fY]; exact vH) (aL _)]
theorem ZP.lt2 {w : World} {r : Nat} (h : ZP w r) : r < w.heap.size := by obtain ⟨cs, h, _⟩ := h; exact lt_of_block h
def zA (T : Int) : Bx := (oN 10).tick T
theorem sM (T : Int) : zA T = { (oN 10).on T with wd := wz } := rR rfl T
theorem rC (T : Int) : (zA T).told /\ (zA T).es.length = 0 := by rw [sM]; exact ⟨rfl, rfl⟩
def aKu (len : Nat) (T : Int) (gs : List Int) (w : World) (e : Ending) (w' : World) : Prop := ∃ (k q : Nat) (B : Bp) (p : Pt) (gv bk ev dv : Value), e = .returned (.tuple #[.pointer (some ⟨q, 0, none⟩), .agg (pl 1 p bk ev dv).toArray]) /\
 Bo w.heap.size 1 1 k w' q B p gv bk ev dv /\ k <= 30 /\ Below w.heap.size w w' /\ (len = 0 -> p = ⟨zA T, gs, 0, 0, 0⟩ /\ k = 0)
theorem aCL (w : World) (T : Int) (T0 : 0 <= T) (T1 : T < 18446744073709551616) (gy : Option Addr) (gl gc : Nat) (gs : List Int) (hgn : gs.length = min gl 64) (hgc : gl <= gc) (hgb : ∀ g ∈ gs, 0 <= g /\ g < 4294967296) (hga : jU w.heap.size w (.slice gy gs.length gc) gs) (y : Option Addr) (len cap : Nat) (hy : aBu w y len cap) :
 Calls prog 7 #[.int .u64 T, .slice gy gl gc, .slice y len cap] w (aKu len T gs w) := by
 have HY := Hd hy
 have HNEW := Hd (fun w' => aJ5 1 1 10 w' (by decide) (by decide) (by decide) (by decide) (by decide) (by decide))
 have HYN := Hd (fun w' => aQG 1 1 10 w' (by decide) (by decide))
 have HYT := Hd (fun bk ev w' M ok st => aH0 1 1 (oN 10) bk ev T w' M ok st T0 T1 (by decide))
 have HBT := Hd (fun B w' (h : bA w' B (oN 10)) => sZ B (oN 10) T w' h T0 T1 (by decide))
 have HX0 := Hd (rC T)
 have HXE := Hd (show (oN 10).tick T = zA T from rfl)
 rw [HXE.out] at HYT HBT
 generalize hx13 : zA T = x0 at *
 have HX13 := Hd hx13
 clear hx13
 have HZ := Hd (show ZP (w.alloc cY) w.heap.size from ZP.new w (aD w cY))
 have HB := Hd (aE (aI w) cY)
 have hcut := aN2 gy gl gc gs.length (by omega) hgc
 have hmin : min (gl : Int) 64 = (gs.length : Int) := by omega
 have HG := Hd (hga.below (aE (aI w) cY))
 have HGB := Hd hgb
 have HGL := Hd (show gs.length <= 64 by omega)
 clear hy T0 T1 hga hgb hgn hgc
 go_enter func7, ntmps7
 go_upto_region 1 with (fail)
 rw [bE]
 generalize w.alloc cY = W at *
 go_upto_region 2 with (go_at_call 25; refine (HNEW.out _).mono ?_; rintro e w1 ⟨B, rfl, h1, hb, h3, h7, h8, h9⟩; have HH := Hd h1; have HNW := Hd (show B.new w.heap.size from fun k hk => Nat.le_trans HB.out.size (h3 k hk)); have HE := Hd (And.intro h7 h8); have HZ := Hd (HZ.out.below hb); have HG := Hd (HG.out.below hb); have HB := Hd (tr HB.out hb); clear h1 hb h3 h7 h8 h9 HNEW)
 go_upto_region 3 with (fail)
 clear hcut hmin
 go_upto_region 4 with (go_at_call 26; refine (aOg B (oN 10) w.heap.size _ gs _ HH.out (aHj 10) HG.out HGL.out).mono ?_; rintro e w2 ⟨q, gv, rfl, hq, hp, hb⟩; have HSQ := Hd (Nat.le_trans HB.out.size hq); have HP := Hd hp; have HG := Hd (HG.out.below hb); have HZ := Hd (HZ.out.below hb); have HB := Hd (tr HB.out hb); clear hq hp hb HH)
 go_upto_region 6 with (fail)
 have HO0 := Hd (show Bx.ok 1 1 (oN 10) /\ (oN 10).still by have := HP.out.bd.ok; rw [HE.out.1, HE.out.2] at this; exact ⟨this, HP.out.bd.still⟩)
 go_upto_region 7 with (go_at_call 20; refine (HBT.out B _ HP.out.bd).mono ?_; rintro e w3 ⟨rfl, hT⟩; have hL := HP.out.board hT; obtain ⟨C, LC⟩ := hL.lp HP.out HNW.out HSQ.out HB.out.size; have HP := Hd (show aV w3 q C ⟨x0, gs, 0, 0, 0⟩ gv from LC.h); have HE := Hd (And.intro (LC.n.trans HE.out.1) (LC.c.trans HE.out.2)); have HG := Hd (HG.out.kq LC.kq LC.lo); have HZ := Hd (HZ.out.kq LC.kq); have HB := Hd (HB.out.trans LC.lo); have HNW := Hd LC.nw; clear hL LC hT HBT)
 clear HXE
 go_upto_region 8 with (first
  | (go_at_call 28; refine (HYN.out _).mono ?_; rintro e w4 ⟨bk, ev, rfl, M, hb⟩; have HM0 := Hd M; have HP := Hd (HP.out.below hb); have HG := Hd (HG.out.below hb); have HZ := Hd (HZ.out.below hb); have HB := Hd (tr HB.out hb); clear M hb HYN)
  | (go_at_call 27; refine (HYT.out _ _ _ HM0.out HO0.out.1 HO0.out.2).mono ?_; rintro e w5 ⟨bk5, ev5, rfl, M, hb⟩; have hbd := M.k; obtain ⟨gk, capk, rfl, hj1⟩ := hbd; obtain ⟨ye, cape, rfl, hj2⟩ := pN M.e; clear hj1 hj2; have HM := Hd M; have HP := Hd (HP.out.below hb); have HG := Hd (HG.out.below hb); have HZ := Hd (HZ.out.below hb); have HB := Hd (tr HB.out hb); rw [HX0.out.2] at HM ⊢; clear M hb HYT HM0)
  | (refine aC5 rfl (.tmp 47) (.tmp 48) rfl 1 1 gk gs.length capk gc x0 gy ye 0 cape gs rfl rfl ?_)
  | (rw [bE]; refine kK rfl (.tmp 12) (.tmp 49) rfl rfl ⟨x0, gs, 0, 0, 0⟩ (.slice (some ⟨gk, 0, none⟩) 1 capk) (.slice ye 0 cape) (.slice gy gs.length gc) 1 rfl (ZP.new w5 (aD w5 cY)) ⟨rfl, rfl, rfl⟩ ?_; intro w6 hq6 ho6; have hb6 := aF.toBelow (aE (aI w5) cY) ho6 (fun k hk e => by omega) (Nat.le_refl _); have HQ := Hd (aEs w w5 w6 1 1 q C x0 gs gv _ _ _ HP.out HNW.out HSQ.out HE.out HM.out HG.out HB.out HX0.out HGL.out HGB.out hq6 hb6); have HR := Hd (And.intro (HZ.out.below hb6) HZ.out.lt2); clear hq6 ho6 hb6))
 clear HP HG HB HM HX0 HGL HGB HSQ HNW HE HO0 HZ
 generalize w5.heap.size = pb at *
 obtain ⟨p0, hp0⟩ : ∃ p0, (⟨x0, gs, 0, 0, 0⟩ : Pt) = p0 := ⟨_, rfl⟩
 rw [hp0] at HQ
 have HPE := Hd hp0
 clear hp0
 go_wp2_with fail
 go_loopw [10, 13] (fun l i wr => ∃ (k q : Nat) (C : Bp) (p : Pt) (gv bk ev dv : Value), k <= len /\ k <= 30 /\ i = .int .i64 k /\ l = .pointer (some ⟨q, 0, none⟩) /\ Hid (P12 w wr pb 1 1 k q C p gv bk ev dv) /\ Hid (ZP wr w.heap.size /\ w.heap.size < pb) /\ Hid (k = 0 -> p = p0)) (fun l i wr => len - (intOf i).toNat)
 case atStart => exact ⟨0, q, C, p0, gv, _, _, _, by omega, by omega, rfl, rfl, HQ, HR, Hd fun _ => rfl⟩
 case round =>
  clear HQ HR
  obtain ⟨k, q, C, p, gv, bk, ev, dv, hk, hkl, rfl, rfl, HP, HR, HK⟩ := hrel
  by_cases hlt : k < len /\ k < 30
  . obtain ⟨hlt, hlm⟩ := hlt
    rcases HY.out with hy | ⟨z, off, rfl, hlc, hcm, hbl, hz⟩
    . omega
    unfold maxLen at hcm
    obtain ⟨K, a, v, ay, al, ac, N, c0, c1, c2, c3, c4, hraw, hK, ⟨a0, a1⟩, ⟨v0, v1⟩, ⟨n0, n1⟩⟩ := hz k (by omega)
    rw [<- HP.out.lo.cell (p := ⟨z, _, none⟩) (by simpa using hbl)] at c0 c1 c2 c3 c4
    clear hz
    have hbw : z < wr.heap.size := by have := HP.out.lo.size; omega
    obtain ⟨g7, hg7⟩ : ∃ g7, min al 64 = g7 := ⟨_, rfl⟩
    have hgl7 : g7 <= al := by omega
    have hmin2 : min (al : Int) 64 = (g7 : Int) := by omega
    have hcut2 := aN2 ay al ac g7 hgl7 hraw.1
    have HRW := Hd hraw
    have HG7 := Hd hgl7
    clear hraw hg7 hgl7 hK
    go_upto_region 13 with (fail)
    rw [show Obj.cells #[.int .i64 K, .int .u32 a, .int .u32 v, .slice ay g7 ac, .int .u64 N] 78 (0, 0) = iJ K a v (.slice ay g7 ac) N from rfl]
    have HA := Hd (aD wr (iJ K a v (.slice ay g7 ac) N))
    have hb1 := aE (aI wr) (iJ K a v (.slice ay g7 ac) N)
    have HR := Hd (And.intro (HR.out.1.below hb1) HR.out.2)
    have HP := Hd (HP.out.below hb1)
    clear hb1
    generalize wr.alloc (iJ K a v (.slice ay g7 ac) N) = W1 at *
    generalize wr.heap.size = ab at *
    clear c0 c1 c2 c3 c4 hmin2 hcut2 hbw hcm hlc hbl
    obtain ⟨gsA, hgn, hgb, hga⟩ := HRW.out.gaps HP.out.lo g7 HG7.out
    subst hgn
    have HGA := Hd hga
    have HGG := Hd hgb
    have c0 : W1.cell? ⟨ab, 0, none⟩ = some (.int .i64 K) := by have := aA HA.out 0; simpa using this
    have c1 : W1.cell? ⟨ab, 1, none⟩ = some (.int .u32 a) := by have := aA HA.out 1; simpa using this
    have c2 : W1.cell? ⟨ab, 2, none⟩ = some (.int .u32 v) := by have := aA HA.out 2; simpa using this
    have c3 : W1.cell? ⟨ab, 3, none⟩ = some (.slice ay gsA.length ac) := by have := aA HA.out 3; simpa using this
    have c4 : W1.cell? ⟨ab, 4, none⟩ = some (.int .u64 N) := by have := aA HA.out 4; simpa using this
    clear hgb hga
    go_upto_region 14 with (first | (refine jN rfl (.tmp 12) rfl rfl HP.out.N ?_) | (go_at_call 29; refine (show Calls _ _ _ _ _ from aP7 ⟨HP.out.bo, by omega, HGA.out, HGG.out, n0, n1, a0, a1, v0, v1⟩).mono ?_; rintro e W2 ⟨q', C', p', gv', bk', ev', dv', rfl, hbo, hlo, hkq⟩; have HBO := Hd hbo; have HN := Hd (HP.out.N.kq hkq); have HLO := Hd (HP.out.lo.trans hlo); have HPB := Hd HP.out.hp; have HZ2 := Hd (HR.out.1.kq hkq); clear hbo hlo hkq HP c0 c1 c2 c3 c4) | (refine kK rfl (.tmp 12) (.tmp 78) rfl rfl p' bk' ev' dv' 1 rfl HN.out.z ⟨HBO.out.F.M.one.1, HBO.out.F.M.one.2, HBO.out.F.G.one⟩ ?_; intro W3 hq3 ho3; have HP := Hd (show P12 w W3 pb 1 1 (k + 1) q' C' p' gv' bk' ev' dv' from ⟨HBO.out.offP ho3 HN.out HPB.out, hq3, aF.toBelow HLO.out ho3 (fun j hj e => by have := HPB.out; omega) (Nat.le_refl _), HPB.out⟩); have HR := Hd (And.intro (HZ2.out.off ho3 (by have := HR.out.2; omega)) HR.out.2); clear hq3 ho3 HBO HN HLO HPB HZ2))
    go_wp2_with fail
    go_roundw
    case rel => exact ⟨k + 1, q', C', p', gv', bk', ev', dv', by omega, by omega, by go_num, rfl, HP, HR, Hd fun h => by omega⟩
    case measure => simp [intOf]; omega
  . have HE0 := Hd (show len = 0 -> p = ⟨x0, gs, 0, 0, 0⟩ /\ k = 0 from fun h => ⟨by rw [HPE.out]; exact HK.out (by omega), by omega⟩)
    rw [<- HX13.out] at HE0
    by_cases hlt2 : k < len
    all_goals
     go_upto_region 16 with (fail)
     refine aG 3 (by kernel_rfl) (by kernel_rfl) ?_
     simp only [List.take_succ_cons, List.take_zero, List.drop_succ_cons, List.drop_zero]
     repeat (first
      | go_big_quiet_skip
      | (go_big_quiet_want; first
       | (refine aI3 (.tmp 12) rfl rfl HP.out.N.grown ?_; go_simp; go_big_quiet_on)
       | (go_big_quiet_op; go_big_quiet_on)))
     refine wpQuiet_nil ?_
     intro _ hw'
     obtain ⟨⟨dq, osq⟩, hw''⟩ := hw'
     subst hw''
     have hbr := below_regrown wr dq osq
     have HR := Hd (HR.out.1.below hbr)
     have HP := Hd (HP.out.below hbr)
     clear hbr
     dsimp only at HP HR ⊢
     generalize grow (redrawn wr dq) osq = W9 at *
     go_wp2_with (refine kK rfl (.tmp 7) (.tmp 84) rfl rfl p bk ev dv 1 rfl HR.out ⟨HP.out.bo.F.M.one.1, HP.out.bo.F.M.one.2, HP.out.bo.F.G.one⟩ ?_; intro w10 hq10 ho10)
     have HX := Hd (aF.toBelow HP.out.lo ho10 (fun k hk e => by omega) (Nat.le_refl _))
     obtain ⟨cs, hcs, _⟩ := HR.out
     have HBO := Hd (HP.out.bo.offP ho10 hcs (Nat.le_refl _))
     exact bodyPost_ret (aO0 rfl _ _ _ rfl rfl hq10) rfl ⟨k, q, C, p, gv, bk, ev, dv, rfl, HBO.out, by omega, HX.out, HE0.out⟩
def aKv (w : World) (y : Option Addr) (len cap : Nat) : Prop := len = 0 \/ ∃ z off, ∃ zs : Nat -> Int, y = some ⟨z, off, none⟩ /\ len <= cap /\ cap <= maxLen /\ z < w.heap.size /\ ∀ i, i < cap -> w.cell? ⟨z, off + i, none⟩ = some (.int .u64 (zs i)) /\ 0 <= zs i /\ zs i < 18446744073709551616
theorem xQ {w : World} {x : Value} (h : FitsV w (.slice (.int .u64)) x) : ∃ (y : Option Addr) (len cap : Nat), x = .slice y len cap /\ aKv w y len cap := by
 obtain ⟨y, len, cap, rfl, hy⟩ := fits_ints h
 refine ⟨y, len, cap, rfl, ?_⟩
 rcases hy with hy | ⟨b, off, zs, rfl, hl, hm, hb, hz⟩
 . exact .inl hy
 refine .inr ⟨b, off, zs, rfl, hl, hm, hb, fun i hi => ?_⟩
 have := bounds_u64 (hz i hi).2
 exact ⟨(hz i hi).1, by omega, by omega⟩
structure kV (w0 w : World) (b k q : Nat) (C : Bp) (p : Pt) (gv : Value) : Prop where
 H : aV w q C p gv
 nw : C.new w0.heap.size
 sq : w0.heap.size <= q
 eb : C.b = b
 en : C.n = 1 /\ C.c = 1
 ok : p.ok k
 lo : Below w0.heap.size w0 w
section
variable {w0 w w' : World} {b k j q c : Nat} {C : Bp} {p p2 : Pt} {gv : Value} {l : Int}
theorem kV.below (S : kV w0 w b k q C p gv) (hb : Below w.heap.size w w') : kV w0 w' b k q C p gv := ⟨S.H.below hb, S.nw, S.sq, S.eb, S.en, S.ok, tr S.lo hb⟩
theorem kV.left (S : kV w0 w b k q C p gv) (L : aS q C p2 gv w w') (h : p2.ok j) : ∃ C2, kV w0 w' b j q C2 p2 gv := by
 obtain ⟨C2, LC⟩ := L.lp S.H S.nw S.sq S.lo.size
 exact ⟨C2, LC.h, LC.nw, S.sq, LC.e.trans S.eb, ⟨LC.n.trans S.en.1, LC.c.trans S.en.2⟩, h, S.lo.trans LC.lo⟩
theorem aV.offC {r : Nat} {cs : Array Value} (H : aV w q C p gv) (ho : aF (· = r) w w') (hk : w.heap[r]? = some (.cells cs tCk (0, 0))) : aV w' q C p gv :=
 ⟨ho.at H.cell (fun e => by have := H.cell; rw [e, hk] at this; cases this), H.bd.off ho (fun k hk2 e => by have := H.bd.allKd hk2; rw [e, bM hk] at this; revert this; decide), H.g.off ho fun k _ hg e => by
  rcases hg with hg | hg
  . omega
  . rw [e, bM hk] at hg; revert hg; decide⟩
theorem kV.clk (S : kV w0 w b k q C p gv) (L : aDH q C p2 gv c l w w') (h : p2.ok j) (hc : w0.heap.size <= c) : ∃ C2, kV w0 w' b j q C2 p2 gv /\ iL w' c q l := by
 rcases L with ⟨w1, L1, hk, rfl⟩ | ⟨w1, l1, L1, hk, rfl⟩
 . obtain ⟨C2, S2⟩ := S.left L1 h
   exact ⟨C2, S2, hk⟩
 . obtain ⟨C2, S2⟩ := S.left L1 h
   have ho := aH w1 c 1 (.int .u64 l)
   refine ⟨C2, ⟨S2.H.offC ho hk, S2.nw, S2.sq, S2.eb, S2.en, S2.ok, aF.toBelow S2.lo ho (fun k hk e => by omega) (Nat.le_refl _)⟩, ?_⟩
   unfold iL
   rw [aR hk]
   rfl
end
section
variable {w0 w w' : World} {b r n c s m q : Nat} {p p2 : Pt} {bk ev gv bk' ev' : Value}
theorem jA.fit (F : jA w0 w b r n c p bk ev gv s) (po : p.ok m) (ok : p.x.ok n c) (st : p.x.still) (hm : m < 4294967290) : Fit s n c m p bk ev gv w := ⟨F.M, F.G, ok, st, po, hm, Nat.le_trans F.sb F.lo.size⟩
theorem mS (hz : QP w' w.heap.size n p2 bk' ev' gv) (ho : aF (· = w.heap.size) (w.alloc cY) w') : Below w.heap.size w w' :=
 aF.toBelow (aE (aI w) cY) ho (fun k hk e => by omega) (Nat.le_refl _)
end
theorem aLT (s n c m : Nat) (p : Pt) (bk ev gv : Value) (w : World) (F : Fit s n c m p bk ev gv w) (hm : m < 4294967200) (he : p.lde n c 33603580 = 13) :
 Calls prog 10 #[.agg (pl n p bk ev gv).toArray] w (rV n c p.ldp gv (.int .u64 0) (.int .i64 13) w) := by
 have HL := Hd (fun bk ev w' F => tI s n c m p bk ev gv 33603580 (by decide) (by decide) w' F (by omega))
 rw [he] at HL
 have HF := Hd (iX w n c p bk ev gv s F.sb F.M F.G)
 have HT := Hd (fun bk ev w' (h : jA w w' w.heap.size (w.heap.size + 1) n c p bk ev gv s) => h.fit F.po F.ok F.st F.hm)
 clear F hm he
 go_enter func10, ntmps10
 go_upto_region 1 with (fail)
 rw [cU, bE]
 generalize (w.alloc (fV n p bk ev gv)).alloc cY = W at *
 generalize w.heap.size + 1 = r at *
 generalize hbn : w.heap.size = b at *
 go_upto_region 2 with (first | (refine jN rfl (.tmp 1) rfl rfl HF.out.h ?_) | (go_at_call 30; refine (HL.out _ _ _ (HT.out _ _ _ HF.out)).mono ?_; rintro e w1 ⟨bk', ev', rfl, M', hb⟩; have HM := Hd M'; have HF := Hd (HF.out.below hb); clear M' hb HL) | (refine kK rfl (.tmp 1) (.tmp 15) rfl rfl p.ldp bk' ev' gv n rfl HF.out.h.z ⟨HM.out.one.1, HM.out.one.2, HF.out.one.2.2⟩ ?_; intro w3 hq3 ho3; have HF := Hd (jA.whole (p' := p.ldp) HF.out HM.out fF hq3 ho3); clear hq3 ho3 HM))
 go_wp2_with (first | (refine jN rfl (.tmp 1) rfl rfl HF.out.h ?_) | (refine kK rfl (.tmp 2) (.tmp 20) rfl rfl p.ldp _ _ gv n rfl HF.out.z HF.out.one ?_; intro w9 hq9 ho9; have HX := Hd (fE HF.out ho9); have HQ9 := Hd hq9; clear hq9 ho9))
 exact nI
theorem jA.offN {w0 w w' : World} {b r n n3 c s nx : Nat} {p p3 : Pt} {bk ev gv bk3 ev3 gv3 : Value} (F : jA w0 w b r n c p bk ev gv s) (hN : QP w nx n3 p3 bk3 ev3 gv3) (hb : b < nx) (hr : r < nx) (ho : aF (· = nx) w w') : jA w0 w' b r n c p bk ev gv s :=
 ⟨ho.at F.h (by omega), F.z.off ho (by omega), iY F.M ho hN, nS F.G (Nat.le_trans F.sb (Nat.le_trans F.hb (Nat.le_of_lt hb))) ho hN, aF.toBelow F.lo ho (fun k hk e => by have := F.hb; omega) (Nat.le_refl _), F.hb, F.hr, F.ne, F.sb⟩
theorem ZP.lt {w : World} {r : Nat} (h : ZP w r) : r < w.heap.size := by obtain ⟨cs, h, _⟩ := h; exact lt_of_block h
theorem aLU (s n c m : Nat) (p : Pt) (bk ev gv : Value) (w : World) (F : Fit s n c m p bk ev gv w) (hm : m < 4294967200) (he : p.lde n c 33603580 = 0) (R : Rd) (hr : p.ldp.rds n c 4 (p.ldv n c 33603580) = R) :
 Calls prog 10 #[.agg (pl n p bk ev gv).toArray] w (rV n c R.p gv (.int .u64 R.v) (.int .i64 R.e) w) := by
 have HL := Hd (fun bk ev w' F => tI s n c m p bk ev gv 33603580 (by decide) (by decide) w' F (by omega))
 rw [he] at HL
 have HF := Hd (iX w n c p bk ev gv s F.sb F.M F.G)
 have HT := Hd (fun bk ev w' (h : jA w w' w.heap.size (w.heap.size + 1) n c p bk ev gv s) => h.fit F.po F.ok F.st F.hm)
 have k1 := fO F.po F.ok F.st (by omega)
 have b1 := jD (a := 33603580) F.ok F.st F.po (.inl rfl)
 have HR := Hd (show aBy n c (m + 1) 4 p.ldp (p.ldv n c 33603580) R from ⟨hr, k1.1, k1.2.1, k1.2.2, b1.1, b1.2⟩)
 clear F he hr k1 b1
 generalize p.ldv n c 33603580 = f0 at *
 go_enter func10, ntmps10
 go_upto_region 1 with (fail)
 rw [cU, bE]
 generalize (w.alloc (fV n p bk ev gv)).alloc cY = W at *
 generalize w.heap.size + 1 = r at *
 generalize hbn : w.heap.size = b at *
 clear hbn
 go_upto_region 2 with (first | (refine jN rfl (.tmp 1) rfl rfl HF.out.h ?_) | (go_at_call 30; refine (HL.out _ _ _ (HT.out _ _ _ HF.out)).mono ?_; rintro e w1 ⟨bk', ev', rfl, M', hb⟩; have HM := Hd M'; have HF := Hd (HF.out.below hb); clear M' hb HL HT) | (refine kK rfl (.tmp 1) (.tmp 15) rfl rfl p.ldp bk' ev' gv n rfl HF.out.h.z ⟨HM.out.one.1, HM.out.one.2, HF.out.one.2.2⟩ ?_; intro w3 hq3 ho3; have HF := Hd (jA.whole (p' := p.ldp) HF.out HM.out fF hq3 ho3); clear hq3 ho3 HM))
 generalize p.ldp = p1 at *
 go_wp2_with fail
 go_loopw [5, 7] (fun u i wr => ∃ (k : Nat) (f : Int) (p' : Pt) (bk ev : Value), k <= 4 /\ i = .int .i64 k /\ u = .int .u32 f /\ Hid (aBy n c (m + 1 + 2 * k) (4 - k) p' f R) /\ Hid (jA w wr b r n c p' bk ev gv s)) (fun u i wr => 4 - (intOf i).toNat)
 case atStart => exact ⟨0, f0, p1, _, _, by omega, rfl, rfl, HR, HF⟩
 case round =>
  clear HR HF
  obtain ⟨k, f, p', bk, ev, hk, rfl, rfl, HR, HF⟩ := hrel
  by_cases hlt : k < 4
  . obtain ⟨j, hj⟩ : ∃ j, 4 - k = j + 1 := ⟨3 - k, by omega⟩
    rw [hj] at HR
    have HT1 := Hd (fun bk ev w' (h : jA w w' b r n c p' bk ev gv s) => h.fit HR.out.po HR.out.ok HR.out.st (by omega))
    have HL1 := Hd (fun bk ev w' F => tI s n c (m + 1 + 2 * k) p' bk ev gv 33603576 (by decide) (by decide) w' F (by omega))
    rcases jY (n := n) (c := c) (p := p') (a := 33603576) (.inr rfl) with e1 | e1
    . obtain ⟨V, hV⟩ : ∃ V, p'.ldv n c 33603576 = V := ⟨_, rfl⟩
      obtain ⟨V2, hV2⟩ : ∃ V2, p'.ldp.ldv n c 33603580 = V2 := ⟨_, rfl⟩
      have b1 := jD (a := 33603576) HR.out.ok HR.out.st HR.out.po (.inr rfl)
      rw [hV] at b1
      have HVB := Hd b1
      have HFB := Hd (And.intro HR.out.f0 HR.out.f1)
      have k2 := fO HR.out.po HR.out.ok HR.out.st (by omega)
      have HT2 := Hd (fun bk ev w' (h : jA w w' b r n c p'.ldp bk ev gv s) => h.fit k2.1 k2.2.1 k2.2.2 (by omega))
      have HL2 := Hd (fun bk ev w' F => tI s n c (m + 1 + 2 * k + 1) p'.ldp bk ev gv 33603580 (by decide) (by decide) w' F (by omega))
      rw [e1, hV] at HL1
      rw [hV2] at HL2
      clear b1 k2
      rcases jY (n := n) (c := c) (p := p'.ldp) (a := 33603580) (.inl rfl) with e2 | e2
      . rw [e2] at HL2
        by_cases hf : f = V2
        . have er : R = ⟨p'.ldp.ldp, bQ f V, 0⟩ := by rw [<- HR.out.e, Pt.rds, if_pos e1, if_pos e2, hV2, if_pos hf, hV]
          subst er
          clear HR hV hV2 e1 e2
          subst hf
          have hff : (f == f) = true := beq_self_eq_true f
          go_upto_region 9 with (first
           | (refine jN rfl (.tmp 1) rfl rfl HF.out.h ?_)
           | (go_at_call 30; refine (HL1.out _ _ _ (HT1.out _ _ _ HF.out)).mono ?_; rintro e w4 ⟨bk4, ev4, rfl, M4, hb⟩; have HM := Hd M4; have HF := Hd (HF.out.below hb); have HNB := Hd (And.intro HF.out.h.lt HF.out.z.lt); clear M4 hb HL1)
           | (rw [bE]; refine kK rfl (.tmp 8) (.tmp 29) rfl rfl p'.ldp bk4 ev4 gv n rfl (ZP.new w4 (aD w4 cY)) ⟨HM.out.one.1, HM.out.one.2, HF.out.one.2.2⟩ ?_; intro w5 hq5 ho5; have hb5 := mS hq5 ho5; have HN := Hd hq5; have HM := Hd (HM.out.below hb5); have HF := Hd (HF.out.below hb5); clear hq5 ho5 hb5)
           | (refine jN rfl (.tmp 8) rfl rfl HN.out ?_)
           | (refine kK rfl (.tmp 1) (.tmp 32) rfl rfl p'.ldp bk4 ev4 gv n rfl HF.out.h.z ⟨HM.out.one.1, HM.out.one.2, HF.out.one.2.2⟩ ?_; intro w6 hq6 ho6; have HN := Hd (show QP w6 w4.heap.size n p'.ldp bk4 ev4 gv from ho6.at HN.out (by have := HNB.out.1; omega)); have HF := Hd (jA.whole (p' := p'.ldp) HF.out HM.out fF hq6 ho6); clear hq6 ho6 HM))
          go_upto_region 13 with (first
           | (refine jN rfl (.tmp 1) rfl rfl HF.out.h ?_)
           | (go_at_call 30; refine (HL2.out _ _ _ (HT2.out _ _ _ HF.out)).mono ?_; rintro e w7 ⟨bk7, ev7, rfl, M7, hb⟩; have HM := Hd M7; have HN := Hd (HN.out.below hb); have HF := Hd (HF.out.below hb); clear M7 hb HL2)
           | (refine kK rfl (.tmp 8) (.tmp 40) rfl rfl p'.ldp.ldp bk7 ev7 gv n rfl HN.out.z ⟨HM.out.one.1, HM.out.one.2, HF.out.one.2.2⟩ ?_; intro w8 hq8 ho8; have HM := Hd (iY HM.out ho8 HN.out); have HF := Hd (HF.out.offN HN.out HNB.out.1 HNB.out.2 ho8); have HN := Hd hq8; clear hq8 ho8)
           | (refine jN rfl (.tmp 8) rfl rfl HN.out ?_)
           | (refine kK rfl (.tmp 1) (.tmp 43) rfl rfl p'.ldp.ldp bk7 ev7 gv n rfl HF.out.h.z ⟨HM.out.one.1, HM.out.one.2, HF.out.one.2.2⟩ ?_; intro w9 hq9 ho9; have HF := Hd (jA.whole (p' := p'.ldp.ldp) HF.out HM.out fF hq9 ho9); clear hq9 ho9 HM HN))
          go_upto_region 16 with (fail)
          refine aG 4 (by kernel_rfl) (by kernel_rfl) ?_
          simp only [List.take_succ_cons, List.take_zero, List.drop_succ_cons, List.drop_zero]
          repeat (first
           | go_big_quiet_skip
           | (go_big_quiet_want; first
            | (refine aI3 (.tmp 1) rfl rfl HF.out.h.grown ?_; go_simp; go_big_quiet_on)
            | (go_big_quiet_op; first | go_big_quiet_on | go_big_quiet_call (first | (go_at_call 31; exact Calls.regrown_of ((aBJ f V _ HFB.out.1 HFB.out.2 HVB.out.1 HVB.out.2).mono fun _ _ h => ⟨h.1, h.2 ▸ aI _⟩))))))
          refine wpQuiet_nil ?_
          intro _ hw'
          obtain ⟨⟨dq, osq⟩, hw''⟩ := hw'
          subst hw''
          have HF := Hd (HF.out.below (below_regrown _ dq osq))
          dsimp only at HF ⊢
          generalize grow (redrawn _ dq) osq = W9 at *
          go_wp2_with (first | (refine jN rfl (.tmp 1) rfl rfl HF.out.h ?_) | (refine kK rfl (.tmp 2) (.tmp 51) rfl rfl (p'.ldp.ldp) _ _ gv n rfl HF.out.z HF.out.one ?_; intro w10 hq10 ho10; have HX := Hd (fE HF.out ho10); have HQ10 := Hd hq10; clear hq10 ho10))
          exact bodyPost_ret (aBP rfl _ _ _ _ rfl rfl rfl HQ10.out) rfl ⟨_, _, rfl, HX.out⟩
        . have HNX := Hd (HR.out.next (by omega) e1 e2 (by rw [hV2]; exact hf))
          rw [hV2] at HNX
          clear HR hV hV2 e1 e2
          have hff : (f == V2) = false := by simp; omega
          clear hf
          go_upto_region 9 with (first
           | (refine jN rfl (.tmp 1) rfl rfl HF.out.h ?_)
           | (go_at_call 30; refine (HL1.out _ _ _ (HT1.out _ _ _ HF.out)).mono ?_; rintro e w4 ⟨bk4, ev4, rfl, M4, hb⟩; have HM := Hd M4; have HF := Hd (HF.out.below hb); have HNB := Hd (And.intro HF.out.h.lt HF.out.z.lt); clear M4 hb HL1)
           | (rw [bE]; refine kK rfl (.tmp 8) (.tmp 29) rfl rfl p'.ldp bk4 ev4 gv n rfl (ZP.new w4 (aD w4 cY)) ⟨HM.out.one.1, HM.out.one.2, HF.out.one.2.2⟩ ?_; intro w5 hq5 ho5; have hb5 := mS hq5 ho5; have HN := Hd hq5; have HM := Hd (HM.out.below hb5); have HF := Hd (HF.out.below hb5); clear hq5 ho5 hb5)
           | (refine jN rfl (.tmp 8) rfl rfl HN.out ?_)
           | (refine kK rfl (.tmp 1) (.tmp 32) rfl rfl p'.ldp bk4 ev4 gv n rfl HF.out.h.z ⟨HM.out.one.1, HM.out.one.2, HF.out.one.2.2⟩ ?_; intro w6 hq6 ho6; have HN := Hd (show QP w6 w4.heap.size n p'.ldp bk4 ev4 gv from ho6.at HN.out (by have := HNB.out.1; omega)); have HF := Hd (jA.whole (p' := p'.ldp) HF.out HM.out fF hq6 ho6); clear hq6 ho6 HM))
          go_upto_region 13 with (first
           | (refine jN rfl (.tmp 1) rfl rfl HF.out.h ?_)
           | (go_at_call 30; refine (HL2.out _ _ _ (HT2.out _ _ _ HF.out)).mono ?_; rintro e w7 ⟨bk7, ev7, rfl, M7, hb⟩; have HM := Hd M7; have HN := Hd (HN.out.below hb); have HF := Hd (HF.out.below hb); clear M7 hb HL2)
           | (refine kK rfl (.tmp 8) (.tmp 40) rfl rfl p'.ldp.ldp bk7 ev7 gv n rfl HN.out.z ⟨HM.out.one.1, HM.out.one.2, HF.out.one.2.2⟩ ?_; intro w8 hq8 ho8; have HM := Hd (iY HM.out ho8 HN.out); have HF := Hd (HF.out.offN HN.out HNB.out.1 HNB.out.2 ho8); have HN := Hd hq8; clear hq8 ho8)
           | (refine jN rfl (.tmp 8) rfl rfl HN.out ?_)
           | (refine kK rfl (.tmp 1) (.tmp 43) rfl rfl p'.ldp.ldp bk7 ev7 gv n rfl HF.out.h.z ⟨HM.out.one.1, HM.out.one.2, HF.out.one.2.2⟩ ?_; intro w9 hq9 ho9; have HF := Hd (jA.whole (p' := p'.ldp.ldp) HF.out HM.out fF hq9 ho9); clear hq9 ho9 HM HN))
          go_wp2_with fail
          go_roundw
          case rel => exact ⟨k + 1, V2, p'.ldp.ldp, bk7, ev7, by omega, by go_num, rfl, (by rw [show 4 - (k + 1) = j by omega, show m + 1 + 2 * (k + 1) = m + 1 + 2 * k + 2 by omega]; exact HNX), HF⟩
          case measure => simp [intOf]; omega
      . have er : R = ⟨p'.ldp.ldp, 0, 13⟩ := by rw [<- HR.out.e, Pt.rds, if_pos e1, e2, if_neg (by decide)]
        rw [e2] at HL2
        subst er
        clear HR hV hV2 e1 e2
        go_upto_region 9 with (first
         | (refine jN rfl (.tmp 1) rfl rfl HF.out.h ?_)
         | (go_at_call 30; refine (HL1.out _ _ _ (HT1.out _ _ _ HF.out)).mono ?_; rintro e w4 ⟨bk4, ev4, rfl, M4, hb⟩; have HM := Hd M4; have HF := Hd (HF.out.below hb); have HNB := Hd (And.intro HF.out.h.lt HF.out.z.lt); clear M4 hb HL1)
         | (rw [bE]; refine kK rfl (.tmp 8) (.tmp 29) rfl rfl p'.ldp bk4 ev4 gv n rfl (ZP.new w4 (aD w4 cY)) ⟨HM.out.one.1, HM.out.one.2, HF.out.one.2.2⟩ ?_; intro w5 hq5 ho5; have hb5 := mS hq5 ho5; have HN := Hd hq5; have HM := Hd (HM.out.below hb5); have HF := Hd (HF.out.below hb5); clear hq5 ho5 hb5)
         | (refine jN rfl (.tmp 8) rfl rfl HN.out ?_)
         | (refine kK rfl (.tmp 1) (.tmp 32) rfl rfl p'.ldp bk4 ev4 gv n rfl HF.out.h.z ⟨HM.out.one.1, HM.out.one.2, HF.out.one.2.2⟩ ?_; intro w6 hq6 ho6; have HN := Hd (show QP w6 w4.heap.size n p'.ldp bk4 ev4 gv from ho6.at HN.out (by have := HNB.out.1; omega)); have HF := Hd (jA.whole (p' := p'.ldp) HF.out HM.out fF hq6 ho6); clear hq6 ho6 HM))
        go_upto_region 13 with (first
         | (refine jN rfl (.tmp 1) rfl rfl HF.out.h ?_)
         | (go_at_call 30; refine (HL2.out _ _ _ (HT2.out _ _ _ HF.out)).mono ?_; rintro e w7 ⟨bk7, ev7, rfl, M7, hb⟩; have HM := Hd M7; have HN := Hd (HN.out.below hb); have HF := Hd (HF.out.below hb); clear M7 hb HL2)
         | (refine kK rfl (.tmp 8) (.tmp 40) rfl rfl p'.ldp.ldp bk7 ev7 gv n rfl HN.out.z ⟨HM.out.one.1, HM.out.one.2, HF.out.one.2.2⟩ ?_; intro w8 hq8 ho8; have HM := Hd (iY HM.out ho8 HN.out); have HF := Hd (HF.out.offN HN.out HNB.out.1 HNB.out.2 ho8); have HN := Hd hq8; clear hq8 ho8)
         | (refine jN rfl (.tmp 8) rfl rfl HN.out ?_)
         | (refine kK rfl (.tmp 1) (.tmp 43) rfl rfl p'.ldp.ldp bk7 ev7 gv n rfl HF.out.h.z ⟨HM.out.one.1, HM.out.one.2, HF.out.one.2.2⟩ ?_; intro w9 hq9 ho9; have HF := Hd (jA.whole (p' := p'.ldp.ldp) HF.out HM.out fF hq9 ho9); clear hq9 ho9 HM HN))
        go_wp2_with (first | (refine jN rfl (.tmp 1) rfl rfl HF.out.h ?_) | (refine kK rfl (.tmp 2) (.tmp 46) rfl rfl (p'.ldp.ldp) _ _ gv n rfl HF.out.z HF.out.one ?_; intro w10 hq10 ho10; have HX := Hd (fE HF.out ho10); have HQ10 := Hd hq10; clear hq10 ho10))
        exact bodyPost_ret (aBP rfl _ _ _ _ rfl rfl rfl HQ10.out) rfl ⟨_, _, rfl, HX.out⟩
    . have er : R = ⟨p'.ldp, 0, 13⟩ := by rw [<- HR.out.e, Pt.rds, e1, if_neg (by decide)]
      rw [e1] at HL1
      subst er
      clear HR e1
      go_upto_region 9 with (first
       | (refine jN rfl (.tmp 1) rfl rfl HF.out.h ?_)
       | (go_at_call 30; refine (HL1.out _ _ _ (HT1.out _ _ _ HF.out)).mono ?_; rintro e w4 ⟨bk4, ev4, rfl, M4, hb⟩; have HM := Hd M4; have HF := Hd (HF.out.below hb); have HNB := Hd (And.intro HF.out.h.lt HF.out.z.lt); clear M4 hb HL1)
       | (rw [bE]; refine kK rfl (.tmp 8) (.tmp 29) rfl rfl p'.ldp bk4 ev4 gv n rfl (ZP.new w4 (aD w4 cY)) ⟨HM.out.one.1, HM.out.one.2, HF.out.one.2.2⟩ ?_; intro w5 hq5 ho5; have hb5 := mS hq5 ho5; have HN := Hd hq5; have HM := Hd (HM.out.below hb5); have HF := Hd (HF.out.below hb5); clear hq5 ho5 hb5)
       | (refine jN rfl (.tmp 8) rfl rfl HN.out ?_)
       | (refine kK rfl (.tmp 1) (.tmp 32) rfl rfl p'.ldp bk4 ev4 gv n rfl HF.out.h.z ⟨HM.out.one.1, HM.out.one.2, HF.out.one.2.2⟩ ?_; intro w6 hq6 ho6; have HN := Hd (show QP w6 w4.heap.size n p'.ldp bk4 ev4 gv from ho6.at HN.out (by have := HNB.out.1; omega)); have HF := Hd (jA.whole (p' := p'.ldp) HF.out HM.out fF hq6 ho6); clear hq6 ho6 HM))
      go_wp2_with (first | (refine jN rfl (.tmp 1) rfl rfl HF.out.h ?_) | (refine kK rfl (.tmp 2) (.tmp 35) rfl rfl (p'.ldp) _ _ gv n rfl HF.out.z HF.out.one ?_; intro w10 hq10 ho10; have HX := Hd (fE HF.out ho10); have HQ10 := Hd hq10; clear hq10 ho10))
      exact bodyPost_ret (aBP rfl _ _ _ _ rfl rfl rfl HQ10.out) rfl ⟨_, _, rfl, HX.out⟩
  . obtain rfl : k = 4 := by omega
    have er : R = ⟨p', bQ f 0, 0⟩ := HR.out.e.symm
    have HFB := Hd (And.intro HR.out.f0 HR.out.f1)
    have HVB := Hd (show (0 : Int) <= 0 /\ (0 : Int) < 4294967296 by decide)
    subst er
    clear HR
    go_upto_region 18 with (fail)
    refine aG 3 (by kernel_rfl) (by kernel_rfl) ?_
    simp only [List.take_succ_cons, List.take_zero, List.drop_succ_cons, List.drop_zero]
    repeat (first
     | go_big_quiet_skip
     | (go_big_quiet_want; first
      | (refine aI3 (.tmp 1) rfl rfl HF.out.h.grown ?_; go_simp; go_big_quiet_on)
      | (go_big_quiet_op; first | go_big_quiet_on | go_big_quiet_call (first | (go_at_call 31; exact Calls.regrown_of ((aBJ f 0 _ HFB.out.1 HFB.out.2 HVB.out.1 HVB.out.2).mono fun _ _ h => ⟨h.1, h.2 ▸ aI _⟩))))))
    refine wpQuiet_nil ?_
    intro _ hw'
    obtain ⟨⟨dq, osq⟩, hw''⟩ := hw'
    subst hw''
    have HF := Hd (HF.out.below (below_regrown _ dq osq))
    dsimp only at HF ⊢
    generalize grow (redrawn _ dq) osq = W9 at *
    go_wp2_with (first | (refine jN rfl (.tmp 1) rfl rfl HF.out.h ?_) | (refine kK rfl (.tmp 2) (.tmp 56) rfl rfl (p') _ _ gv n rfl HF.out.z HF.out.one ?_; intro w10 hq10 ho10; have HX := Hd (fE HF.out ho10); have HQ10 := Hd hq10; clear hq10 ho10))
    exact bodyPost_ret (aBP rfl _ _ _ _ rfl rfl rfl HQ10.out) rfl ⟨_, _, rfl, HX.out⟩
theorem aN6 (s n c m : Nat) (p : Pt) (bk ev gv : Value) (w : World) (F : Fit s n c m p bk ev gv w) (hm : m < 4294967200) :
 Calls prog 10 #[.agg (pl n p bk ev gv).toArray] w (rV n c (p.rd n c).p gv (.int .u64 (p.rd n c).v) (.int .i64 (p.rd n c).e) w) := by
 rcases jY (n := n) (c := c) (p := p) (a := 33603580) (.inl rfl) with h | h
 . have e : p.rd n c = p.ldp.rds n c 4 (p.ldv n c 33603580) := by unfold Pt.rd; rw [if_pos h]
   exact aLU s n c m p bk ev gv w F hm h _ e.symm
 . have e : p.rd n c = ⟨p.ldp, 0, 13⟩ := by unfold Pt.rd; rw [h, if_neg (by decide)]
   rw [e]
   exact aLT s n c m p bk ev gv w F hm h
structure pF (w0 w : World) (mb k q : Nat) (C : Bp) (p : Pt) (gv bk ev dv : Value) (ck : Nat) (l : Int) : Prop where
 P : P12 w0 w mb 1 1 k q C p gv bk ev dv
 K : iL w ck q l
 hc : w0.heap.size <= ck
structure vG (w0 w : World) (mb k q : Nat) (C : Bp) (p : Pt) (gv bk ev dv : Value) (ck : Nat) (l : Int) : Prop where
 H : aV w q C p gv
 nw : C.new w0.heap.size
 sq : w0.heap.size <= q
 en : C.n = 1
 ec : C.c = 1
 po : p.ok k
 N : QP w mb 1 (p.rd 1 1).p bk ev dv
 M : MV w 1 (p.rd 1 1).p.x bk ev
 G : jU w0.heap.size w dv p.gs
 K : iL w ck q l
 lo : Below w0.heap.size w0 w
 hp : w0.heap.size <= mb
 hc : w0.heap.size <= ck
section
variable {w0 w w' : World} {mb k q ck : Nat} {C : Bp} {p : Pt} {gv bk ev dv bk' ev' : Value} {l l' : Int}
theorem pF.below (h : pF w0 w mb k q C p gv bk ev dv ck l) (hb : Below w.heap.size w w') : pF w0 w' mb k q C p gv bk ev dv ck l := ⟨h.P.below hb, aC hb h.K (lt_of_block h.K), h.hc⟩
theorem pF.mid (h : pF w0 w mb k q C p gv bk ev dv ck l) (M : MV w 1 (p.rd 1 1).p.x bk' ev') (hq : QP w' mb 1 (p.rd 1 1).p bk' ev' dv) (ho : aF (· = mb) w w') : vG w0 w' mb k q C p gv bk' ev' dv ck l :=
 ⟨h.P.bo.H.offk ho h.P.N (by decide) rfl (by decide), h.P.bo.nw, h.P.bo.sq, h.P.bo.en, h.P.bo.ec, h.P.bo.F.po, hq, iY M ho h.P.N, nS h.P.bo.F.G h.P.hp ho h.P.N, ho.at h.K (fun e => by have h1 := h.K; rw [iL, e] at h1; have h2 := h.P.N; rw [QP, h1] at h2; cases h2), aF.toBelow h.P.lo ho (fun j hj e => by have := h.P.hp; omega) (Nat.le_refl _), h.P.hp, h.hc⟩
theorem vG.left (h : vG w0 w mb k q C p gv bk ev dv ck l) (L : aS q C (p.rd 1 1).p gv w w') (hk : k < 4294967000) : ∃ C2, pF w0 w' mb (k + 9) q C2 (p.rd 1 1).p gv bk ev dv ck l := by
 have hok : p.x.ok 1 1 := by have := h.H.bd.ok; rw [h.en, h.ec] at this; exact this
 have r := sC (n := 1) (c := 1) h.po hok h.H.bd.still (by omega)
 obtain ⟨C2, LC⟩ := L.lp h.H h.nw h.sq h.lo.size
 exact ⟨C2, ⟨⟨LC.h, LC.nw, h.sq, LC.n.trans h.en, LC.c.trans h.ec, ⟨h.M.kq LC.kq, by rw [r.gs]; exact h.G.kq LC.kq LC.lo, r.ok, r.st, r.po, by omega, Nat.le_trans h.lo.size LC.lo.size⟩⟩, h.N.kq LC.kq, h.lo.trans LC.lo, h.hp⟩, LC.kq _ _ _ _ h.K (by decide) rfl, h.hc⟩
theorem aIr {c : Nat} {x : Bx} {cs : Array Value} (M : MV w c x bk ev) (ho : aF (· = ck) w w') (h : w.heap[ck]? = some (.cells cs tCk (0, 0))) : MV w' c x bk ev := by
 exact wA
theorem pF.set (h : pF w0 w mb k q C p gv bk ev dv ck l) : pF w0 (w.setCell ⟨ck, 1, none⟩ (.int .u64 l')) mb k q C p gv bk ev dv ck l' := by
 have ho := aH w ck 1 (.int .u64 l')
 have hk := h.K
 refine ⟨⟨⟨h.P.bo.H.offC ho hk, h.P.bo.nw, h.P.bo.sq, h.P.bo.en, h.P.bo.ec, ⟨aIr h.P.bo.F.M ho hk, h.P.bo.F.G.off ho (fun j _ hg e => ?_), h.P.bo.F.ok, h.P.bo.F.st, h.P.bo.F.po, h.P.bo.F.hm, Nat.le_trans h.P.bo.F.sb ho.size⟩⟩, ho.at h.P.N (fun e => ?_), aF.toBelow h.P.lo ho (fun j hj e => ?_) (Nat.le_refl _), h.P.hp⟩, ?_, h.hc⟩
 . have hc := h.hc
   rcases hg with hg | hg
   . omega
   . rw [e, bM hk] at hg; revert hg; decide
 . have h2 := h.P.N; rw [QP, e, hk] at h2; cases h2
 . have hc := h.hc; omega
 . unfold iL
   rw [aR hk]
   rfl
theorem vG.clk (h : vG w0 w mb k q C p gv bk ev dv ck l) (L : aDH q C (p.rd 1 1).p gv ck l' w w') (hk : k < 4294967000) : ∃ C2, pF w0 w' mb (k + 9) q C2 (p.rd 1 1).p gv bk ev dv ck l' := by
 rcases L with ⟨w1, L1, h1, rfl⟩ | ⟨w1, l1, L1, h1, rfl⟩
 . obtain ⟨C2, r⟩ := h.left L1 hk
   exact ⟨C2, r.P, h1, r.hc⟩
 . obtain ⟨C2, r⟩ := h.left L1 hk
   exact ⟨C2, r.set⟩
theorem vG.cRead (h : vG w0 w mb k q C p gv bk ev dv ck l) (hk : k < 4294967000) {v e : Int} (hv : (p.rd 1 1).v = v) (he : (p.rd 1 1).e = e) :
 Calls prog 11 #[.pointer (some ⟨q, 0, none⟩)] w fun r w' => r = .returned (.tuple #[.int .u64 v, .int .i64 e]) /\ ∃ C2, pF w0 w' mb (k + 9) q C2 (p.rd 1 1).p gv bk ev dv ck l := by
 have c := tE q C p gv k w h.H h.po (by omega)
 rw [h.en, h.ec, hv, he] at c
 exact c.mono fun r w' ⟨hr, L⟩ => ⟨hr, h.left L hk⟩
theorem vG.cUntil (h : vG w0 w mb k q C p gv bk ev dv ck l) (hk : k < 4294967000) (d : Int) (d0 : 0 <= d) (d1 : d < 18446744073709551616) {v e : Int} (hv : (p.rd 1 1).v = v) (he : (p.rd 1 1).e = e) :
 Calls prog 15 #[.pointer (some ⟨q, 0, none⟩), .int .u64 d] w fun r w' => r = .returned (.tuple #[.int .u64 (utl d v e), .int .i64 e]) /\ ∃ C2, pF w0 w' mb (k + 9) q C2 (p.rd 1 1).p gv bk ev dv ck l := by
 have c := aIM q C p gv k w h.H h.po (by omega) d d0 d1
 rw [h.en, h.ec, hv, he] at c
 exact c.mono fun r w' ⟨hr, L⟩ => ⟨hr, h.left L hk⟩
theorem vG.cNow (h : vG w0 w mb k q C p gv bk ev dv ck l) (hk : k < 4294967000) {v e : Int} (hv : (p.rd 1 1).v = v) (he : (p.rd 1 1).e = e) :
 Calls prog 12 #[.pointer (some ⟨ck, 0, none⟩)] w fun r w' => r = .returned (.tuple #[.int .u64 v, .int .i64 e]) /\ ∃ C2, pF w0 w' mb (k + 9) q C2 (p.rd 1 1).p gv bk ev dv ck (aCj l v e) := by
 have c := aFg q C p gv k ck l w h.H h.K h.po (by omega)
 rw [h.en, h.ec, hv, he] at c
 exact c.mono fun r w' ⟨hr, L⟩ => ⟨hr, h.clk L hk⟩
theorem vG.cAfter (h : vG w0 w mb k q C p gv bk ev dv ck l) (hk : k < 4294967000) (d : Int) (d0 : 0 <= d) (d1 : d < 18446744073709551616) {v e : Int} (hv : (p.rd 1 1).v = v) (he : (p.rd 1 1).e = e) :
 Calls prog 13 #[.pointer (some ⟨ck, 0, none⟩), .int .u64 d] w fun r w' => r = .returned (.tuple #[.int .u64 (aft d v e), .int .i64 e]) /\ ∃ C2, pF w0 w' mb (k + 9) q C2 (p.rd 1 1).p gv bk ev dv ck (aCj l v e) := by
 have c := aDR q C p gv k ck l w h.H h.K h.po (by omega) d d0 d1
 rw [h.en, h.ec, hv, he] at c
 exact c.mono fun r w' ⟨hr, L⟩ => ⟨hr, h.clk L hk⟩
end
end Go.Proofs.YtealhichdbimlaaGreat.B
