/- Several texts in one: The law PortSpends: the board's time grows by what is spent. (Written by tools/gen_l12s.py.) The document's board: which .. -/
import Derived.Test.YtpojmmgokgamgaaGreatZVaa
import Derived.Test.YtpojmmgokgamgaaGreatZVba
import Derived.Test.YtpojmmgokgamgaaGreatZVbb
import Derived.Deep.Cut
set_option linter.unusedVariables false
set_option linter.unusedSimpArgs false
set_option maxRecDepth 100000
namespace Go.Proofs.YtpojmmgokgamgaaGreat.B
open Go.ChangeShapes Go.WideShapes Go.RowKit Go.Sort
theorem tick_tiS {n c : Nat} {x : Bx} (h : x.ok n c) (hs : x.still) {N : Int} (n0 : 0 <= N) : (x.tick N).ti = addS x.ti N := by
 have hb := ran_bounds h.wd hs.1 n0
 by_cases hf : (x.later N).wd.fa = 0
 . rw [Bx.tick_no hf]
   show addS x.ti (x.wd.ran N) = _
   rw [ran_all hs.1 hf]
 . rw [Bx.tick_yes hf]
   show addS (addS x.ti (x.wd.ran N)) (N - x.wd.ran N) = _
   rw [addS_addS h.t0 h.t1 hb.1 (by omega)]
   congr 1
   omega
theorem sto_ti {n c : Nat} (x : Bx) (a v : Int) : (x.sto n c a v).ti = x.ti := by
 unfold Bx.sto Bx.look
 split
 . exact put_ti x a v
 . exact put_ti x a v
structure Syn (m : Nat) (p : Pt) : Prop where
 ok : p.ok m
 st : p.x.ti = p.sp
theorem Syn.pass {n c m : Nat} {p : Pt} (h : Syn m p) (o : p.x.ok n c) (s : p.x.still) (hm : m < 1000) : Syn (m + 1) p.pass := by
 have hg := Pt.gp_bounds h.ok.gs
 have h1 := h.ok.s1
 have h2 := h.ok.md
 have h3 := h.ok.s0
 refine ⟨Pt.pass_ok h.ok s (by omega), ?_⟩
 show (p.x.tick p.gp).ti = p.sp + p.gp
 rw [tick_tiS o s hg.1, h.st]
 unfold addS
 rw [if_neg (by omega)]
theorem Syn.ldp {n c m : Nat} {p : Pt} (h : Syn m p) (o : p.x.ok n c) (s : p.x.still) (hm : m < 1000) : Syn (m + 1) p.ldp := by
 unfold Pt.ldp
 split
 . exact ⟨h.ok.le (Nat.le_succ _), h.st⟩
 . exact h.pass o s hm
theorem Syn.stp {n c m : Nat} {p : Pt} (h : Syn m p) (o : p.x.ok n c) (s : p.x.still) (hm : m < 1000) (a v : Int) : Syn (m + 1) (p.stp n c a v) := by
 have hg := Pt.gp_bounds h.ok.gs
 have hp := h.pass o s hm
 have hps := (Bx.tick_ok o s (N := p.gp) hg.1 (by omega)).2
 refine ⟨Pt.stp_ok h.ok s hps (by omega) a v, ?_⟩
 unfold Pt.stp
 split
 . exact h.st
 . split
   . exact hp.st
   . show (p.pass.x.sto n c a v).ti = _
     rw [sto_ti]
     exact hp.st
theorem Syn.bt {m : Nat} {p : Pt} (h : Syn m p) : Syn (m + 1) p.bt := ⟨(Pt.bt_ok h.ok).le (Nat.le_succ _), h.st⟩
theorem bt_up (p : Pt) : p.bt.dn = false := by unfold Pt.dn Pt.bt; exact decide_eq_false (Nat.lt_irrefl _)
theorem ldp_md {p : Pt} (h : p.dn = false) : p.ldp.md = p.md + 1 := by unfold Pt.ldp; rw [h]; rfl
theorem stp_md {n c : Nat} {p : Pt} (h : p.dn = false) (a v : Int) : (p.stp n c a v).md = p.md + 1 := by
 unfold Pt.stp
 rw [h]
 split
 . rename_i e; cases e
 . split <;> rfl
theorem ldp_dn {n c : Nat} {p : Pt} (h : p.dn = true) (a : Int) : p.ldp = p /\ p.lde n c a = 13 := by unfold Pt.ldp Pt.lde; rw [h]; exact ⟨rfl, rfl⟩
theorem stp_dn {n c : Nat} {p : Pt} (h : p.dn = true) (a v : Int) : p.stp n c a v = p /\ p.ste n c a v = 13 := by unfold Pt.stp Pt.ste; rw [h]; exact ⟨rfl, rfl⟩
structure S12 (w0 w : World) (b n c k q : Nat) (C : Bp) (p : Pt) (gv : Value) : Prop where
 H : PtAt w q C p gv
 nw : C.new w0.heap.size
 sq : w0.heap.size <= q
 eb : C.b = b
 sy : Syn k p
 lo : Below w0.heap.size w0 w
section
variable {w0 w w' : World} {b n c k q : Nat} {C : Bp} {p p2 : Pt} {gv : Value}
theorem S12.below (S : S12 w0 w b n c k q C p gv) (hb : Below w.heap.size w w') : S12 w0 w' b n c k q C p gv := ⟨S.H.below hb, S.nw, S.sq, S.eb, S.sy, tr S.lo hb⟩
theorem S12.left {j : Nat} (S : S12 w0 w b n c k q C p gv) (L : PLeft q C p2 gv w w') (h : Syn j p2) : (∃ C2, S12 w0 w' b n c j q C2 p2 gv) /\ Kq w w' := by
 obtain ⟨C2, LC⟩ := L.lp S.H S.nw S.sq S.lo.size
 exact ⟨⟨C2, LC.h, LC.nw, S.sq, LC.e.trans S.eb, h, S.lo.trans LC.lo⟩, LC.kq⟩
end
set_option maxHeartbeats 12800000 in
theorem portSpends1 (w : World) (n c : Nat) (d : Int) (n0 : 1 <= n) (n8 : n <= 8) (c0 : 1 <= c) (c8 : c <= 8) (d0 : 1 <= d) (d1 : d < 4294967296) (gy : Option Addr) (gl gc : Nat) (hg : RawG w gy gl gc) (y : Option Addr) (len cap : Nat) (hy : Acts12 w y len cap) :
 Calls Tryz.prog 4 #[.agg #[.int .i64 n, .int .i64 c, .int .u32 d], .slice gy gl gc, .slice y len cap] w fun e w' => e = .returned (.bool true) /\ Below w.heap.size w w' := by
 have HY := Hd hy
 have HNEW := Hd (fun w' => bdNew n c d w' n0 n8 c0 c8 d0 d1)
 have HB := Hd (trA (tr0 w) (cfO n c d))
 have HC := Hd (show (w.alloc (cfO n c d)).heap[w.heap.size]? = some (cfO n c d) from blk_new w _)
 obtain ⟨g7, hg7⟩ : ∃ g7, min gl 64 = g7 := ⟨_, rfl⟩
 obtain ⟨gs, hgn, hgb, hga⟩ := hg.gaps (tr0 w) g7 (by omega)
 have hcut := cutG gy gl gc g7 (by omega) hg.1
 have hmin : min (gl : Int) 64 = (g7 : Int) := by omega
 have hg64 : g7 <= 64 := by omega
 subst hgn
 have HG := Hd hga
 have HGB := Hd hgb
 have HGL := Hd hg64
 clear hy n0 n8 c0 c8 d0 d1 hg hg7 hga hgb hg64
 go_enter Tryz.func4, Tryz.ntmps4
 go_upto_region 1 with (fail)
 rw [show Obj.cells #[.int .i64 n, .int .i64 c, .int .u32 d] 24 (0, 0) = cfO n c d from rfl]
 generalize w.alloc (cfO n c d) = W at *
 have e0 := blk_cell HC.out 0
 have e1 := blk_cell HC.out 1
 have e2 := blk_cell HC.out 2
 simp at e0 e1 e2
 go_upto_region 2 with (go_at_call 6; refine (HNEW.out _).mono ?_; rintro e w1 ⟨B, rfl, h1, hb, h3, h7, h8, h9⟩; have HH := Hd h1; have HNW := Hd (show B.new w.heap.size from fun k hk => Nat.le_trans HB.out.size (h3 k hk)); have HB := Hd (tr HB.out hb); clear e0 e1 e2 h1 hb h3 h7 h8 h9 HNEW)
 have HG := Hd (HG.out.below HB.out)
 go_upto_region 3 with (fail)
 clear hcut hmin HC
 go_upto_region 4 with (go_at_call 7; refine (pNew B (bx0 d) w.heap.size _ gs _ HH.out (told0 d) HG.out HGL.out).mono ?_; rintro e w2 ⟨q, gv, rfl, hq, hp, hb⟩; have HP := Hd (show S12 w w2 B.b n c 0 q B (pt0 (bx0 d) gs) gv from ⟨hp, HNW.out, Nat.le_trans HB.out.size hq, rfl, ⟨pt0_ok _ _ (told0 d) (Nat.le_refl _) HGL.out HGB.out, rfl⟩, tr HB.out hb⟩); clear hq hp hb HH HB HG HNW HGL HGB)
 generalize pt0 (bx0 d) gs = p0 at *
 generalize hbb : B.b = bb at *
 clear hbb
 go_wp2_with fail
 go_loopw [11] (fun i wr => ∃ (k : Nat) (C : Bp) (p : Pt), k <= len /\ k <= 60 /\ i = .int .i64 k /\ S12 w wr bb n c k q C p gv) (fun i wr => len - (intOf i).toNat)
 case atStart => exact ⟨0, B, p0, by omega, by omega, rfl, HP.out⟩
 case round =>
  clear HP
  obtain ⟨k, C, p, hk, hkl, rfl, P⟩ := hrel
  have HP := Hd P
  clear P
  by_cases hlt : k < len /\ k < 60
  . obtain ⟨hlt, hlm⟩ := hlt
    rcases HY.out with hy | ⟨z, off, rfl, hlc, hcm, hbl, hz⟩
    . omega
    unfold maxLen at hcm
    obtain ⟨K, a, v, ay, al, ac, N, c0, c1, c2, c3, c4, hraw, hK, ⟨a0, a1⟩, ⟨v0, v1⟩, ⟨n0, n1⟩⟩ := hz k (by omega)
    rw [<- HP.out.lo.cell (p := ⟨z, _, none⟩) (by simpa using hbl)] at c0 c1 c2 c3 c4
    clear hz hraw hK n0 n1
    have hbw : z < wr.heap.size := by have := HP.out.lo.size; omega
    go_upto_region 10 with (fail)
    rw [show Obj.cells #[.int .i64 K, .int .u32 a, .int .u32 v, .slice ay al ac, .int .u64 N] 56 (0, 0) = actP K a v (.slice ay al ac) N from rfl]
    have HA := Hd (blk_new wr (actP K a v (.slice ay al ac) N))
    have HP := Hd (HP.out.below (trA (tr0 wr) (actP K a v (.slice ay al ac) N)))
    generalize wr.alloc (actP K a v (.slice ay al ac) N) = W1 at *
    generalize wr.heap.size = ab at *
    clear c0 c1 c2 c3 c4 hbw hcm hlc hbl
    have CD := Hd (fun w' (h : S12 w w' bb n c k q C p gv) => pDown q C p gv w' h.H h.sy.ok.td h.sy.ok.se)
    have CS := Hd (fun w' (h : S12 w w' bb n c k q C p gv) => pSpent q C p gv w' h.H)
    have CM := Hd (fun w' (h : S12 w w' bb n c k q C p gv) => pMade q C p gv w' h.H)
    have hfr := (And.intro HP.out.H.bd.ok HP.out.H.bd.still)
    have HFR := Hd hfr
    have HSY := Hd HP.out.sy
    have hwm : IntKind.i64.wrap ((p.md : Int) + 1) = (p.md : Int) + 1 := wrap_md p.md (by have := HP.out.sy.ok.md; omega)
    clear hfr
    obtain ⟨D, hD⟩ : ∃ D, p.dn = D := ⟨_, rfl⟩
    rw [hD] at CD
    have HD := Hd hD
    clear hD
    go_upto_region 11 with (first | (go_at_call 14; refine (CD.out _ HP.out).mono ?_; rintro e W2 ⟨rfl, hb⟩; have HA := Hd (blk_below hb HA.out (lt_of_block HA.out)); have HP := Hd (HP.out.below hb); clear hb CD) | (go_at_call 15; refine (CS.out _ HP.out).mono ?_; rintro e W3 ⟨rfl, hb⟩; have HA := Hd (blk_below hb HA.out (lt_of_block HA.out)); have HP := Hd (HP.out.below hb); clear hb CS) | (go_at_call 16; refine (CM.out _ HP.out).mono ?_; rintro e W4 ⟨rfl, hb⟩; have HA := Hd (blk_below hb HA.out (lt_of_block HA.out)); have HP := Hd (HP.out.below hb); clear hb CM))
    by_cases h0 : K = 0
    . subst h0
      have c0 : W4.cell? ⟨ab, 0, none⟩ = some (.int .i64 0) := by have := blk_cell HA.out 0; simpa using this
      have c1 : W4.cell? ⟨ab, 1, none⟩ = some (.int .u32 a) := by have := blk_cell HA.out 1; simpa using this
      have c2 : W4.cell? ⟨ab, 2, none⟩ = some (.int .u32 v) := by have := blk_cell HA.out 2; simpa using this
      cases D
      . have CL := Hd (fun w' (h : S12 w w' bb n c k q C p gv) => pLoad q C p gv k a w' h.H h.sy.ok (by omega) a0 a1)
        have HS := Hd (show Syn (k + 1) (p.ldp) from HSY.out.ldp HFR.out.1 HFR.out.2 (by omega))
        have HMD := Hd (show ((p.ldp).md : Int) = (p.md : Int) + 1 by rw [ldp_md HD.out]; rfl)
        have m0 : (((p.md : Int) + 1) != ((p.md : Int) + 1)) = false := bne_self_eq_false _
        generalize p.ldp = p' at *
        go_upto_region 21 with (go_at_call 17; refine (CL.out _ HP.out).mono ?_; rintro e W5 ⟨rfl, hL⟩; obtain ⟨⟨C2, S2⟩, hkq⟩ := HP.out.left hL HS.out; have HA := Hd (hkq _ _ _ _ HA.out (by decide) rfl); have HP := Hd S2; clear hL S2 hkq CL c0 c1 c2; have c0 : W5.cell? ⟨ab, 0, none⟩ = some (.int .i64 0) := by (have := blk_cell HA.out 0; simpa using this))
        have HT := Hd (fun w' (h : S12 w w' bb n c (k + 1) q C2 p' gv) => by have := bdTime C2 p'.x w' h.H.bd; rw [h.sy.st, h.eb] at this; exact this)
        have CS := Hd (fun w' (h : S12 w w' bb n c (k + 1) q C2 p' gv) => pSpent q C2 p' gv w' h.H)
        have CM := Hd (fun w' (h : S12 w w' bb n c (k + 1) q C2 p' gv) => by have := pMade q C2 p' gv w' h.H; rw [HMD.out] at this; exact this)
        have s0 : (p'.sp != p'.sp) = false := bne_self_eq_false _
        go_wp2_with (first | (go_at_call 20; refine (HT.out _ HP.out).mono ?_; rintro e W8 ⟨rfl, hb⟩; have HA := Hd (blk_below hb HA.out (lt_of_block HA.out)); have HP := Hd (HP.out.below hb); clear hb c0; have c0 : W8.cell? ⟨ab, 0, none⟩ = some (.int .i64 0) := by (have := blk_cell HA.out 0; simpa using this)) | (go_at_call 15; refine (CS.out _ HP.out).mono ?_; rintro e W9 ⟨rfl, hb⟩; have HA := Hd (blk_below hb HA.out (lt_of_block HA.out)); have HP := Hd (HP.out.below hb); clear hb c0; have c0 : W9.cell? ⟨ab, 0, none⟩ = some (.int .i64 0) := by (have := blk_cell HA.out 0; simpa using this)) | (go_at_call 16; refine (CM.out _ HP.out).mono ?_; rintro e W10 ⟨rfl, hb⟩; have HA := Hd (blk_below hb HA.out (lt_of_block HA.out)); have HP := Hd (HP.out.below hb); clear hb c0; have c0 : W10.cell? ⟨ab, 0, none⟩ = some (.int .i64 0) := by (have := blk_cell HA.out 0; simpa using this)))
        go_roundw
        case rel => exact ⟨k + 1, C2, p', by omega, by omega, by go_num, HP.out⟩
        case measure => simp [intOf]; omega
      . have CL := Hd (fun w' (h : S12 w w' bb n c k q C p gv) => by have := pLoad q C p gv k a w' h.H h.sy.ok (by omega) a0 a1; rw [(ldp_dn (n := C.n) (c := C.c) HD.out a).1, (ldp_dn (n := C.n) (c := C.c) HD.out a).2] at this; exact this)
        have HS := Hd (show Syn (k + 1) p from ⟨HSY.out.ok.le (Nat.le_succ _), HSY.out.st⟩)
        have m0 : ((p.md : Int) != (p.md : Int)) = false := bne_self_eq_false _
        go_upto_region 21 with (go_at_call 17; refine (CL.out _ HP.out).mono ?_; rintro e W5 ⟨rfl, hL⟩; obtain ⟨⟨C2, S2⟩, hkq⟩ := HP.out.left hL HS.out; have HA := Hd (hkq _ _ _ _ HA.out (by decide) rfl); have HP := Hd S2; clear hL S2 hkq CL c0 c1 c2; have c0 : W5.cell? ⟨ab, 0, none⟩ = some (.int .i64 0) := by (have := blk_cell HA.out 0; simpa using this))
        have HT := Hd (fun w' (h : S12 w w' bb n c (k + 1) q C2 p gv) => by have := bdTime C2 p.x w' h.H.bd; rw [h.sy.st, h.eb] at this; exact this)
        have CS := Hd (fun w' (h : S12 w w' bb n c (k + 1) q C2 p gv) => pSpent q C2 p gv w' h.H)
        have CM := Hd (fun w' (h : S12 w w' bb n c (k + 1) q C2 p gv) => pMade q C2 p gv w' h.H)
        have s0 : (p.sp != p.sp) = false := bne_self_eq_false _
        go_wp2_with (first | (go_at_call 20; refine (HT.out _ HP.out).mono ?_; rintro e W8 ⟨rfl, hb⟩; have HA := Hd (blk_below hb HA.out (lt_of_block HA.out)); have HP := Hd (HP.out.below hb); clear hb c0; have c0 : W8.cell? ⟨ab, 0, none⟩ = some (.int .i64 0) := by (have := blk_cell HA.out 0; simpa using this)) | (go_at_call 15; refine (CS.out _ HP.out).mono ?_; rintro e W9 ⟨rfl, hb⟩; have HA := Hd (blk_below hb HA.out (lt_of_block HA.out)); have HP := Hd (HP.out.below hb); clear hb c0; have c0 : W9.cell? ⟨ab, 0, none⟩ = some (.int .i64 0) := by (have := blk_cell HA.out 0; simpa using this)) | (go_at_call 16; refine (CM.out _ HP.out).mono ?_; rintro e W10 ⟨rfl, hb⟩; have HA := Hd (blk_below hb HA.out (lt_of_block HA.out)); have HP := Hd (HP.out.below hb); clear hb c0; have c0 : W10.cell? ⟨ab, 0, none⟩ = some (.int .i64 0) := by (have := blk_cell HA.out 0; simpa using this)))
        go_roundw
        case rel => exact ⟨k + 1, C2, p, by omega, by omega, by go_num, HP.out⟩
        case measure => simp [intOf]; omega
    by_cases h1 : K = 1
    . subst h1
      have c0 : W4.cell? ⟨ab, 0, none⟩ = some (.int .i64 1) := by have := blk_cell HA.out 0; simpa using this
      have c1 : W4.cell? ⟨ab, 1, none⟩ = some (.int .u32 a) := by have := blk_cell HA.out 1; simpa using this
      have c2 : W4.cell? ⟨ab, 2, none⟩ = some (.int .u32 v) := by have := blk_cell HA.out 2; simpa using this
      cases D
      . have CL := Hd (fun w' (h : S12 w w' bb n c k q C p gv) => pStore q C p gv k a v w' h.H h.sy.ok (by omega) a0 a1 v0 v1)
        have HS := Hd (show Syn (k + 1) (p.stp C.n C.c a v) from HSY.out.stp HFR.out.1 HFR.out.2 (by omega) a v)
        have HMD := Hd (show ((p.stp C.n C.c a v).md : Int) = (p.md : Int) + 1 by rw [stp_md HD.out a v]; rfl)
        have m0 : (((p.md : Int) + 1) != ((p.md : Int) + 1)) = false := bne_self_eq_false _
        generalize p.stp C.n C.c a v = p' at *
        go_upto_region 21 with (go_at_call 18; refine (CL.out _ HP.out).mono ?_; rintro e W5 ⟨rfl, hL⟩; obtain ⟨⟨C2, S2⟩, hkq⟩ := HP.out.left hL HS.out; have HA := Hd (hkq _ _ _ _ HA.out (by decide) rfl); have HP := Hd S2; clear hL S2 hkq CL c0 c1 c2; have c0 : W5.cell? ⟨ab, 0, none⟩ = some (.int .i64 1) := by (have := blk_cell HA.out 0; simpa using this))
        have HT := Hd (fun w' (h : S12 w w' bb n c (k + 1) q C2 p' gv) => by have := bdTime C2 p'.x w' h.H.bd; rw [h.sy.st, h.eb] at this; exact this)
        have CS := Hd (fun w' (h : S12 w w' bb n c (k + 1) q C2 p' gv) => pSpent q C2 p' gv w' h.H)
        have CM := Hd (fun w' (h : S12 w w' bb n c (k + 1) q C2 p' gv) => by have := pMade q C2 p' gv w' h.H; rw [HMD.out] at this; exact this)
        have s0 : (p'.sp != p'.sp) = false := bne_self_eq_false _
        go_wp2_with (first | (go_at_call 20; refine (HT.out _ HP.out).mono ?_; rintro e W8 ⟨rfl, hb⟩; have HA := Hd (blk_below hb HA.out (lt_of_block HA.out)); have HP := Hd (HP.out.below hb); clear hb c0; have c0 : W8.cell? ⟨ab, 0, none⟩ = some (.int .i64 1) := by (have := blk_cell HA.out 0; simpa using this)) | (go_at_call 15; refine (CS.out _ HP.out).mono ?_; rintro e W9 ⟨rfl, hb⟩; have HA := Hd (blk_below hb HA.out (lt_of_block HA.out)); have HP := Hd (HP.out.below hb); clear hb c0; have c0 : W9.cell? ⟨ab, 0, none⟩ = some (.int .i64 1) := by (have := blk_cell HA.out 0; simpa using this)) | (go_at_call 16; refine (CM.out _ HP.out).mono ?_; rintro e W10 ⟨rfl, hb⟩; have HA := Hd (blk_below hb HA.out (lt_of_block HA.out)); have HP := Hd (HP.out.below hb); clear hb c0; have c0 : W10.cell? ⟨ab, 0, none⟩ = some (.int .i64 1) := by (have := blk_cell HA.out 0; simpa using this)))
        go_roundw
        case rel => exact ⟨k + 1, C2, p', by omega, by omega, by go_num, HP.out⟩
        case measure => simp [intOf]; omega
      . have CL := Hd (fun w' (h : S12 w w' bb n c k q C p gv) => by have := pStore q C p gv k a v w' h.H h.sy.ok (by omega) a0 a1 v0 v1; rw [(stp_dn (n := C.n) (c := C.c) HD.out a v).1, (stp_dn (n := C.n) (c := C.c) HD.out a v).2] at this; exact this)
        have HS := Hd (show Syn (k + 1) p from ⟨HSY.out.ok.le (Nat.le_succ _), HSY.out.st⟩)
        have m0 : ((p.md : Int) != (p.md : Int)) = false := bne_self_eq_false _
        go_upto_region 21 with (go_at_call 18; refine (CL.out _ HP.out).mono ?_; rintro e W5 ⟨rfl, hL⟩; obtain ⟨⟨C2, S2⟩, hkq⟩ := HP.out.left hL HS.out; have HA := Hd (hkq _ _ _ _ HA.out (by decide) rfl); have HP := Hd S2; clear hL S2 hkq CL c0 c1 c2; have c0 : W5.cell? ⟨ab, 0, none⟩ = some (.int .i64 1) := by (have := blk_cell HA.out 0; simpa using this))
        have HT := Hd (fun w' (h : S12 w w' bb n c (k + 1) q C2 p gv) => by have := bdTime C2 p.x w' h.H.bd; rw [h.sy.st, h.eb] at this; exact this)
        have CS := Hd (fun w' (h : S12 w w' bb n c (k + 1) q C2 p gv) => pSpent q C2 p gv w' h.H)
        have CM := Hd (fun w' (h : S12 w w' bb n c (k + 1) q C2 p gv) => pMade q C2 p gv w' h.H)
        have s0 : (p.sp != p.sp) = false := bne_self_eq_false _
        go_wp2_with (first | (go_at_call 20; refine (HT.out _ HP.out).mono ?_; rintro e W8 ⟨rfl, hb⟩; have HA := Hd (blk_below hb HA.out (lt_of_block HA.out)); have HP := Hd (HP.out.below hb); clear hb c0; have c0 : W8.cell? ⟨ab, 0, none⟩ = some (.int .i64 1) := by (have := blk_cell HA.out 0; simpa using this)) | (go_at_call 15; refine (CS.out _ HP.out).mono ?_; rintro e W9 ⟨rfl, hb⟩; have HA := Hd (blk_below hb HA.out (lt_of_block HA.out)); have HP := Hd (HP.out.below hb); clear hb c0; have c0 : W9.cell? ⟨ab, 0, none⟩ = some (.int .i64 1) := by (have := blk_cell HA.out 0; simpa using this)) | (go_at_call 16; refine (CM.out _ HP.out).mono ?_; rintro e W10 ⟨rfl, hb⟩; have HA := Hd (blk_below hb HA.out (lt_of_block HA.out)); have HP := Hd (HP.out.below hb); clear hb c0; have c0 : W10.cell? ⟨ab, 0, none⟩ = some (.int .i64 1) := by (have := blk_cell HA.out 0; simpa using this)))
        go_roundw
        case rel => exact ⟨k + 1, C2, p, by omega, by omega, by go_num, HP.out⟩
        case measure => simp [intOf]; omega
    by_cases h2 : K = 2
    . subst h2
      have c0 : W4.cell? ⟨ab, 0, none⟩ = some (.int .i64 2) := by have := blk_cell HA.out 0; simpa using this
      have c1 : W4.cell? ⟨ab, 1, none⟩ = some (.int .u32 a) := by have := blk_cell HA.out 1; simpa using this
      have c2 : W4.cell? ⟨ab, 2, none⟩ = some (.int .u32 v) := by have := blk_cell HA.out 2; simpa using this
      have CL := Hd (fun w' (h : S12 w w' bb n c k q C p gv) => pBoot q C p gv k w' h.H h.sy.ok (by omega))
      have HS := Hd (show Syn (k + 1) p.bt from HSY.out.bt)
      have HUP := Hd (bt_up p)
      have HZ := Hd (show (p.bt.x.es.length : Int) - p.bt.se = 0 from Int.sub_self _)
      have HBB := Hd (show p.bt.bt = p.bt from rfl)
      generalize p.bt = p' at *
      have CD := Hd (fun C2 w' (h : S12 w w' bb n c (k + 1) q C2 p' gv) => by have := pDown q C2 p' gv w' h.H h.sy.ok.td h.sy.ok.se; rw [HUP.out] at this; exact this)
      have CB := Hd (fun C2 w' (h : S12 w w' bb n c (k + 1) q C2 p' gv) => by have := pBoot q C2 p' gv (k + 1) w' h.H h.sy.ok (by omega); rw [HZ.out, HBB.out] at this; exact this)
      go_upto_region 19 with (go_at_call 19; refine (CL.out _ HP.out).mono ?_; rintro e W5 ⟨rfl, hL⟩; obtain ⟨⟨C2, S2⟩, hkq⟩ := HP.out.left hL HS.out; have HA := Hd (hkq _ _ _ _ HA.out (by decide) rfl); have HP := Hd S2; clear hL S2 hkq CL c0 c1 c2)
      go_upto_region 21 with (first | (go_at_call 14; refine (CD.out _ _ HP.out).mono ?_; rintro e W6 ⟨rfl, hb⟩; have HA := Hd (blk_below hb HA.out (lt_of_block HA.out)); have HP := Hd (HP.out.below hb); clear hb) | (go_at_call 19; refine (CB.out _ _ HP.out).mono ?_; rintro e W7 ⟨rfl, hL⟩; obtain ⟨⟨C3, S2⟩, hkq⟩ := HP.out.left hL HS.out; have HA := Hd (hkq _ _ _ _ HA.out (by decide) rfl); have HP := Hd S2; clear hL S2 hkq; have c0 : W7.cell? ⟨ab, 0, none⟩ = some (.int .i64 2) := by (have := blk_cell HA.out 0; simpa using this)))
      cases D
      . have HT := Hd (fun w' (h : S12 w w' bb n c (k + 1) q C3 p' gv) => by have := bdTime C3 p'.x w' h.H.bd; rw [h.sy.st, h.eb] at this; exact this)
        have CS := Hd (fun w' (h : S12 w w' bb n c (k + 1) q C3 p' gv) => pSpent q C3 p' gv w' h.H)
        have CM := Hd (fun w' (h : S12 w w' bb n c (k + 1) q C3 p' gv) => pMade q C3 p' gv w' h.H)
        have s0 : (p'.sp != p'.sp) = false := bne_self_eq_false _
        go_wp2_with (first | (go_at_call 20; refine (HT.out _ HP.out).mono ?_; rintro e W8 ⟨rfl, hb⟩; have HA := Hd (blk_below hb HA.out (lt_of_block HA.out)); have HP := Hd (HP.out.below hb); clear hb c0; have c0 : W8.cell? ⟨ab, 0, none⟩ = some (.int .i64 2) := by (have := blk_cell HA.out 0; simpa using this)) | (go_at_call 15; refine (CS.out _ HP.out).mono ?_; rintro e W9 ⟨rfl, hb⟩; have HA := Hd (blk_below hb HA.out (lt_of_block HA.out)); have HP := Hd (HP.out.below hb); clear hb c0; have c0 : W9.cell? ⟨ab, 0, none⟩ = some (.int .i64 2) := by (have := blk_cell HA.out 0; simpa using this)) | (go_at_call 16; refine (CM.out _ HP.out).mono ?_; rintro e W10 ⟨rfl, hb⟩; have HA := Hd (blk_below hb HA.out (lt_of_block HA.out)); have HP := Hd (HP.out.below hb); clear hb c0; have c0 : W10.cell? ⟨ab, 0, none⟩ = some (.int .i64 2) := by (have := blk_cell HA.out 0; simpa using this)))
        go_roundw
        case rel => exact ⟨k + 1, C3, p', by omega, by omega, by go_num, HP.out⟩
        case measure => simp [intOf]; omega
      . have HT := Hd (fun w' (h : S12 w w' bb n c (k + 1) q C3 p' gv) => by have := bdTime C3 p'.x w' h.H.bd; rw [h.sy.st, h.eb] at this; exact this)
        have CS := Hd (fun w' (h : S12 w w' bb n c (k + 1) q C3 p' gv) => pSpent q C3 p' gv w' h.H)
        have CM := Hd (fun w' (h : S12 w w' bb n c (k + 1) q C3 p' gv) => pMade q C3 p' gv w' h.H)
        have s0 : (p'.sp != p'.sp) = false := bne_self_eq_false _
        go_wp2_with (first | (go_at_call 20; refine (HT.out _ HP.out).mono ?_; rintro e W8 ⟨rfl, hb⟩; have HA := Hd (blk_below hb HA.out (lt_of_block HA.out)); have HP := Hd (HP.out.below hb); clear hb c0; have c0 : W8.cell? ⟨ab, 0, none⟩ = some (.int .i64 2) := by (have := blk_cell HA.out 0; simpa using this)) | (go_at_call 15; refine (CS.out _ HP.out).mono ?_; rintro e W9 ⟨rfl, hb⟩; have HA := Hd (blk_below hb HA.out (lt_of_block HA.out)); have HP := Hd (HP.out.below hb); clear hb c0; have c0 : W9.cell? ⟨ab, 0, none⟩ = some (.int .i64 2) := by (have := blk_cell HA.out 0; simpa using this)) | (go_at_call 16; refine (CM.out _ HP.out).mono ?_; rintro e W10 ⟨rfl, hb⟩; have HA := Hd (blk_below hb HA.out (lt_of_block HA.out)); have HP := Hd (HP.out.below hb); clear hb c0; have c0 : W10.cell? ⟨ab, 0, none⟩ = some (.int .i64 2) := by (have := blk_cell HA.out 0; simpa using this)))
        go_roundw
        case rel => exact ⟨k + 1, C3, p', by omega, by omega, by go_num, HP.out⟩
        case measure => simp [intOf]; omega
    have c0 : W4.cell? ⟨ab, 0, none⟩ = some (.int .i64 K) := by have := blk_cell HA.out 0; simpa using this
    have c1 : W4.cell? ⟨ab, 1, none⟩ = some (.int .u32 a) := by have := blk_cell HA.out 1; simpa using this
    have c2 : W4.cell? ⟨ab, 2, none⟩ = some (.int .u32 v) := by have := blk_cell HA.out 2; simpa using this
    have k0 : (K == 0) = false := by simpa using h0
    have k1 : (K == 1) = false := by simpa using h1
    have k2 : (K == 2) = false := by simpa using h2
    have HP := Hd (show S12 w W4 bb n c (k + 1) q C p gv from { HP.out with sy := ⟨HSY.out.ok.le (Nat.le_succ _), HSY.out.st⟩ })
    clear h0 h1 h2
    cases D
    . have HT := Hd (fun w' (h : S12 w w' bb n c (k + 1) q C p gv) => by have := bdTime C p.x w' h.H.bd; rw [h.sy.st, h.eb] at this; exact this)
      have CS := Hd (fun w' (h : S12 w w' bb n c (k + 1) q C p gv) => pSpent q C p gv w' h.H)
      have CM := Hd (fun w' (h : S12 w w' bb n c (k + 1) q C p gv) => pMade q C p gv w' h.H)
      have s0 : (p.sp != p.sp) = false := bne_self_eq_false _
      go_wp2_with (first | (go_at_call 20; refine (HT.out _ HP.out).mono ?_; rintro e W8 ⟨rfl, hb⟩; have HA := Hd (blk_below hb HA.out (lt_of_block HA.out)); have HP := Hd (HP.out.below hb); clear hb c0; have c0 : W8.cell? ⟨ab, 0, none⟩ = some (.int .i64 K) := by (have := blk_cell HA.out 0; simpa using this)) | (go_at_call 15; refine (CS.out _ HP.out).mono ?_; rintro e W9 ⟨rfl, hb⟩; have HA := Hd (blk_below hb HA.out (lt_of_block HA.out)); have HP := Hd (HP.out.below hb); clear hb c0; have c0 : W9.cell? ⟨ab, 0, none⟩ = some (.int .i64 K) := by (have := blk_cell HA.out 0; simpa using this)) | (go_at_call 16; refine (CM.out _ HP.out).mono ?_; rintro e W10 ⟨rfl, hb⟩; have HA := Hd (blk_below hb HA.out (lt_of_block HA.out)); have HP := Hd (HP.out.below hb); clear hb c0; have c0 : W10.cell? ⟨ab, 0, none⟩ = some (.int .i64 K) := by (have := blk_cell HA.out 0; simpa using this)))
      go_roundw
      case rel => exact ⟨k + 1, C, p, by omega, by omega, by go_num, HP.out⟩
      case measure => simp [intOf]; omega
    . have HT := Hd (fun w' (h : S12 w w' bb n c (k + 1) q C p gv) => by have := bdTime C p.x w' h.H.bd; rw [h.sy.st, h.eb] at this; exact this)
      have CS := Hd (fun w' (h : S12 w w' bb n c (k + 1) q C p gv) => pSpent q C p gv w' h.H)
      have CM := Hd (fun w' (h : S12 w w' bb n c (k + 1) q C p gv) => pMade q C p gv w' h.H)
      have s0 : (p.sp != p.sp) = false := bne_self_eq_false _
      go_wp2_with (first | (go_at_call 20; refine (HT.out _ HP.out).mono ?_; rintro e W8 ⟨rfl, hb⟩; have HA := Hd (blk_below hb HA.out (lt_of_block HA.out)); have HP := Hd (HP.out.below hb); clear hb c0; have c0 : W8.cell? ⟨ab, 0, none⟩ = some (.int .i64 K) := by (have := blk_cell HA.out 0; simpa using this)) | (go_at_call 15; refine (CS.out _ HP.out).mono ?_; rintro e W9 ⟨rfl, hb⟩; have HA := Hd (blk_below hb HA.out (lt_of_block HA.out)); have HP := Hd (HP.out.below hb); clear hb c0; have c0 : W9.cell? ⟨ab, 0, none⟩ = some (.int .i64 K) := by (have := blk_cell HA.out 0; simpa using this)) | (go_at_call 16; refine (CM.out _ HP.out).mono ?_; rintro e W10 ⟨rfl, hb⟩; have HA := Hd (blk_below hb HA.out (lt_of_block HA.out)); have HP := Hd (HP.out.below hb); clear hb c0; have c0 : W10.cell? ⟨ab, 0, none⟩ = some (.int .i64 K) := by (have := blk_cell HA.out 0; simpa using this)))
      go_roundw
      case rel => exact ⟨k + 1, C, p, by omega, by omega, by go_num, HP.out⟩
      case measure => simp [intOf]; omega
  . by_cases hlt2 : k < len
    all_goals
     go_wp2_with fail
     refine (ptKnown _).mono ?_
     rintro e w1 ⟨rfl, hb1⟩
     go_wp2_with fail
     go_ret
     exact ⟨rfl, tr HP.out.lo hb1⟩
theorem yRightNo (h k d : Int) (w : World) (hn : ¬ (1 <= h /\ h <= 8 /\ 1 <= k /\ k <= 8 /\ 0 < d)) :
 Calls Tryz.prog 8 #[.int .i64 h, .int .i64 k, .int .u32 d] w fun e w' => e = .returned (.bool false) /\ w' = w := by
 by_cases h0 : 1 <= h
 . have e0 : decide (1 <= h) = true := decide_eq_true h0
   by_cases h1 : h <= 8
   . have e1 : decide (h <= 8) = true := decide_eq_true h1
     by_cases h2 : 1 <= k
     . have e2 : decide (1 <= k) = true := decide_eq_true h2
       by_cases h3 : k <= 8
       . have e3 : decide (k <= 8) = true := decide_eq_true h3
         have e4 : decide (0 < d) = false := decide_eq_false (fun h4 => hn ⟨h0, h1, h2, h3, h4⟩)
         clear hn
         go_enter Tryz.func8, Tryz.ntmps8
         go_wp2_with fail
         go_ret
         exact ⟨rfl, rfl⟩
       . have e3 : decide (k <= 8) = false := decide_eq_false h3
         clear hn h3
         go_enter Tryz.func8, Tryz.ntmps8
         go_wp2_with fail
         go_ret
         exact ⟨rfl, rfl⟩
     . have e2 : decide (1 <= k) = false := decide_eq_false h2
       clear hn h2
       go_enter Tryz.func8, Tryz.ntmps8
       go_wp2_with fail
       go_ret
       exact ⟨rfl, rfl⟩
   . have e1 : decide (h <= 8) = false := decide_eq_false h1
     clear hn h1
     go_enter Tryz.func8, Tryz.ntmps8
     go_wp2_with fail
     go_ret
     exact ⟨rfl, rfl⟩
 . have e0 : decide (1 <= h) = false := decide_eq_false h0
   clear hn h0
   go_enter Tryz.func8, Tryz.ntmps8
   go_wp2_with fail
   go_ret
   exact ⟨rfl, rfl⟩
set_option maxHeartbeats 3200000 in
theorem portSpends0 (w : World) (n c d : Int) (d0 : 0 <= d) (hn : ¬ (1 <= n /\ n <= 8 /\ 1 <= c /\ c <= 8 /\ 0 < d)) (gy : Option Addr) (gl gc : Nat) (hg : RawG w gy gl gc) (y : Option Addr) (len cap : Nat) :
 Calls Tryz.prog 4 #[.agg #[.int .i64 n, .int .i64 c, .int .u32 d], .slice gy gl gc, .slice y len cap] w fun e w' => e = .returned (.bool true) /\ Below w.heap.size w w' := by
 have HNEW := Hd (fun w' => bdNewNo n c d w' d0 hn)
 have HRT := Hd (fun w' => yRightNo n c d w' hn)
 have HC := Hd (show (w.alloc (cfO n c d)).heap[w.heap.size]? = some (cfO n c d) from blk_new w _)
 have HB := Hd (trA (tr0 w) (cfO n c d))
 obtain ⟨g7, hg7⟩ : ∃ g7, min gl 64 = g7 := ⟨_, rfl⟩
 have hcut := cutG gy gl gc g7 (by omega) hg.1
 have hmin : min (gl : Int) 64 = (g7 : Int) := by omega
 clear hn d0 hg hg7
 go_enter Tryz.func4, Tryz.ntmps4
 go_upto_region 1 with (fail)
 rw [show Obj.cells #[.int .i64 n, .int .i64 c, .int .u32 d] 24 (0, 0) = cfO n c d from rfl]
 generalize w.alloc (cfO n c d) = W at *
 have e0 := blk_cell HC.out 0
 have e1 := blk_cell HC.out 1
 have e2 := blk_cell HC.out 2
 simp at e0 e1 e2
 go_upto_region 2 with (go_at_call 6; refine (HNEW.out _).mono ?_; rintro e w1 ⟨rfl, hb⟩; have HC := Hd (blk_below hb HC.out (lt_of_block HC.out)); have HB := Hd (tr HB.out hb); clear e0 e1 e2 hb HNEW)
 go_upto_region 3 with (fail)
 clear hcut hmin
 go_upto_region 4 with (go_at_call 7; refine (pNewNil _ _).mono ?_; rintro e w2 ⟨rfl, hb⟩; have HC := Hd (blk_below hb HC.out (lt_of_block HC.out)); have HB := Hd (tr HB.out hb); clear hb)
 go_wp2_with fail
 refine (ptKnown _).mono ?_
 rintro e w3 ⟨rfl, hb⟩
 have HC := Hd (blk_below hb HC.out (lt_of_block HC.out))
 have HB := Hd (tr HB.out hb)
 clear hb
 have e0 := blk_cell HC.out 0
 have e1 := blk_cell HC.out 1
 have e2 := blk_cell HC.out 2
 simp at e0 e1 e2
 go_wp2_with fail
 refine (HRT.out _).mono ?_
 rintro e w4 ⟨rfl, rfl⟩
 go_wp2_with fail
 go_ret
 exact ⟨rfl, HB.out⟩
theorem wPortSpends (v0 v1 v2 : Value) (w : World) (h0 : FitsV w (.pair (.int .i64) (.pair (.int .i64) (.pair (.int .u32) .unit))) v0) (h1 : FitsV w (.slice (.int .u32)) v1) (h2 : FitsV w (.slice shA12) v2) :
 Calls Tryz.prog 4 #[v0, v1, v2] w fun e w' => e = .returned (.bool true) /\ Below w.heap.size w w' := by
 obtain ⟨n, c, d, rfl, d0, d1⟩ := fits_cfg h0
 obtain ⟨gy, gl, gc, rfl, hg⟩ := fitsV_gaps h1
 obtain ⟨y, len, cap, rfl, hy⟩ := acts_fit12 h2
 by_cases hr : 1 <= n /\ n <= 8 /\ 1 <= c /\ c <= 8 /\ 0 < d
 . obtain ⟨n, rfl⟩ := Int.eq_ofNat_of_zero_le (show 0 <= n by omega)
   obtain ⟨c, rfl⟩ := Int.eq_ofNat_of_zero_le (show 0 <= c by omega)
   exact portSpends1 w n c d (by omega) (by omega) (by omega) (by omega) (by omega) d1 gy gl gc hg y len cap hy
 . exact portSpends0 w n c d d0 hr gy gl gc hg y len cap
end Go.Proofs.YtpojmmgokgamgaaGreat.B
