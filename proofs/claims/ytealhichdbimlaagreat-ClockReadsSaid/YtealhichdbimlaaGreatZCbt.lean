/- A part of the proof of a law of layer 12: bt. -/
import Derived.Test.YtealhichdbimlaaGreatZCbs
set_option linter.unusedVariables false
set_option linter.unusedSimpArgs false
set_option maxHeartbeats 12800000
set_option maxRecDepth 100000
namespace Go.Proofs.YtealhichdbimlaaGreat.B
open Go.Proofs.Tryz
open Go.ChangeShapes Go.WideShapes Go.RowKit Go.Sort
theorem pF.rd {w0 w : World} {mb k q ck : Nat} {C : Bp} {p : Pt} {gv bk ev dv : Value} {l : Int} (h : pF w0 w mb k q C p gv bk ev dv ck l) (hk : k < 4294967000) :
 Calls prog 10 #[.agg (pl 1 p bk ev dv).toArray] w (rV 1 1 (p.rd 1 1).p dv (.int .u64 (p.rd 1 1).v) (.int .i64 (p.rd 1 1).e) w) :=
 aN6 w0.heap.size 1 1 k p bk ev dv w h.P.bo.F (by omega)
theorem pF.alike {w0 w : World} {mb k q ck : Nat} {C : Bp} {p : Pt} {gv bk ev dv : Value} {l : Int} (h : pF w0 w mb k q C p gv bk ev dv ck l) :
 Calls prog 17 #[.pointer (some ⟨q, 0, none⟩), .agg (pl 1 p bk ev dv).toArray] w fun e w' => e = .returned (.bool true) /\ Below w.heap.size w w' := by
 have := aDu q C p gv w0.heap.size k bk ev dv w h.P.bo.H (by rw [h.P.bo.en, h.P.bo.ec]; exact h.P.bo.F)
 rw [h.P.bo.en] at this
 exact this
theorem aCM (w : World) (T : Int) (t0 : 0 <= T) (t1 : T < 18446744073709551616) (gy : Option Addr) (gl gc : Nat) (hg : sU w gy gl gc) (ay : Option Addr) (al ac : Nat) (ha : aBu w ay al ac) (y : Option Addr) (len cap : Nat) (hy : aKv w y len cap) :
 Calls prog 3 #[.int .u64 T, .slice gy gl gc, .slice ay al ac, .slice y len cap] w fun e w' => e = .returned (.bool true) /\ Below w.heap.size w w' := by
 have HY := Hd hy
 obtain ⟨gs, hgn, hgb, hga⟩ := hg.gaps (aI w) (min gl 64) (by omega)
 have HMD := Hd (aCL w T t0 t1 gy gl gc gs hgn hg.1 hgb (by rw [hgn]; exact hga) ay al ac ha)
 clear hy hg hgn hgb hga t0 t1 ha
 go_enter func3, ntmps3
 go_upto_region 2 with (first
  | (go_at_call 7; refine (HMD.out).mono ?_; rintro e w1 ⟨m0, q, C, p, gv, bk, ev, dv, rfl, hbo, hk0, hlo, hp⟩; have HBO := Hd hbo; have HLO := Hd hlo; have HK0 := Hd hk0; clear hbo hk0 hlo hp HMD)
  | (rw [bE]; refine kK rfl (.tmp 10) (.tmp 26) rfl rfl p bk ev dv 1 rfl (ZP.new w1 (aD w1 cY)) ⟨HBO.out.F.M.one.1, HBO.out.F.M.one.2, HBO.out.F.G.one⟩ ?_; intro w2 hq2 ho2; have hb2 := aF.toBelow (aE (aI w1) cY) ho2 (fun k hk e => by omega) (Nat.le_refl _); have HP := Hd (show P12 w w2 w1.heap.size 1 1 m0 q C p gv bk ev dv from ⟨HBO.out.below hb2, hq2, tr HLO.out hb2, HLO.out.size⟩); clear hq2 ho2 hb2))
 clear HBO HLO
 generalize w1.heap.size = mb at *
 go_upto_region 5 with (go_at_call 8; refine (aJ9 q _).mono ?_; rintro e w3 ⟨rfl, hw3⟩; have hb := hw3 ▸ aE (aI w2) (ckO q 0); have HP := Hd (show pF w w3 mb m0 q C p gv bk ev dv w2.heap.size 0 from ⟨HP.out.below hb, by rw [hw3]; exact aD w2 _, HP.out.lo.size⟩); clear hb hw3)
 generalize w2.heap.size = ck at *
 go_wp2_with (go_at_call 9; refine (kE ck q 0 _ HP.out.K).mono ?_; rintro e w4 ⟨rfl, rfl⟩)
 go_loopw [12, 13] (fun a i wr => ∃ (k m : Nat) (C : Bp) (p : Pt) (bk ev : Value) (l : Int), k <= len /\ k <= 10 /\ m <= 30 + 9 * k /\ i = .int .i64 k /\ a = .int .u64 l /\ Hid (pF w wr mb m q C p gv bk ev dv ck l)) (fun a i wr => len - (intOf i).toNat)
 case atStart => exact ⟨0, m0, C, p, bk, ev, 0, by omega, by omega, by have := HK0.out; omega, rfl, rfl, HP⟩
 case round =>
  clear HP HK0
  obtain ⟨k, m, C, p, bk, ev, l, hk, hkl, hm, rfl, rfl, HP⟩ := hrel
  by_cases hlt : k < len /\ k < 10
  . obtain ⟨hlt, hlm⟩ := hlt
    rcases HY.out with hy | ⟨z, off, zs, rfl, hlc, hcm, hbl, hz⟩
    . omega
    unfold maxLen at hcm
    obtain ⟨c0, v0, v1⟩ := hz k (by omega)
    have HCE := Hd (fun W (lo : Below w.heap.size w W) => show W.cell? ⟨z, off + k, none⟩ = some (.int .u64 (zs k)) by rw [lo.cell (p := ⟨z, _, none⟩) (by simpa using hbl)]; exact c0)
    have HZS := Hd (fun W (lo : Below w.heap.size w W) => show z < W.heap.size from Nat.lt_of_lt_of_le hbl lo.size)
    clear hz c0 hbl
    generalize zs k = V at *
    have CR := Hd (fun w' (h : pF w w' mb m q C p gv bk ev dv ck l) => h.rd (by omega))
    have hok : p.x.ok 1 1 := HP.out.P.bo.F.ok
    have hrd := sC (n := 1) (c := 1) HP.out.P.bo.F.po hok HP.out.P.bo.F.st (by omega)
    have r0 := hrd.v0
    have r1 := hrd.v1
    have hup := hrd.up
    clear hok hrd
    obtain ⟨v, hv⟩ : ∃ v, (p.rd 1 1).v = v := ⟨_, rfl⟩
    obtain ⟨E, hE⟩ : ∃ E, (p.rd 1 1).e = E := ⟨_, rfl⟩
    rw [hv, hE] at CR hup
    rw [hv] at r0 r1
    go_upto_region 13 with (first
     | (refine jN rfl (.tmp 10) rfl rfl HP.out.P.N ?_)
     | (go_at_call 10; refine (CR.out _ HP.out).mono ?_; rintro e w4 ⟨bk4, ev4, rfl, M4, hb⟩; have HM := Hd M4; have HP := Hd (HP.out.below hb); clear M4 hb CR)
     | (rw [bE]; refine kK rfl (.tmp 14) (.tmp 51) rfl rfl (p.rd 1 1).p bk4 ev4 dv 1 rfl (ZP.new w4 (aD w4 cY)) ⟨HM.out.one.1, HM.out.one.2, HP.out.P.bo.F.G.one⟩ ?_; intro w5 hq5 ho5; have hb5 := mS hq5 ho5; have HN := Hd hq5; have HM := Hd (HM.out.below hb5); have HP := Hd (HP.out.below hb5); clear hq5 ho5 hb5)
     | (refine jN rfl (.tmp 14) rfl rfl HN.out ?_)
     | (refine kK rfl (.tmp 10) (.tmp 54) rfl rfl (p.rd 1 1).p bk4 ev4 dv 1 rfl HP.out.P.N.z ⟨HM.out.one.1, HM.out.one.2, HP.out.P.bo.F.G.one⟩ ?_; intro w6 hq6 ho6; have HX := Hd (HP.out.mid HM.out hq6 ho6); clear hq6 ho6 HM HP HN))
    have c1 := HCE.out _ HX.out.lo
    have hbw := HZS.out _ HX.out.lo
    have hk3 : (k : Int).tmod 4 = ((k % 4 : Nat) : Int) := by rw [Int.tmod_eq_emod_of_nonneg (by omega)]; omega
    have hk4 : k % 4 = 0 \/ k % 4 = 1 \/ k % 4 = 2 \/ k % 4 = 3 := by omega
    rcases hup with rfl | ⟨rfl, rfl⟩
    . rcases hk4 with hk4 | hk4 | hk4 | hk4
      . rw [hk4] at hk3
        have CC := Hd (fun w' (hx : vG w w' mb m q C p gv bk4 ev4 dv ck l) => hx.cRead (by omega) hv hE)
        have xx : ((v) != (v)) = false := bne_self_eq_false _
        have ll : (l != l) = false := bne_self_eq_false _
        go_wp2_with (first
         | (go_at_call 11; refine (CC.out _ HX.out).mono ?_; rintro e w7 ⟨rfl, C7, S7⟩; have HR := Hd (show pF w w7 mb (m + 9) q C7 (p.rd 1 1).p gv bk4 ev4 dv ck l from S7); clear S7 CC c1 hbw; have c1 := HCE.out _ HR.out.P.lo; have hbw := HZS.out _ HR.out.P.lo; (try rw [show aft V v 0 = v from by unfold aft; rfl]))
         | (go_at_call 9; refine (kE ck q l _ HR.out.K).mono ?_; rintro e w9 ⟨rfl, rfl⟩)
         | (refine zW (.tmp 10) rfl (by kernel_rfl) rfl HR.out.P.N ?_)
         | (go_at_call 17; refine (HR.out.alike).mono ?_; rintro e w10 ⟨rfl, hb⟩; have HR := Hd (HR.out.below hb); clear hb))
        go_roundw
        case rel => exact ⟨k + 1, m + 9, C7, (p.rd 1 1).p, bk4, ev4, l, by omega, by omega, by omega, by go_num, rfl, HR⟩
        case measure => simp [intOf]; omega
      . rw [hk4] at hk3
        have CC := Hd (fun w' (hx : vG w w' mb m q C p gv bk4 ev4 dv ck l) => hx.cNow (by omega) hv hE)
        have xx : ((v) != (v)) = false := bne_self_eq_false _
        have ll : (v != v) = false := bne_self_eq_false _
        go_wp2_with (first
         | (go_at_call 12; refine (CC.out _ HX.out).mono ?_; rintro e w7 ⟨rfl, C7, S7⟩; have HR := Hd (show pF w w7 mb (m + 9) q C7 (p.rd 1 1).p gv bk4 ev4 dv ck v from S7); clear S7 CC c1 hbw; have c1 := HCE.out _ HR.out.P.lo; have hbw := HZS.out _ HR.out.P.lo; (try rw [show aft V v 0 = v from by unfold aft; rfl]))
         | (go_at_call 9; refine (kE ck q v _ HR.out.K).mono ?_; rintro e w9 ⟨rfl, rfl⟩)
         | (refine zW (.tmp 10) rfl (by kernel_rfl) rfl HR.out.P.N ?_)
         | (go_at_call 17; refine (HR.out.alike).mono ?_; rintro e w10 ⟨rfl, hb⟩; have HR := Hd (HR.out.below hb); clear hb))
        go_roundw
        case rel => exact ⟨k + 1, m + 9, C7, (p.rd 1 1).p, bk4, ev4, v, by omega, by omega, by omega, by go_num, rfl, HR⟩
        case measure => simp [intOf]; omega
      . rw [hk4] at hk3
        have CC := Hd (fun w' (hx : vG w w' mb m q C p gv bk4 ev4 dv ck l) => hx.cAfter (by omega) V v0 v1 hv hE)
        have xx : ((dM v V) != (dM v V)) = false := bne_self_eq_false _
        have ll : (v != v) = false := bne_self_eq_false _
        go_wp2_with (first
         | (go_at_call 13; refine (CC.out _ HX.out).mono ?_; rintro e w7 ⟨rfl, C7, S7⟩; have HR := Hd (show pF w w7 mb (m + 9) q C7 (p.rd 1 1).p gv bk4 ev4 dv ck v from S7); clear S7 CC c1 hbw; have c1 := HCE.out _ HR.out.P.lo; have hbw := HZS.out _ HR.out.P.lo; (try rw [show aft V v 0 = dM v V from by unfold aft; rfl]))
         | (go_at_call 14; refine (aHB v V _ r0 r1 v0 v1).mono ?_; rintro e w8 ⟨rfl, rfl⟩)
         | (go_at_call 9; refine (kE ck q v _ HR.out.K).mono ?_; rintro e w9 ⟨rfl, rfl⟩)
         | (refine zW (.tmp 10) rfl (by kernel_rfl) rfl HR.out.P.N ?_)
         | (go_at_call 17; refine (HR.out.alike).mono ?_; rintro e w10 ⟨rfl, hb⟩; have HR := Hd (HR.out.below hb); clear hb))
        go_roundw
        case rel => exact ⟨k + 1, m + 9, C7, (p.rd 1 1).p, bk4, ev4, v, by omega, by omega, by omega, by go_num, rfl, HR⟩
        case measure => simp [intOf]; omega
      . rw [hk4] at hk3
        have CC := Hd (fun w' (hx : vG w w' mb m q C p gv bk4 ev4 dv ck l) => hx.cUntil (by omega) V v0 v1 hv hE)
        have xx : ((aC7 V v) != (aC7 V v)) = false := bne_self_eq_false _
        have ll : (l != l) = false := bne_self_eq_false _
        go_wp2_with (first
         | (go_at_call 15; refine (CC.out _ HX.out).mono ?_; rintro e w7 ⟨rfl, C7, S7⟩; have HR := Hd (show pF w w7 mb (m + 9) q C7 (p.rd 1 1).p gv bk4 ev4 dv ck l from S7); clear S7 CC c1 hbw; have c1 := HCE.out _ HR.out.P.lo; have hbw := HZS.out _ HR.out.P.lo; (try rw [show utl V v 0 = aC7 V v from by unfold utl; rfl]))
         | (go_at_call 16; refine (aOp V v _ v0 v1 r0 r1).mono ?_; rintro e w8 ⟨rfl, rfl⟩)
         | (go_at_call 9; refine (kE ck q l _ HR.out.K).mono ?_; rintro e w9 ⟨rfl, rfl⟩)
         | (refine zW (.tmp 10) rfl (by kernel_rfl) rfl HR.out.P.N ?_)
         | (go_at_call 17; refine (HR.out.alike).mono ?_; rintro e w10 ⟨rfl, hb⟩; have HR := Hd (HR.out.below hb); clear hb))
        go_roundw
        case rel => exact ⟨k + 1, m + 9, C7, (p.rd 1 1).p, bk4, ev4, l, by omega, by omega, by omega, by go_num, rfl, HR⟩
        case measure => simp [intOf]; omega
    . rcases hk4 with hk4 | hk4 | hk4 | hk4
      . rw [hk4] at hk3
        have CC := Hd (fun w' (hx : vG w w' mb m q C p gv bk4 ev4 dv ck l) => hx.cRead (by omega) hv hE)
        have xx : ((0 : Int) != 0) = false := bne_self_eq_false _
        have ll : (l != l) = false := bne_self_eq_false _
        go_wp2_with (first
         | (go_at_call 11; refine (CC.out _ HX.out).mono ?_; rintro e w7 ⟨rfl, C7, S7⟩; have HR := Hd (show pF w w7 mb (m + 9) q C7 (p.rd 1 1).p gv bk4 ev4 dv ck l from S7); clear S7 CC c1 hbw; have c1 := HCE.out _ HR.out.P.lo; have hbw := HZS.out _ HR.out.P.lo; (try rw [show aft V 0 13 = 0 from by unfold aft; rfl]))
         | (go_at_call 9; refine (kE ck q l _ HR.out.K).mono ?_; rintro e w9 ⟨rfl, rfl⟩)
         | (refine zW (.tmp 10) rfl (by kernel_rfl) rfl HR.out.P.N ?_)
         | (go_at_call 17; refine (HR.out.alike).mono ?_; rintro e w10 ⟨rfl, hb⟩; have HR := Hd (HR.out.below hb); clear hb))
        go_roundw
        case rel => exact ⟨k + 1, m + 9, C7, (p.rd 1 1).p, bk4, ev4, l, by omega, by omega, by omega, by go_num, rfl, HR⟩
        case measure => simp [intOf]; omega
      . rw [hk4] at hk3
        have CC := Hd (fun w' (hx : vG w w' mb m q C p gv bk4 ev4 dv ck l) => hx.cNow (by omega) hv hE)
        have xx : ((0 : Int) != 0) = false := bne_self_eq_false _
        have ll : (l != l) = false := bne_self_eq_false _
        go_wp2_with (first
         | (go_at_call 12; refine (CC.out _ HX.out).mono ?_; rintro e w7 ⟨rfl, C7, S7⟩; have HR := Hd (show pF w w7 mb (m + 9) q C7 (p.rd 1 1).p gv bk4 ev4 dv ck l from S7); clear S7 CC c1 hbw; have c1 := HCE.out _ HR.out.P.lo; have hbw := HZS.out _ HR.out.P.lo; (try rw [show aft V 0 13 = 0 from by unfold aft; rfl]))
         | (go_at_call 9; refine (kE ck q l _ HR.out.K).mono ?_; rintro e w9 ⟨rfl, rfl⟩)
         | (refine zW (.tmp 10) rfl (by kernel_rfl) rfl HR.out.P.N ?_)
         | (go_at_call 17; refine (HR.out.alike).mono ?_; rintro e w10 ⟨rfl, hb⟩; have HR := Hd (HR.out.below hb); clear hb))
        go_roundw
        case rel => exact ⟨k + 1, m + 9, C7, (p.rd 1 1).p, bk4, ev4, l, by omega, by omega, by omega, by go_num, rfl, HR⟩
        case measure => simp [intOf]; omega
      . rw [hk4] at hk3
        have CC := Hd (fun w' (hx : vG w w' mb m q C p gv bk4 ev4 dv ck l) => hx.cAfter (by omega) V v0 v1 hv hE)
        have xx : ((0 : Int) != 0) = false := bne_self_eq_false _
        have ll : (l != l) = false := bne_self_eq_false _
        go_wp2_with (first
         | (go_at_call 13; refine (CC.out _ HX.out).mono ?_; rintro e w7 ⟨rfl, C7, S7⟩; have HR := Hd (show pF w w7 mb (m + 9) q C7 (p.rd 1 1).p gv bk4 ev4 dv ck l from S7); clear S7 CC c1 hbw; have c1 := HCE.out _ HR.out.P.lo; have hbw := HZS.out _ HR.out.P.lo; (try rw [show aft V 0 13 = 0 from by unfold aft; rfl]))
         | (go_at_call 14; refine (aHB 0 V _ r0 r1 v0 v1).mono ?_; rintro e w8 ⟨rfl, rfl⟩)
         | (go_at_call 9; refine (kE ck q l _ HR.out.K).mono ?_; rintro e w9 ⟨rfl, rfl⟩)
         | (refine zW (.tmp 10) rfl (by kernel_rfl) rfl HR.out.P.N ?_)
         | (go_at_call 17; refine (HR.out.alike).mono ?_; rintro e w10 ⟨rfl, hb⟩; have HR := Hd (HR.out.below hb); clear hb))
        go_roundw
        case rel => exact ⟨k + 1, m + 9, C7, (p.rd 1 1).p, bk4, ev4, l, by omega, by omega, by omega, by go_num, rfl, HR⟩
        case measure => simp [intOf]; omega
      . rw [hk4] at hk3
        have CC := Hd (fun w' (hx : vG w w' mb m q C p gv bk4 ev4 dv ck l) => hx.cUntil (by omega) V v0 v1 hv hE)
        have xx : ((0 : Int) != 0) = false := bne_self_eq_false _
        have ll : (l != l) = false := bne_self_eq_false _
        go_wp2_with (first
         | (go_at_call 15; refine (CC.out _ HX.out).mono ?_; rintro e w7 ⟨rfl, C7, S7⟩; have HR := Hd (show pF w w7 mb (m + 9) q C7 (p.rd 1 1).p gv bk4 ev4 dv ck l from S7); clear S7 CC c1 hbw; have c1 := HCE.out _ HR.out.P.lo; have hbw := HZS.out _ HR.out.P.lo; (try rw [show utl V 0 13 = 0 from by unfold utl; rfl]))
         | (go_at_call 16; refine (aOp V 0 _ v0 v1 r0 r1).mono ?_; rintro e w8 ⟨rfl, rfl⟩)
         | (go_at_call 9; refine (kE ck q l _ HR.out.K).mono ?_; rintro e w9 ⟨rfl, rfl⟩)
         | (refine zW (.tmp 10) rfl (by kernel_rfl) rfl HR.out.P.N ?_)
         | (go_at_call 17; refine (HR.out.alike).mono ?_; rintro e w10 ⟨rfl, hb⟩; have HR := Hd (HR.out.below hb); clear hb))
        go_roundw
        case rel => exact ⟨k + 1, m + 9, C7, (p.rd 1 1).p, bk4, ev4, l, by omega, by omega, by omega, by go_num, rfl, HR⟩
        case measure => simp [intOf]; omega
  . by_cases hlt2 : k < len
    all_goals
     go_wp2_with fail
     refine (sP _).mono ?_
     rintro e w1 ⟨rfl, hb1⟩
     go_wp2_with fail
     go_ret
     exact ⟨rfl, tr HP.out.P.lo hb1⟩
theorem wClockReads (v0 v1 v2 v3 : Value) (w : World) (h0 : FitsV w (.int .u64) v0) (h1 : FitsV w (.slice (.int .u32)) v1) (h2 : FitsV w (.slice aHb) v2) (h3 : FitsV w (.slice (.int .u64)) v3) :
 Calls prog 3 #[v0, v1, v2, v3] w fun e w' => e = .returned (.bool true) /\ Below w.heap.size w w' := by
 obtain ⟨T, rfl, t0, t1⟩ := fits_u64 h0
 obtain ⟨gy, gl, gc, rfl, hg⟩ := tN h1
 obtain ⟨ay, al, ac, rfl, ha⟩ := aB0 h2
 obtain ⟨y, len, cap, rfl, hy⟩ := xQ h3
 exact aCM w T t0 t1 gy gl gc hg ay al ac ha y len cap hy
theorem sF.tk {p : Pt} (h : sF p) {n c : Nat} (ok : p.x.ok n c) {N : Int} (n0 : 0 <= N) : sF (p.tk N) /\ p.x.ti <= (p.tk N).x.ti := by
 have et := rR h.wd N
 have hu := h.up
 refine ⟨⟨?_, ?_⟩, ?_⟩
 . show (p.x.tick N).wd = wz
   rw [et]
 . unfold Pt.dn at *
   show decide (p.se < (p.x.tick N).es.length) = false
   rw [et]
   exact hu
 . show p.x.ti <= (p.x.tick N).ti
   rw [et]
   exact aDK ok.t1 n0
theorem aLJ (T : Int) (gs : List Int) : sF ⟨zA T, gs, 0, 0, 0⟩ := by
 refine ⟨by rw [sM], ?_⟩
 unfold Pt.dn
 exact decide_eq_false (by show ¬ 0 < (zA T).es.length; rw [(rC T).2]; omega)
theorem kV.ok1 {w0 w : World} {b k q : Nat} {C : Bp} {p : Pt} {gv : Value} (S : kV w0 w b k q C p gv) : p.x.ok 1 1 := by have := S.H.bd.ok; rw [S.en.1, S.en.2] at this; exact this
theorem kV.read {w0 w : World} {b k q : Nat} {C : Bp} {p : Pt} {gv : Value} (S : kV w0 w b k q C p gv) (hk : k < 4294967000) :
 Calls prog 11 #[.pointer (some ⟨q, 0, none⟩)] w fun e w' => e = .returned (.tuple #[.int .u64 (p.rd 1 1).v, .int .i64 (p.rd 1 1).e]) /\ ∃ C2, kV w0 w' b (k + 9) q C2 (p.rd 1 1).p gv := by
 have h := tE q C p gv k w S.H S.ok (by omega)
 have ho := (sC (n := 1) (c := 1) S.ok S.ok1 S.H.bd.still (by omega)).po
 rw [S.en.1, S.en.2] at h
 refine h.mono ?_
 rintro e w' ⟨rfl, hL⟩
 exact ⟨rfl, S.left hL ho⟩
theorem zD (w : World) (T0 : Int) (t0 : 0 <= T0) (t1 : T0 < 18446744073709551616) (gy : Option Addr) (gl gc : Nat) (hg : sU w gy gl gc) (y : Option Addr) (len cap : Nat) (hy : aKv w y len cap) :
 Calls prog 4 #[.int .u64 T0, .slice gy gl gc, .slice y len cap] w fun e w' => e = .returned (.bool true) /\ Below w.heap.size w w' := by
 have HY := Hd hy
 obtain ⟨T, hT⟩ : ∃ T, T0.tmod 4611686018427387904 = T := ⟨_, rfl⟩
 have hT2 := hT
 rw [Int.tmod_eq_emod_of_nonneg t0] at hT2
 obtain ⟨gs, hgn, hgb, hga⟩ := hg.gaps (aI w) (min gl 64) (by omega)
 have HMD := Hd (aCL w T (by omega) (by omega) gy gl gc gs hgn hg.1 hgb (by rw [hgn]; exact hga) none 0 0 (.inl rfl))
 clear hy hg hgn hgb hga t0 t1 hT2
 go_enter func4, ntmps4
 go_upto_region 2 with (first
  | (go_at_call 7; refine (HMD.out).mono ?_; rintro e w1 ⟨k0, q, B, p, gv, bk, ev, dv, rfl, hbo, hk0, hlo, hp⟩; obtain ⟨hp0, rfl⟩ := hp rfl; have HBO := Hd hbo; have HLO := Hd hlo; have HPE := Hd hp0; clear hbo hk0 hlo hp hp0 HMD)
  | (rw [bE]; refine kK rfl (.tmp 8) (.tmp 23) rfl rfl p bk ev dv 1 rfl (ZP.new w1 (aD w1 cY)) ⟨HBO.out.F.M.one.1, HBO.out.F.M.one.2, HBO.out.F.G.one⟩ ?_; intro w2 hq2 ho2; have hb2 := aF.toBelow (aE (aI w1) cY) ho2 (fun k hk e => by omega) (Nat.le_refl _); have HP := Hd (show kV w w2 B.b 0 q B p gv from ⟨HBO.out.H.below hb2, HBO.out.nw, HBO.out.sq, rfl, ⟨HBO.out.en, HBO.out.ec⟩, HBO.out.F.po, tr HLO.out hb2⟩); clear hq2 ho2 hb2))
 have HC := Hd (show sF p by rw [HPE.out]; exact aLJ T gs)
 clear HBO HLO HPE hT
 generalize hbb : B.b = bb at *
 clear hbb
 have CB := Hd (fun w' (h : kV w w' bb 0 q B p gv) => by have := uN q B p gv w' h.H; rw [h.eb] at this; exact this)
 go_wp2_with (go_at_call 19; refine (CB.out _ HP.out).mono ?_; rintro e w3 ⟨rfl, hb⟩; have HP := Hd (HP.out.below hb); clear hb CB)
 go_loopw [10, 11] (fun l i wr => ∃ (k : Nat) (C : Bp) (p : Pt) (L : Int), k <= len /\ k <= 20 /\ i = .int .i64 k /\ l = .int .u64 L /\ L <= p.x.ti /\ Hid (kV w wr bb (10 * k) q C p gv) /\ Hid (sF p)) (fun l i wr => len - (intOf i).toNat)
 case atStart => exact ⟨0, B, p, 0, by omega, by omega, rfl, rfl, HP.out.ok1.t0, HP, HC⟩
 case round =>
  clear HP HC
  obtain ⟨k, C, p, L, hk, hkl, rfl, rfl, hL, HP, HC⟩ := hrel
  by_cases hlt : k < len /\ k < 20
  . obtain ⟨hlt, hlm⟩ := hlt
    rcases HY.out with hy | ⟨z, off, zs, rfl, hlc, hcm, hbl, hz⟩
    . omega
    unfold maxLen at hcm
    obtain ⟨c0, v0, v1⟩ := hz k (by omega)
    rw [<- HP.out.lo.cell (p := ⟨z, _, none⟩) (by simpa using hbl)] at c0
    clear hz
    have hbw : z < wr.heap.size := by have := HP.out.lo.size; omega
    generalize zs k = V at *
    obtain ⟨N, hN⟩ : ∃ N, V.tmod 1125899906842624 = N := ⟨_, rfl⟩
    have hN2 := hN
    rw [Int.tmod_eq_emod_of_nonneg v0] at hN2
    have n0 : 0 <= N := by omega
    have n1 : N < 18446744073709551616 := by omega
    have CT := Hd (fun w' (h : kV w w' bb (10 * k) q C p gv) => by have := sZ C p.x N w' h.H.bd n0 n1 (by have := h.ok.es; omega); rw [h.eb] at this; exact this)
    have h1 := HC.out.tk HP.out.ok1 n0
    have HK := Hd (Pt.tk_ok HP.out.ok HP.out.H.bd.still (by omega) N)
    go_upto_region 10 with (go_at_call 20; refine (CT.out _ HP.out).mono ?_; rintro e w4 ⟨rfl, hT⟩; obtain ⟨C1, S1⟩ := HP.out.left (HP.out.H.board hT) HK.out; have HP := Hd S1; clear hT S1 CT)
    have HP := Hd (show kV w w4 bb (10 * k + 1) q C1 (p.tk N) gv from HP.out)
    clear HK c0 hbw hcm hlc hbl
    generalize p.tk N = p1 at *
    obtain ⟨hc1, ht1⟩ := h1
    obtain ⟨I, j, hj, j1, j4⟩ := aOt HP.out.ok HP.out.ok1 HP.out.H.bd.still (by omega) hc1
    have hmd := HP.out.ok.md
    have CTm := Hd (fun C' P k' w' (h : kV w w' bb k' q C' P gv) => by have := aFO C' P.x w' h.H.bd; rw [h.eb] at this; exact this)
    have CMd := Hd (fun C' P k' w' (h : kV w w' bb k' q C' P gv) => aDt q C' P gv w' h.H)
    have CR := Hd (fun w' (h : kV w w' bb (10 * k + 1) q C1 p1 gv) => h.read (by omega))
    rw [I.e] at CR
    generalize p1.rd 1 1 = r at *
    have HI := Hd (And.intro I.hi I.cm)
    have f1 : decide (r.v < p1.x.ti) = false := decide_eq_false (by have := I.lo; omega)
    have f2 : decide (r.p.x.ti < r.v) = false := decide_eq_false (by have := I.hi; omega)
    have f3 : decide (r.v < L) = false := decide_eq_false (by have := I.lo; omega)
    obtain ⟨K, hK⟩ : ∃ K : Int, (2 * j + 1 : Nat) = K := ⟨_, rfl⟩
    have hsub : IntKind.i64.wrap ((r.p.md : Int) - (p1.md : Int)) = K := by rw [hj, IntKind.wrap_i64]; omega
    have f4 : decide (K < 3) = false := decide_eq_false (by omega)
    have f5 : decide (9 < K) = false := decide_eq_false (by omega)
    have f6 : K.tmod 2 = 1 := by rw [Int.tmod_eq_emod_of_nonneg (by omega)]; omega
    clear I hj j1 j4 hK hmd hc1 ht1 hL HC hN hN2 n0 n1 v0 v1
    go_upto_region 13 with (first
     | (go_at_call 21; refine (CTm.out _ _ _ _ HP.out).mono ?_; rintro e w5 ⟨rfl, hb⟩; have HP := Hd (HP.out.below hb); clear hb)
     | (go_at_call 22; refine (CMd.out _ _ _ _ HP.out).mono ?_; rintro e w5 ⟨rfl, hb⟩; have HP := Hd (HP.out.below hb); clear hb)
     | (go_at_call 11; refine (CR.out _ HP.out).mono ?_; rintro e w6 ⟨rfl, C2, S2⟩; have HP := Hd S2; clear S2 CR))
    go_wp2_with (go_at_call 21; refine (CTm.out _ _ _ _ HP.out).mono ?_; rintro e w5 ⟨rfl, hb⟩; have HP := Hd (HP.out.below hb); clear hb)
    go_roundw
    case rel => exact ⟨k + 1, C2, r.p, r.v, by omega, by omega, by go_num, rfl, HI.out.1, (by rw [show 10 * (k + 1) = 10 * k + 1 + 9 by omega]; exact HP), Hd HI.out.2⟩
    case measure => simp [intOf]; omega
  . by_cases hlt2 : k < len
    all_goals
     go_wp2_with fail
     refine (sP _).mono ?_
     rintro e w1 ⟨rfl, hb1⟩
     go_wp2_with fail
     go_ret
     exact ⟨rfl, tr HP.out.lo hb1⟩
theorem wClockBetween (v0 v1 v2 : Value) (w : World) (h0 : FitsV w (.int .u64) v0) (h1 : FitsV w (.slice (.int .u32)) v1) (h2 : FitsV w (.slice (.int .u64)) v2) :
 Calls prog 4 #[v0, v1, v2] w fun e w' => e = .returned (.bool true) /\ Below w.heap.size w w' := by
 obtain ⟨T, rfl, t0, t1⟩ := fits_u64 h0
 obtain ⟨gy, gl, gc, rfl, hg⟩ := tN h1
 obtain ⟨y, len, cap, rfl, hy⟩ := xQ h2
 exact zD w T t0 t1 gy gl gc hg y len cap hy
def dgw (T s : Int) : Wd := ⟨true, false, false, 0, T, s, 0⟩
theorem aKq : wh 268566536 = .dg 8 := by unfold wh; rw [if_neg (by decide), if_neg (by decide), if_neg (by decide), if_pos (by decide)]; rfl
theorem aKp : wh 268566528 = .dg 0 := by unfold wh; rw [if_neg (by decide), if_neg (by decide), if_neg (by decide), if_pos (by decide)]; rfl
section
variable {n c : Nat} {x : Bx} {T : Int}
theorem aIV (hx : x.wd = wz) (hs : x.rs.qs = false) : x.sto n c 268566536 T = { x with wd := { wz with tot := T } } := by
 have e : x.put n c 268566536 T = { x with wd := { wz with tot := T } } := by
  unfold Bx.put
  rw [aKq]
  show ({ x with wd := x.wd.sto 8 T } : Bx) = _
  rw [hx]
  rfl
 unfold Bx.sto
 rw [e]
 exact Bx.look_still ⟨rfl, hs⟩
theorem aLb (hx : x.wd = { wz with tot := T }) (hs : x.rs.qs = false) (h : 0 < T) : x.sto n c 268566528 1 = { x with wd := dgw T 0 } := by
 have e : x.put n c 268566528 1 = { x with wd := dgw T 0 } := by
  unfold Bx.put
  rw [aKp]
  show ({ x with wd := x.wd.sto 0 1 } : Bx) = _
  rw [hx]
  congr 1
  unfold Wd.sto Wd.ctlPut Wd.ctlTo wz dgw
  rw [if_neg (show ¬ (0 : Int) ≠ 0 by decide), if_pos rfl, if_neg (show ¬ false = true by decide), if_pos ⟨rfl, by decide, h⟩]
  rfl
 unfold Bx.sto
 rw [e]
 exact Bx.look_still ⟨rfl, hs⟩
end
structure Dg (T g : Int) (p : Pt) : Prop where
 gs : p.gs = [g]
 se : p.se <= p.x.es.length
 up : p.dn = false -> p.x.wd = dgw T (g * p.md) /\ g * p.md < T
 dn : p.dn = true -> T <= g * p.md
theorem Dg.gp {T g : Int} {p : Pt} (h : Dg T g p) : p.gp = g := by
 unfold Pt.gp
 rw [h.gs]
 simp [Nat.mod_one]
theorem Dg.ldp {T g : Int} {p : Pt} (h : Dg T g p) : Dg T g p.ldp := by
 by_cases hd : p.dn = true
 . have e : p.ldp = p := by unfold Pt.ldp; rw [if_pos hd]
   rw [e]
   exact h
 . have hd0 : p.dn = false := by simpa using hd
   have e : p.ldp = p.pass := by unfold Pt.ldp; rw [if_neg hd]
   obtain ⟨hw, hl⟩ := h.up hd0
   have hes := Pt.up hd0
   have hse := h.se
   rw [e]
   have ex : p.pass.x = p.x.tick g := by show p.x.tick p.gp = _; rw [h.gp]
   have em : (p.pass.md : Int) = p.md + 1 := rfl
   have emul : g * ((p.md : Int) + 1) = g * p.md + g := by rw [Int.mul_add, Int.mul_one]
   by_cases hf : T <= g * p.md + g
   . have et : p.x.wd.tick g = { dgw T (g * p.md) with si := T, fa := 2 } := by
      rw [hw]
      unfold Wd.tick
      rw [if_pos ⟨rfl, rfl⟩, if_pos (show (dgw T (g * p.md)).tot <= (dgw T (g * p.md)).si + g from hf)]
      rfl
     have hfa : (p.x.later g).wd.fa ≠ 0 := by show (p.x.wd.tick g).fa ≠ 0; rw [et]; show (2 : Int) ≠ 0; decide
     have hle : (p.x.tick g).es.length = p.x.es.length + 1 := by
      rw [Bx.tick_yes hfa]
      show (p.x.es ++ [_]).length = _
      simp
     have hdn : p.pass.dn = true := by unfold Pt.dn; rw [ex, hle]; exact decide_eq_true (by show p.se < _; omega)
     exact ⟨h.gs, by rw [ex, hle]; show p.se <= _; omega, (fun hx => by rw [hdn] at hx; cases hx), fun _ => by rw [em, emul]; exact hf⟩
   . have et : p.x.wd.tick g = dgw T (g * p.md + g) := by
      rw [hw]
      unfold Wd.tick
      rw [if_pos ⟨rfl, rfl⟩, if_neg (show ¬ (dgw T (g * p.md)).tot <= (dgw T (g * p.md)).si + g from hf)]
      rfl
     have hfa : (p.x.later g).wd.fa = 0 := by show (p.x.wd.tick g).fa = 0; rw [et]; rfl
     have hle : p.pass.x = p.x.later g := by rw [ex, Bx.tick_no hfa]
     have hes2 : p.pass.x.es = p.x.es := by rw [hle]; rfl
     have hdn : p.pass.dn = false := by unfold Pt.dn; rw [hes2]; exact hd0
     refine ⟨h.gs, by rw [hes2]; exact hse, fun _ => ⟨?_, by rw [em, emul]; omega⟩, fun hx => by rw [hdn] at hx; cases hx⟩
     rw [hle, em, emul, <- et]
     rfl
def DgR (T g : Int) (r : Rd) : Prop := Dg T g r.p /\ (r.e = 0 /\ r.p.dn = false \/ r.e = 13 /\ r.p.dn = true)
theorem aMq {n c : Nat} {T g : Int} : ∀ (k : Nat) (p : Pt) (f : Int), Dg T g p -> p.dn = false -> DgR T g (p.rds n c k f) := by
 intro k
 induction k with
 | zero => exact fun p f h hd => ⟨h, .inl ⟨rfl, hd⟩⟩
 | succ k ih =>
   intro p f h hd
   unfold Pt.rds
   have e1 := zX (n := n) (c := c) (p := p)
   have e2 := mP (n := n) (c := c) (p := p.ldp)
   cases h1 : p.ldp.dn
   . rw [h1, if_neg (by decide)] at e1
     rw [if_pos e1]
     cases h2 : p.ldp.ldp.dn
     . rw [h2, if_neg (by decide)] at e2
       rw [if_pos e2]
       split
       . exact ⟨h.ldp.ldp, .inl ⟨rfl, h2⟩⟩
       . exact ih _ _ h.ldp.ldp h2
     . rw [h2, if_pos rfl] at e2
       rw [e2, if_neg (by decide)]
       exact ⟨h.ldp.ldp, .inr ⟨rfl, h2⟩⟩
   . rw [h1, if_pos rfl] at e1
     rw [e1, if_neg (by decide)]
     exact ⟨h.ldp, .inr ⟨rfl, h1⟩⟩
theorem aOs {n c : Nat} {T g : Int} {p : Pt} (h : Dg T g p) : DgR T g (p.rd n c) := by
 have e1 := mP (n := n) (c := c) (p := p)
 unfold Pt.rd
 cases h1 : p.ldp.dn
 . rw [h1, if_neg (by decide)] at e1
   rw [if_pos e1]
   exact aMq 4 _ _ h.ldp h1
 . rw [h1, if_pos rfl] at e1
   rw [e1, if_neg (by decide)]
   exact ⟨h.ldp, .inr ⟨rfl, h1⟩⟩
theorem aJA {n c : Nat} {p : Pt} (h : p.dn = true) : p.rd n c = ⟨p, 0, 13⟩ := by
 have e : p.ldp = p := by unfold Pt.ldp; rw [if_pos h]
 have e1 := mP (n := n) (c := c) (p := p)
 unfold Pt.rd
 rw [e1, e, h, if_pos rfl, if_neg (by decide)]
theorem kV.ok11 {w0 w : World} {b k q : Nat} {C : Bp} {p : Pt} {gv : Value} (S : kV w0 w b k q C p gv) : p.x.ok 1 1 := by have := S.H.bd.ok; rw [S.en.1, S.en.2] at this; exact this
theorem kV.sto {w0 w : World} {b k q : Nat} {C : Bp} {p : Pt} {gv : Value} (S : kV w0 w b k q C p gv) (hk : k < 4294967000) (a v : Int) (a0 : 0 <= a) (a1 : a < 4294967296) (v0 : 0 <= v) (v1 : v < 4294967296) (hE : Bx.ste 1 1 a = 0) :
 Calls prog 23 #[.pointer (some ⟨b, 0, none⟩), .int .u32 a, .int .u32 v] w fun e w' => e = .returned (.int .i64 0) /\ ∃ C2, kV w0 w' b (k + 1) q C2 (p.put 1 1 a v) gv := by
 have h := aDM C p.x a v w S.H.bd a0 a1 v0 v1 (by have := S.ok.es; omega)
 have ho := Pt.put_ok (n := 1) (c := 1) S.ok S.H.bd.still (by omega) a v
 rw [S.eb, S.en.1, S.en.2, hE] at h
 refine h.mono ?_
 rintro e w' ⟨rfl, hL⟩
 exact ⟨rfl, S.left (S.H.board hL) ho⟩
theorem aLZ {x : Bx} {tot g : Int} (hw : x.wd = wz) (hq : x.rs.qs = false) (he : x.es.length = 0) (h : 0 < tot) : Dg tot g ((Pt.put 1 1 ⟨x, [g], 0, 0, 0⟩ 268566536 tot).put 1 1 268566528 1) := by
 have e : (x.sto 1 1 268566536 tot).sto 1 1 268566528 1 = { x with wd := dgw tot 0 } := by rw [aIV hw hq]; exact aLb rfl hq h
 show Dg tot g ⟨(x.sto 1 1 268566536 tot).sto 1 1 268566528 1, [g], 0, 0, 0⟩
 rw [e]
 have hdn : Pt.dn ⟨{ x with wd := dgw tot 0 }, [g], 0, 0, 0⟩ = false := by unfold Pt.dn; exact decide_eq_false (by show ¬ 0 < x.es.length; rw [he]; omega)
 exact ⟨rfl, Nat.zero_le _, fun _ => ⟨by show dgw tot 0 = dgw tot (g * ((0 : Nat) : Int)); simp, by show g * ((0 : Nat) : Int) < tot; simpa using h⟩, fun hx => by rw [hdn] at hx; cases hx⟩
theorem aPe (T g tot : Int) (h : 0 < tot) : Dg tot g ((Pt.put 1 1 ⟨zA T, [g], 0, 0, 0⟩ 268566536 tot).put 1 1 268566528 1) :=
 aLZ (by rw [sM]) (by rw [sM]; rfl) (rC T).2 h
section
variable {w0 w : World} {b k q ck : Nat} {C : Bp} {p : Pt} {gv : Value} {l : Int}
theorem vU {P : Prop} (h : P := by
 have ho := (sC (n := 1) (c := 1) S.ok S.ok11 S.H.bd.still (by omega)).po
 rw [S.en.1, S.en.2, hr] at c
 rw [hr] at ho
 exact c.mono fun e w' ⟨he, L⟩ => ⟨he, S.clk L ho hc⟩
 ) : P := h
theorem kV.cNow (S : kV w0 w b k q C p gv) (K : iL w ck q l) (hc : w0.heap.size <= ck) (hk : k < 4294967000) {r : Rd} (hr : p.rd 1 1 = r) :
 Calls prog 12 #[.pointer (some ⟨ck, 0, none⟩)] w fun e w' => e = .returned (.tuple #[.int .u64 r.v, .int .i64 r.e]) /\ ∃ C2, kV w0 w' b (k + 9) q C2 r.p gv /\ iL w' ck q (aCj l r.v r.e) := by
 have c := aFg q C p gv k ck l w S.H K S.ok (by omega)
 exact vU
theorem kV.cAfter (S : kV w0 w b k q C p gv) (K : iL w ck q l) (hc : w0.heap.size <= ck) (hk : k < 4294967000) (d : Int) (d0 : 0 <= d) (d1 : d < 18446744073709551616) {r : Rd} (hr : p.rd 1 1 = r) :
 Calls prog 13 #[.pointer (some ⟨ck, 0, none⟩), .int .u64 d] w fun e w' => e = .returned (.tuple #[.int .u64 (aft d r.v r.e), .int .i64 r.e]) /\ ∃ C2, kV w0 w' b (k + 9) q C2 r.p gv /\ iL w' ck q (aCj l r.v r.e) := by
 have c := aDR q C p gv k ck l w S.H K S.ok (by omega) d d0 d1
 exact vU
end
theorem aEP (w : World) (T0 : Int) (t0 : 0 <= T0) (t1 : T0 < 18446744073709551616) (G0 : Int) (g0 : 0 <= G0) (g1 : G0 < 4294967296) (U0 : Int) (u0 : 0 <= U0) (u1 : U0 < 4294967296) :
 Calls prog 5 #[.int .u64 T0, .int .u32 G0, .int .u32 U0] w fun e w' => e = .returned (.bool true) /\ Below w.heap.size w w' := by
 obtain ⟨T, hT⟩ : ∃ T, T0.tmod 1099511627776 = T := ⟨_, rfl⟩
 have hT2 := hT
 rw [Int.tmod_eq_emod_of_nonneg t0] at hT2
 obtain ⟨g, hG⟩ : ∃ g, G0.tmod 1000000 = g := ⟨_, rfl⟩
 have hG2 := hG
 rw [Int.tmod_eq_emod_of_nonneg g0] at hG2
 obtain ⟨U, hU⟩ : ∃ U, U0.tmod 1000000 = U := ⟨_, rfl⟩
 have hU2 := hU
 rw [Int.tmod_eq_emod_of_nonneg u0] at hU2
 obtain ⟨tot, htot⟩ : ∃ tot, 1 + U = tot := ⟨_, rfl⟩
 have hadd : IntKind.u32.wrap (1 + U) = tot := by rw [IntKind.wrap_u32]; omega
 have q0 : 0 < tot := by omega
 have q1 : tot <= 1000000 := by omega
 have b0 : 0 <= g := by omega
 have b1 : g < 1000000 := by omega
 have HQ := Hd (And.intro q0 q1)
 have HG := Hd (And.intro b0 b1)
 have HB := Hd (aE (aI w) (.cells #[.int .u32 g] tU (0, 0)))
 have HMD := Hd (aCL (w.alloc (.cells #[.int .u32 g] tU (0, 0))) T (by omega) (by omega) (some ⟨w.heap.size, 0, none⟩) 1 1 [g] rfl (Nat.le_refl _) (fun x hx => by rw [List.mem_singleton.1 hx]; omega)
  ⟨_, 1, rfl, Nat.le_refl _, by unfold maxLen; decide, .inr ⟨_, 0, rfl, lt_of_block (aD w _), .inl (lt_of_block (aD w _)), fun i x hi => by
   rw [aA (aD w _)]
   match i, hi with
   | 0, hi => simp at hi; subst hi; rfl
   | i + 1, hi => simp at hi⟩⟩ none 0 0 (.inl rfl))
 clear t0 t1 g0 g1 u0 u1 hT2 hG2 hU2 htot q0 q1 b0 b1
 go_enter func5, ntmps5
 go_upto_region 3 with (first
  | (go_at_call 7; refine (HMD.out).mono ?_; rintro e w1 ⟨k0, q, B, p, gv, bk, ev, dv, rfl, hbo, hk0, hlo, hp⟩; obtain ⟨hp0, rfl⟩ := hp rfl; have HBO := Hd hbo; have HLO := Hd hlo; have HPE := Hd hp0; clear hbo hk0 hlo hp hp0 HMD)
  | (rw [bE]; refine kK rfl (.tmp 8) (.tmp 24) rfl rfl p bk ev dv 1 rfl (ZP.new w1 (aD w1 cY)) ⟨HBO.out.F.M.one.1, HBO.out.F.M.one.2, HBO.out.F.G.one⟩ ?_; intro w2 hq2 ho2; have hb2 := aF.toBelow (aE (aI w1) cY) ho2 (fun k hk e => by omega) (Nat.le_refl _); have HP := Hd (show kV (w.alloc (.cells #[.int .u32 g] tU (0, 0))) w2 B.b 0 q B p gv from ⟨HBO.out.H.below hb2, HBO.out.nw, HBO.out.sq, rfl, ⟨HBO.out.en, HBO.out.ec⟩, HBO.out.F.po, tr HLO.out hb2⟩); clear hq2 ho2 hb2))
 have HD := Hd (show Dg tot g ((p.put 1 1 268566536 tot).put 1 1 268566528 1) by rw [HPE.out]; exact aPe T g tot HQ.out.1)
 clear HBO HLO HPE hT
 generalize w.alloc (.cells #[.int .u32 g] tU (0, 0)) = W0 at *
 generalize hbb : B.b = bb at *
 clear hbb
 have CB := Hd (fun w' (h : kV W0 w' bb 0 q B p gv) => by have := uN q B p gv w' h.H; rw [h.eb] at this; exact this)
 have e8 : Bx.ste 1 1 268566536 = 0 := by unfold Bx.ste; rw [aKq]; rfl
 have e0 : Bx.ste 1 1 268566528 = 0 := by unfold Bx.ste; rw [aKp]; rfl
 have CT := Hd (fun w' (h : kV W0 w' bb 0 q B p gv) => h.sto (by omega) 268566536 tot (by decide) (by decide) (by have := HQ.out; omega) (by have := HQ.out; omega) e8)
 have CE := Hd (fun C w' (h : kV W0 w' bb 1 q C (p.put 1 1 268566536 tot) gv) => h.sto (by omega) 268566528 1 (by decide) (by decide) (by decide) (by decide) e0)
 clear e8 e0
 go_upto_region 9 with (first
  | (go_at_call 19; refine (CB.out _ HP.out).mono ?_; rintro e w3 ⟨rfl, hb⟩; have HP := Hd (HP.out.below hb); clear hb CB)
  | (go_at_call 23; refine (CT.out _ HP.out).mono ?_; rintro e w4 ⟨rfl, C1, S1⟩; have HP1 := Hd S1; clear S1 CT HP)
  | (go_at_call 23; refine (CE.out _ _ HP1.out).mono ?_; rintro e w5 ⟨rfl, C2, S2⟩; have HP := Hd S2; clear S2 CE HP1))
 generalize (p.put 1 1 268566536 tot).put 1 1 268566528 1 = p2 at *
 have hrd := sC (n := 1) (c := 1) HP.out.ok HP.out.ok11 HP.out.H.bd.still (by omega)
 have hdr := aOs (n := 1) (c := 1) HD.out
 obtain ⟨r, hr⟩ : ∃ r, p2.rd 1 1 = r := ⟨_, rfl⟩
 have CN := Hd (fun w' ck (h : kV W0 w' bb 2 q C2 p2 gv) (K : iL w' ck q 0) (hc : W0.heap.size <= ck) => h.cNow K hc (by omega) hr)
 rw [hr] at hrd hdr
 have hmd := hrd.po.md
 have HOK := Hd hrd.po
 have hup := hrd.up
 clear hrd HD hr
 go_upto_region 10 with (go_at_call 8; refine (aJ9 q _).mono ?_; rintro e w6 ⟨rfl, hw6⟩; have hb := hw6 ▸ aE (aI w5) (ckO q 0); have HK := Hd (show iL w6 w5.heap.size q 0 by rw [hw6]; exact aD w5 _); have HC := Hd HP.out.lo.size; have HP := Hd (HP.out.below hb); clear hb hw6)
 generalize w5.heap.size = ck at *
 obtain ⟨rp, v, E⟩ := r
 simp only at hmd hup HOK CN hdr
 obtain ⟨hdg, hcase⟩ := hdr
 simp only at hdg hcase
 have g64 : IntKind.u64.wrap g = g := by rw [IntKind.wrap_u64]; have := HG.out; omega
 have t64 : IntKind.u64.wrap tot = tot := by rw [IntKind.wrap_u64]; have := HQ.out; omega
 have m64 : IntKind.u64.wrap (rp.md : Int) = (rp.md : Int) := by rw [IntKind.wrap_u64]; omega
 have p0 : 0 <= g * (rp.md : Int) := Int.mul_nonneg HG.out.1 (by omega)
 have p1 : g * (rp.md : Int) <= 1000000 * 11 := Int.mul_le_mul (by have := HG.out; omega) (by omega) (by omega) (by decide)
 have pm : IntKind.u64.wrap (g * (rp.md : Int)) = g * (rp.md : Int) := by rw [IntKind.wrap_u64]; omega
 have CM := Hd (fun C' k w' (h : kV W0 w' bb k q C' rp gv) => aDt q C' rp gv w' h.H)
 rcases hcase with ⟨rfl, hdn⟩ | ⟨rfl, hdn⟩
 . have hlt : decide (g * (rp.md : Int) < tot) = true := decide_eq_true (hdg.up hdn).2
   have CD := Hd (fun C' k w' (h : kV W0 w' bb k q C' rp gv) => by have := pY q C' rp gv w' h.H h.ok.td h.ok.se; rw [hdn] at this; exact this)
   clear hdg hup hmd p0 p1
   go_upto_region 12 with (first
    | (go_at_call 12; refine (CN.out _ _ HP.out HK.out HC.out).mono ?_; rintro e w7 ⟨rfl, C3, S3, K3⟩; have HP := Hd S3; have HK := Hd (show iL w7 ck q v from K3); clear S3 K3 CN)
    | (go_at_call 22; refine (CM.out _ _ _ HP.out).mono ?_; rintro e w8 ⟨rfl, hb⟩; have HP := Hd (HP.out.below hb); have HK := Hd (show iL w8 ck q v from aC hb HK.out (lt_of_block HK.out)); clear hb))
   have vv : (v == v) = true := beq_self_eq_true v
   go_wp2_with (first
    | (go_at_call 18; refine (sP _).mono ?_; rintro e w9 ⟨rfl, hb⟩; have HP := Hd (HP.out.below hb); have HK := Hd (show iL w9 ck q v from aC hb HK.out (lt_of_block HK.out)); clear hb)
    | (go_at_call 9; refine (kE ck q v _ HK.out).mono ?_; rintro e w10 ⟨rfl, rfl⟩)
    | (go_at_call 24; refine (CD.out _ _ _ HP.out).mono ?_; rintro e w11 ⟨rfl, hb⟩; have HP := Hd (HP.out.below hb); clear hb))
   go_ret
   exact ⟨rfl, tr HB.out HP.out.lo⟩
 . have hv : v = 0 := by omega
   subst hv
   have hlt : decide (g * (rp.md : Int) < tot) = false := decide_eq_false (by have := hdg.dn hdn; omega)
   have CD := Hd (fun C' k w' (h : kV W0 w' bb k q C' rp gv) => by have := pY q C' rp gv w' h.H h.ok.td h.ok.se; rw [hdn] at this; exact this)
   have CA := Hd (fun C' w' (h : kV W0 w' bb (2 + 9) q C' rp gv) (K : iL w' ck q 0) (hc : W0.heap.size <= ck) => h.cAfter K hc (by omega) 7 (by decide) (by decide) (aJA (n := 1) (c := 1) hdn))
   clear hdg hup hmd p0 p1
   go_upto_region 12 with (first
    | (go_at_call 12; refine (CN.out _ _ HP.out HK.out HC.out).mono ?_; rintro e w7 ⟨rfl, C3, S3, K3⟩; have HP := Hd S3; have HK := Hd (show iL w7 ck q 0 from K3); clear S3 K3 CN)
    | (go_at_call 22; refine (CM.out _ _ _ HP.out).mono ?_; rintro e w8 ⟨rfl, hb⟩; have HP := Hd (HP.out.below hb); have HK := Hd (show iL w8 ck q 0 from aC hb HK.out (lt_of_block HK.out)); clear hb))
   go_wp2_with (first
    | (go_at_call 13; refine (CA.out _ _ HP.out HK.out HC.out).mono ?_; rintro e w7 ⟨rfl, C3, S3, K3⟩; have HP := Hd S3; have HK := Hd (show iL w7 ck q 0 from K3); clear S3 K3 CA)
    | (go_at_call 18; refine (sP _).mono ?_; rintro e w9 ⟨rfl, hb⟩; have HP := Hd (HP.out.below hb); have HK := Hd (show iL w9 ck q 0 from aC hb HK.out (lt_of_block HK.out)); clear hb)
    | (go_at_call 9; refine (kE ck q 0 _ HK.out).mono ?_; rintro e w10 ⟨rfl, rfl⟩)
    | (go_at_call 24; refine (CD.out _ _ _ HP.out).mono ?_; rintro e w11 ⟨rfl, hb⟩; have HP := Hd (HP.out.below hb); clear hb))
   go_ret
   exact ⟨rfl, tr HB.out HP.out.lo⟩
theorem wClockDown (v0 v1 v2 : Value) (w : World) (h0 : FitsV w (.int .u64) v0) (h1 : FitsV w (.int .u32) v1) (h2 : FitsV w (.int .u32) v2) :
 Calls prog 5 #[v0, v1, v2] w fun e w' => e = .returned (.bool true) /\ Below w.heap.size w w' := by
 obtain ⟨T, rfl, t0, t1⟩ := fits_u64 h0
 obtain ⟨g, rfl, g0, g1⟩ := fits_u32 h1
 obtain ⟨u, rfl, u0, u1⟩ := fits_u32 h2
 exact aEP w T t0 t1 g g0 g1 u u0 u1
end Go.Proofs.YtealhichdbimlaaGreat.B
