/- A part of the proof of a law of layer 12: br. -/
import Derived.Test.YtaohacadochldaaGreatZCbq
set_option linter.unusedVariables false
set_option linter.unusedSimpArgs false
set_option maxHeartbeats 12800000
set_option maxRecDepth 100000
namespace Go.Proofs.YtaohacadochldaaGreat.B
open Go.Proofs.Tryz
open Go.ChangeShapes Go.WideShapes Go.RowKit Go.Sort
structure A14 (w0 w : World) (b n k q : Nat) (C : Bp) (p : Pt) (gv : Value) (c h : Nat) (l : Int) : Prop where
 S : qP w0 w b n k q C p gv c h l
 cm : qR p
 ot : ∀ x, x ≠ h -> x < n -> p.x.D x = 18446744073709551615
theorem A14.below {w0 w w' : World} {b n k q c h : Nat} {C : Bp} {p : Pt} {gv : Value} {l : Int} (A : A14 w0 w b n k q C p gv c h l) (hb : Below w.heap.size w w') : A14 w0 w' b n k q C p gv c h l := ⟨A.S.below hb, A.cm, A.ot⟩
structure P14 (n h : Nat) (d : Int) (p p2 : Pt) : Prop where
 cm : qR p2
 D : p2.x.D h = d
 md : (p2.md : Int) = (p.md : Int) + 3
 ot : (∀ x, x ≠ h -> x < n -> p.x.D x = 18446744073709551615) -> ∀ x, x ≠ h -> x < n -> p2.x.D x = 18446744073709551615
theorem A14.next {w0 w : World} {b n k q c h : Nat} {C : Bp} {p : Pt} {gv : Value} {l d : Int} (A : A14 w0 w b n k q C p gv c h l) (hk : k < 4294967000) (d0 : 0 <= d) (d1 : d < 18446744073709551616) : P14 n h d p (p.arm n 1 h d).p := by
 obtain ⟨e, h1, h2, h3, h4⟩ := tJ A.S.ok A.S.xok A.S.H.bd.still A.cm (by omega) A.S.hn d0 d1
 exact ⟨h1, h2, by rw [h4]; omega, fun ho x hx hn => by rw [h3 x hx]; exact ho x hx hn⟩
theorem aHd (w : World) (a hh : Int) (gy : Option Addr) (gl gc : Nat) (hg : qT w gy gl gc) (y : Option Addr) (len cap : Nat) (hy : aNf w y len cap) :
 Calls prog 4 #[.int .i64 a, .int .i64 hh, .slice gy gl gc, .slice y len cap] w fun e w' => e = .returned (.bool true) /\ Below w.heap.size w w' := by
 obtain ⟨n, hN, n1, n8⟩ := sM a
 obtain ⟨h, hH, hhn⟩ := aCn hh n n1 n8
 obtain ⟨gs, hgn, hgb, hga⟩ := hg.gaps (aH w) (min gl 64) (by omega)
 obtain ⟨x0, hx0⟩ : ∃ x0, qQ 10 = x0 := ⟨_, rfl⟩
 have HMD := Hd (aAU w x0 hx0 n n1 n8 gy gl gc gs hgn hg.1 hgb (by rw [hgn]; exact hga))
 have HX0 := Hd hx0
 have HY := Hd hy
 have HN := Hd hN
 have HH := Hd hH
 have HHN := Hd hhn
 clear hx0 hy hN hH hg hgn hgb hga hhn
 go_enter func4, ntmps4
 go_upto_region 2 with (fail)
 simp only [HN.out]
 have eW := aJm n n8
 have hn0 : ((n : Int) == 0) = false := by simp; omega
 go_upto_region 3 with (fail)
 simp only [HH.out]
 clear HN HH eW hn0
 go_upto_region 4 with (first
  | (go_at_call 7; refine (HMD.out).mono ?_; rintro e w1 ⟨q, C, gv, bk, ev, dv, rfl, hbo, hlo⟩; have HBO := Hd hbo; have HLO := Hd hlo; clear hbo hlo HMD)
  | (rw [bH]; refine nD rfl (.tmp 11) (.tmp 34) rfl rfl ⟨x0, gs, 0, 0, 0⟩ bk ev dv n rfl (ZP.new w1 (aD w1 dI)) ⟨HBO.out.F.M.one.1, HBO.out.F.M.one.2, HBO.out.F.G.one⟩ ?_; intro w2 hq2 ho2; have hb2 := aF.toBelow (aE (aH w1) dI) ho2 (fun k hk e => by omega) (Nat.le_refl _); have HBO := Hd (HBO.out.below hb2); have HLO := Hd (tr HLO.out hb2); clear hq2 ho2 hb2))
 have HCM := Hd (show qR ⟨x0, gs, 0, 0, 0⟩ from HX0.out ▸ ⟨rfl, rfl⟩)
 have HOT := Hd (show ∀ x, x ≠ h -> x < n -> (⟨x0, gs, 0, 0, 0⟩ : Pt).x.D x = 18446744073709551615 from HX0.out ▸ fun x _ _ => rfl)
 clear HX0
 generalize (⟨x0, gs, 0, 0, 0⟩ : Pt) = p0 at *
 generalize hbb : C.b = b at *
 have HBB := Hd hbb
 clear hbb
 have hBn := HBO.out.en
 go_upto_region 5 with (go_at_call 8; refine (aKl q C p0 gv h _ HBO.out.H (by rw [hBn]; exact HHN.out)).mono ?_; rintro e w3 ⟨c, rfl, hK, hcc, hb⟩; have HA := Hd (show A14 w w3 b n 0 q C p0 gv c h 18446744073709551615 from ⟨⟨HBO.out.H.below hb, HBO.out.nw, HBO.out.sq, HBB.out, HBO.out.en, HBO.out.ec, HBO.out.F.po, tr HLO.out hb, hK, Nat.le_trans HLO.out.size hcc, HHN.out⟩, HCM.out, HOT.out⟩); clear hK hcc hb)
 clear HBO HLO HCM HOT HBB hBn
 go_upto_region 8 with (go_at_call 20; refine (pI q C p0 gv _ HA.out.S.H).mono ?_; rintro e w4 ⟨rfl, hb⟩; have HEB := Hd HA.out.S.eb; rw [HEB.out]; have HA := Hd (HA.out.below hb); clear hb HEB)
 go_wp2_with fail
 go_loopw [15] (fun i wr => ∃ (k : Nat) (C : Bp) (p : Pt) (l : Int), k <= len /\ k <= 20 /\ i = .int .i64 k /\ Hid (A14 w wr b n (3 * k) q C p gv c h l)) (fun i wr => len - (intOf i).toNat)
 case atStart => exact ⟨0, C, p0, _, by omega, by omega, rfl, HA⟩
 case round =>
  clear HA
  obtain ⟨k, C, p, l, hk, hkl, rfl, HA⟩ := hrel
  by_cases hlt : k < len /\ k < 20
  . obtain ⟨hlt, hlm⟩ := hlt
    rcases HY.out with hy | ⟨z, off, zs, rfl, hlc, hcm, hbl, hz⟩
    . omega
    unfold maxLen at hcm
    obtain ⟨c0, v0, v1⟩ := hz k (by omega)
    have HCE := Hd (fun W (lo : Below w.heap.size w W) => show W.cell? ⟨z, off + k, none⟩ = some (.int .u64 (zs k)) by rw [lo.cell (p := ⟨z, _, none⟩) (by simpa using hbl)]; exact c0)
    clear hz c0 hbl
    generalize zs k = V at *
    have HV := Hd (And.intro v0 v1)
    have hwm : IntKind.i64.wrap ((p.md : Int) + 3) = (p.md : Int) + 3 := by have := HA.out.S.ok.md; rw [IntKind.wrap_i64]; omega
    have HP2 := Hd (HA.out.next (by omega) v0 v1)
    have CA := Hd (fun w' (A : A14 w w' b n (3 * k) q C p gv c h l) => A.S.arm A.cm (by omega) HV.out.1 HV.out.2)
    generalize hp2 : (p.arm n 1 h V).p = p2 at *
    clear hp2 v0 v1
    have CM0 := Hd (fun w' (A : A14 w w' b n (3 * k) q C p gv c h l) => A.S.made rfl)
    have CM := Hd (fun C2 w' (S : qP w w' b n (3 * k + 3) q C2 p2 gv c h V) => S.made HP2.out.md)
    have CC := Hd (fun C2 w' (S : qP w w' b n (3 * k + 3) q C2 p2 gv c h V) => S.cmp S.hn HP2.out.D)
    obtain ⟨bt, hbt⟩ : ∃ bt, decide (V <= p2.x.ti) = bt := ⟨_, rfl⟩
    have CP := Hd (fun C2 w' (S : qP w w' b n (3 * k + 3) q C2 p2 gv c h V) => S.pend HP2.out.D hbt)
    have CT := Hd (fun C2 w' (S : qP w w' b n (3 * k + 3) q C2 p2 gv c h V) => S.time)
    generalize p2.x.ti = ti at *
    have m0 : (((p.md : Int) + 3) != ((p.md : Int) + 3)) = false := bne_self_eq_false _
    have m1 : (V != V) = false := bne_self_eq_false _
    have m2 : (bt != bt) = false := bne_self_eq_false _
    have lk0 : decide ((0 : Int) <= (k : Int)) = true := decide_eq_true (by omega)
    go_upto_region 12 with (go_at_call 21; refine (CM0.out _ HA.out).mono ?_; rintro e w5 ⟨rfl, hb⟩; have HA := Hd (HA.out.below hb); clear hb CM0)
    have HA := Hd (HA.out.below (jQ (aH w5)))
    refine wp_region_held_drew (S := fun w' => w'.cell? ⟨z, off + k, none⟩ = some (.int .u64 V)) (by kernel_rfl) (HCE.out w5.drew HA.out.S.lo) (fun _ => ?_)
    generalize w5.drew = W5 at *
    have HS := Hd (HCE.out W5 HA.out.S.lo)
    refine cW (i := 0) (v := .pointer (some ⟨c, 0, none⟩)) HS.out ?_
    simp only [dN, dP, dO, Act.put, bN, bP, bO]
    refine cW (i := 1) (v := .slice (some ⟨z, off, none⟩) len cap) HS.out ?_
    simp only [dN, dP, dO, Act.put, bN, bP, bO]
    refine cW (i := 2) (v := .int .i64 k) HS.out ?_
    simp only [dN, dP, dO, Act.put, bN, bP, bO]
    refine cW (i := 3) (v := .pointer (some ⟨z, off + k, none⟩)) HS.out ?_
    simp only [dN, dP, dO, Act.put, bN, bP, bO]
    refine qM (i := 4) (v := .int .u64 V) rfl (by kernel_rfl) (fun _ _ _ h => h) (fun w' hSw => by have c := hSw; clear hSw; go_simp) HS.out ?_
    simp only [dN, dP, dO, Act.put, bN, bP, bO]
    refine lU (i := 5) (by kernel_rfl) rfl fun K hK => ?_
    go_simp
    go_wp2_with (go_at_call 12; refine (CA.out _ HA.out).mono ?_; rintro e W6 ⟨rfl, C2, S2⟩; have HW := Hd S2; have HS := Hd (HCE.out W6 S2.lo); have HOT := Hd (HP2.out.ot HA.out.ot); clear S2 CA HA)
    refine hK.out _ _ HS.out (fun _ => ?_)
    clear hK K
    refine cW (i := 6) (v := .bool false) HS.out ?_
    simp only [dN, dP, dO, Act.put, bN, bP, bO]
    refine cW (i := 7) (v := .bool false) HS.out ?_
    simp only [dN, dP, dO, Act.put, bN, bP, bO]
    refine cW (i := 8) (v := .pointer (some ⟨q, 0, none⟩)) HS.out ?_
    simp only [dN, dP, dO, Act.put, bN, bP, bO]
    refine cW (i := 10) (v := .int .i64 p.md) HS.out ?_
    simp only [dN, dP, dO, Act.put, bN, bP, bO]
    refine cW (i := 11) (v := .int .i64 ((p.md : Int) + 3)) HS.out ?_
    simp only [dN, dP, dO, Act.put, bN, bP, bO]
    refine lU (i := 9) (by kernel_rfl) rfl fun K hK => ?_
    go_simp
    go_wp2_with (go_at_call 21; refine (CM.out _ _ HW.out).mono ?_; rintro e W7 ⟨rfl, hb⟩; have HS := Hd (HCE.out _ (tr HW.out.lo hb)); have HW := Hd (HW.out.below hb); clear hb)
    refine hK.out _ _ HS.out (fun _ => ?_)
    clear hK K
    refine cW (i := 12) (v := .bool false) HS.out ?_
    simp only [dN, dP, dO, Act.put, bN, bP, bO]
    refine cW (i := 13) (v := .bool false) HS.out ?_
    simp only [dN, dP, dO, Act.put, bN, bP, bO]
    refine cW (i := 14) (v := .bool false) HS.out ?_
    simp only [dN, dP, dO, Act.put, bN, bP, bO]
    refine cW (i := 15) (v := .pointer (some ⟨b, 0, none⟩)) HS.out ?_
    simp only [dN, dP, dO, Act.put, bN, bP, bO]
    refine cW (i := 16) (v := .int .i64 h) HS.out ?_
    simp only [dN, dP, dO, Act.put, bN, bP, bO]
    refine cW (i := 18) (v := .slice (some ⟨z, off, none⟩) len cap) HS.out ?_
    simp only [dN, dP, dO, Act.put, bN, bP, bO]
    refine cW (i := 19) (v := .int .i64 k) HS.out ?_
    simp only [dN, dP, dO, Act.put, bN, bP, bO]
    refine cW (i := 20) (v := .pointer (some ⟨z, off + k, none⟩)) HS.out ?_
    simp only [dN, dP, dO, Act.put, bN, bP, bO]
    refine qM (i := 21) (v := .int .u64 V) rfl (by kernel_rfl) (fun _ _ _ h => h) (fun w' hSw => by have c := hSw; clear hSw; go_simp) HS.out ?_
    simp only [dN, dP, dO, Act.put, bN, bP, bO]
    refine lU (i := 17) (by kernel_rfl) rfl fun K hK => ?_
    go_simp
    go_wp2_with (go_at_call 22; refine (CC.out _ _ HW.out).mono ?_; rintro e W8 ⟨rfl, hb⟩; have HS := Hd (HCE.out _ (tr HW.out.lo hb)); have HW := Hd (HW.out.below hb); clear hb)
    refine hK.out _ _ HS.out (fun _ => ?_)
    clear hK K
    refine cW (i := 22) (v := .bool false) HS.out ?_
    simp only [dN, dP, dO, Act.put, bN, bP, bO]
    refine cW (i := 23) (v := .bool false) HS.out ?_
    simp only [dN, dP, dO, Act.put, bN, bP, bO]
    refine cW (i := 24) (v := .bool false) HS.out ?_
    simp only [dN, dP, dO, Act.put, bN, bP, bO]
    refine cW (i := 25) (v := .pointer (some ⟨c, 0, none⟩)) HS.out ?_
    simp only [dN, dP, dO, Act.put, bN, bP, bO]
    refine cW (i := 27) (v := .slice (some ⟨z, off, none⟩) len cap) HS.out ?_
    simp only [dN, dP, dO, Act.put, bN, bP, bO]
    refine cW (i := 28) (v := .int .i64 k) HS.out ?_
    simp only [dN, dP, dO, Act.put, bN, bP, bO]
    refine cW (i := 29) (v := .pointer (some ⟨z, off + k, none⟩)) HS.out ?_
    simp only [dN, dP, dO, Act.put, bN, bP, bO]
    refine qM (i := 30) (v := .int .u64 V) rfl (by kernel_rfl) (fun _ _ _ h => h) (fun w' hSw => by have c := hSw; clear hSw; go_simp) HS.out ?_
    simp only [dN, dP, dO, Act.put, bN, bP, bO]
    refine lU (i := 26) (by kernel_rfl) rfl fun K hK => ?_
    go_simp
    go_wp2_with (go_at_call 16; refine (aAS HW.out.K).mono ?_; rintro e W9 ⟨rfl, rfl⟩)
    refine hK.out _ _ HS.out (fun _ => ?_)
    clear hK K
    refine cW (i := 31) (v := .bool false) HS.out ?_
    simp only [dN, dP, dO, Act.put, bN, bP, bO]
    refine cW (i := 32) (v := .bool false) HS.out ?_
    simp only [dN, dP, dO, Act.put, bN, bP, bO]
    refine cW (i := 33) (v := .bool false) HS.out ?_
    simp only [dN, dP, dO, Act.put, bN, bP, bO]
    refine cW (i := 34) (v := .pointer (some ⟨c, 0, none⟩)) HS.out ?_
    simp only [dN, dP, dO, Act.put, bN, bP, bO]
    refine cW (i := 36) (v := .pointer (some ⟨b, 0, none⟩)) HS.out ?_
    simp only [dN, dP, dO, Act.put, bN, bP, bO]
    refine cW (i := 38) (v := .slice (some ⟨z, off, none⟩) len cap) HS.out ?_
    simp only [dN, dP, dO, Act.put, bN, bP, bO]
    refine cW (i := 39) (v := .int .i64 k) HS.out ?_
    simp only [dN, dP, dO, Act.put, bN, bP, bO]
    refine cW (i := 40) (v := .pointer (some ⟨z, off + k, none⟩)) HS.out ?_
    simp only [dN, dP, dO, Act.put, bN, bP, bO]
    refine qM (i := 41) (v := .int .u64 V) rfl (by kernel_rfl) (fun _ _ _ h => h) (fun w' hSw => by have c := hSw; clear hSw; go_simp) HS.out ?_
    simp only [dN, dP, dO, Act.put, bN, bP, bO]
    refine lU (i := 35) (by kernel_rfl) rfl fun K hK => ?_
    go_simp
    go_wp2_with (go_at_call 17; refine (CP.out _ _ HW.out).mono ?_; rintro e W10 ⟨rfl, hb⟩; have HS := Hd (HCE.out _ (tr HW.out.lo hb)); have HW := Hd (HW.out.below hb); clear hb)
    refine hK.out _ _ HS.out (fun _ => ?_)
    clear hK K
    refine lU (i := 37) (by kernel_rfl) rfl fun K hK => ?_
    go_simp
    go_wp2_with (go_at_call 23; refine (CT.out _ _ HW.out).mono ?_; rintro e W11 ⟨rfl, hb⟩; have HS := Hd (HCE.out _ (tr HW.out.lo hb)); have HW := Hd (HW.out.below hb); clear hb)
    refine hK.out _ _ HS.out (fun _ => ?_)
    clear hK K
    refine cW (i := 42) (v := .bool bt) HS.out ?_
    simp only [dN, dP, dO, Act.put, bN, bP, bO]
    refine cW (i := 43) (v := .bool false) HS.out ?_
    simp only [dN, dP, dO, Act.put, bN, bP, bO]
    refine cW (i := 44) (v := .bool false) HS.out ?_
    simp only [dN, dP, dO, Act.put, bN, bP, bO]
    refine wpAnyH_done (by kernel_rfl) ?_ _
    have HAN := Hd (show A14 w W11 b n (3 * (k + 1)) q C2 p2 gv c h V from ⟨by rw [show 3 * (k + 1) = 3 * k + 3 by omega]; exact HW.out, HP2.out.cm, HOT.out⟩)
    clear HW HS HOT HCE CM CC CP CT hwm m0 m1 m2 hbt HP2
    go_wp2_with fail
    go_loopw [17] (fun i wr => ∃ (x : Nat), x <= n /\ i = .int .i64 x /\ Hid (A14 w wr b n (3 * (k + 1)) q C2 p2 gv c h V)) (fun i wr => n - (intOf i).toNat)
    case atStart => exact ⟨0, by omega, rfl, HAN⟩
    case round =>
     clear HAN
     obtain ⟨x, hx, rfl, HA⟩ := hrel
     by_cases hxn : x < n
     . have hwx : IntKind.i64.wrap ((x : Int) + 1) = (x : Int) + 1 := by rw [IntKind.wrap_i64]; omega
       by_cases hxh : x = h
       . subst hxh
         have e0 : ((x : Int) != (x : Int)) = false := bne_self_eq_false _
         go_wp2_with fail
         go_roundw
         case rel => exact ⟨x + 1, by omega, by go_num, HA⟩
         case measure => simp [intOf]; omega
       . have e0 : ((x : Int) != (h : Int)) = true := by simp; omega
         have CX := Hd (fun w' (A : A14 w w' b n (3 * (k + 1)) q C2 p2 gv c h V) => A.S.cmp hxn (A.ot x hxh hxn))
         go_wp2_with (go_at_call 22; refine (CX.out _ HA.out).mono ?_; rintro e w12 ⟨rfl, hb⟩; have HA := Hd (HA.out.below hb); clear hb)
         go_roundw
         case rel => exact ⟨x + 1, by omega, by go_num, HA⟩
         case measure => simp [intOf]; omega
     . go_wp2_with fail
       go_roundw
       case rel => exact ⟨k + 1, C2, p2, V, by omega, by omega, by go_num, HA⟩
       case measure => simp [intOf]; omega
  . have HP2 := Hd (HA.out.next (d := 18446744073709551615) (by omega) (by decide) (by decide))
    have CA := Hd (fun w' (A : A14 w w' b n (3 * k) q C p gv c h l) => A.S.dis A.cm (by omega))
    generalize hp2 : (p.arm n 1 h 18446744073709551615).p = p2 at *
    clear hp2
    have CC := Hd (fun C2 w' (S : qP w w' b n (3 * k + 3) q C2 p2 gv c h 18446744073709551615) => S.cmp S.hn HP2.out.D)
    by_cases hlt2 : k < len
    all_goals
     go_wp2_with (first
      | (go_at_call 9; refine (aAT _).mono ?_; rintro e w5 ⟨rfl, hb⟩; have HA := Hd (HA.out.below hb); clear hb)
      | (go_at_call 11; refine (CA.out _ HA.out).mono ?_; rintro e w6 ⟨rfl, C2, S2⟩; have HW := Hd S2; clear S2)
      | (go_at_call 22; refine (CC.out _ _ HW.out).mono ?_; rintro e w7 ⟨rfl, hb⟩; have HW := Hd (HW.out.below hb); clear hb)
      | (go_at_call 16; refine (aAS HW.out.K).mono ?_; rintro e w8 ⟨rfl, rfl⟩))
     go_ret
     exact ⟨rfl, HW.out.lo⟩
theorem wShotArms (v0 v1 v2 v3 : Value) (w : World) (h0 : FitsV w (.int .i64) v0) (h1 : FitsV w (.int .i64) v1) (h2 : FitsV w (.slice (.int .u32)) v2) (h3 : FitsV w (.slice (.int .u64)) v3) :
 Calls prog 4 #[v0, v1, v2, v3] w fun e w' => e = .returned (.bool true) /\ Below w.heap.size w w' := by
 obtain ⟨a, rfl, _, _⟩ := fits_i64 h0
 obtain ⟨hh, rfl, _, _⟩ := fits_i64 h1
 obtain ⟨gy, gl, gc, rfl, hg⟩ := tW h2
 obtain ⟨y, len, cap, rfl, hy⟩ := aA1 h3
 exact aHd w a hh gy gl gc hg y len cap hy
section
variable {s n c m q : Nat} {B : Bp} {p : Pt} {gv bk ev dv : Value} {K a v : Int} {gA : Value} {gs : List Int} {N : Int} {w : World}
theorem gR {P : Prop} (h : P := by
 simp only [dN, dP, dO, Act.put, bN, bP, bO]
 clear hS9
 refine wpAnyH_done (by kernel_rfl) ?_ _
 go_wp2_with fail
 exact bodyPost_ret (aOw rfl _ _ _ _ rfl rfl rfl hN9) rfl HX.out
 ) : P := h
theorem aOe (A : Ar s n c m q B p gv bk ev dv a v gA gs N w) (hK : K = 0) : DoC s n c m q p bk ev dv K a v gA N w := by
 have HF := Hd (A.f K)
 have HB := Hd (A.b K)
 have HG := Hd (A.g K)
 have HA := Hd A
 clear A
 unfold DoC
 subst hK
 obtain ⟨yA, capA, rfl, _, _, hyA⟩ := HG.out
 go_enter func15, ntmps15
 go_upto_region 1 with (fail)
 rw [cP, bH, show Obj.cells #[.int .i64 0, .int .u32 a, .int .u32 v, (.slice yA gs.length capA), .int .u64 N] 52 (0, 0) = hJ 0 a v (.slice yA gs.length capA) N from rfl]
 generalize ((w.alloc (fW n p bk ev dv)).alloc (hJ 0 a v (.slice yA gs.length capA) N)).alloc dI = W at *
 have x0 := HF.out.x0
 obtain ⟨V, hV⟩ : ∃ V, p.ldv n c a = V := ⟨_, rfl⟩
 obtain ⟨E, hE⟩ : ∃ E, p.lde n c a = E := ⟨_, rfl⟩
 have CL := Hd (fun w' (b : Bo s n c m w' q B p gv bk ev (dv)) => by have := aOd q B p gv m a w' b.H b.F.po b.F.hm HA.out.a0 HA.out.a1; rw [b.en, b.ec, hV, hE] at this; exact this)
 have RL := Hd (fun w' (F : Fit s n c m p bk ev dv w') => by have := aLX s n c m p bk ev dv a HA.out.a0 HA.out.a1 w' F HA.out.hm; rw [hV, hE] at this; exact this)
 have zV := beq_self_eq_true V
 have zE := beq_self_eq_true E
 clear hV hE
 have x1 := HF.out.x1
 go_upto_region 4 with (first | (refine mN rfl (.tmp 4) rfl rfl HF.out.h ?_) | (go_at_call 36; refine (RL.out _ HB.out.F).mono ?_; rintro e W1 ⟨bk', ev', rfl, M1, hb⟩; have HF := Hd (HF.out.below hb); have HB := Hd (HB.out.below hb); have HM1 := Hd M1; clear hb M1 x1 x0) | (rw [bH]; refine nD rfl (.tmp 9) (.tmp 29) rfl rfl p.ldp bk' ev' dv n rfl (ZP.new W1 (aD W1 dI)) ⟨HM1.out.one.1, HM1.out.one.2, HB.out.F.G.one⟩ ?_; intro W2 hq2 ho2; have hb := lF (aE (aH W1) dI) ho2 (Nat.le_refl _) (Nat.le_refl _); have HF := Hd (HF.out.below hb); have HB := Hd (HB.out.below hb); have HM1 := Hd (HM1.out.below hb); have HN2 := Hd hq2; clear hb hq2 ho2))
 generalize W1.heap.size = r at *
 have x1 := HF.out.x1
 go_upto_region 5 with (go_at_call 37; refine (CL.out _ HB.out).mono ?_; rintro e W3 ⟨rfl, hL⟩; obtain ⟨C, LC⟩ := hL.lp HB.out.H HB.out.nw HB.out.sq HF.out.ss; have HF := Hd (HF.out.step LC.kq LC.lo); have HM1 := Hd (HM1.out.kq LC.kq); have HN2 := Hd (HN2.out.kq LC.kq); have HB := Hd (show Bo s n c (m + 1) W3 q C p.ldp gv bk' ev' dv from ⟨LC.h, LC.nw, HB.out.sq, LC.n.trans HB.out.en, LC.c.trans HB.out.ec, HM1.out, by rw [Pt.ldp_gs]; exact HB.out.F.G.kq LC.kq LC.lo, by have := LC.h.bd.ok; rw [LC.n, LC.c, HB.out.en, HB.out.ec] at this; exact this, LC.h.bd.still, Pt.ldp_ok HA.out.po HB.out.F.st HB.out.F.hm, by have := HA.out.hm; omega, Nat.le_trans HB.out.F.sb LC.lo.size⟩); clear LC hL x1)
 have HF := Hd (HF.out.below (jQ (aH W3)))
 have HB := Hd (HB.out.below (jQ (aH W3)))
 have HN2 := Hd (HN2.out.below (jQ (aH W3)))
 refine wp_region_held_drew (S := fun w' => QP w' r n p.ldp bk' ev' dv) (by kernel_rfl) HN2.out (fun _ => ?_)
 generalize W3.drew = W5 at *
 refine cW (i := 0) (v := .pointer (some ⟨q, 0, none⟩)) HN2.out ?_
 simp only [dN, dP, dO, Act.put, bN, bP, bO]
 refine qM (i := 1) (v := (.agg (pl n p.ldp bk' ev' dv).toArray)) rfl (by kernel_rfl) (fun _ _ _ h => h) (fun w' hSw => aBa (.tmp 9) rfl rfl hSw) HN2.out ?_
 simp only [dN, dP, dO, Act.put, bN, bP, bO]
 refine cW (i := 2) (v := .int .u32 V) HN2.out ?_
 simp only [dN, dP, dO, Act.put, bN, bP, bO]
 refine cW (i := 3) (v := .int .u32 V) HN2.out ?_
 simp only [dN, dP, dO, Act.put, bN, bP, bO]
 refine cW (i := 4) (v := .bool true) HN2.out ?_
 simp only [dN, dP, dO, Act.put, bN, bP, bO]
 refine cW (i := 5) (v := .bool true) HN2.out ?_
 simp only [dN, dP, dO, Act.put, bN, bP, bO]
 refine cW (i := 6) (v := .int .i64 E) HN2.out ?_
 simp only [dN, dP, dO, Act.put, bN, bP, bO]
 refine cW (i := 7) (v := .int .i64 E) HN2.out ?_
 simp only [dN, dP, dO, Act.put, bN, bP, bO]
 refine cW (i := 8) (v := .bool true) HN2.out ?_
 simp only [dN, dP, dO, Act.put, bN, bP, bO]
 refine cW (i := 9) (v := .bool true) HN2.out ?_
 simp only [dN, dP, dO, Act.put, bN, bP, bO]
 refine cW (i := 10) (v := .pointer (some ⟨q, 0, none⟩)) HN2.out ?_
 simp only [dN, dP, dO, Act.put, bN, bP, bO]
 refine lU (i := 11) (by kernel_rfl) rfl fun K hK => ?_
 refine jK rfl (.tmp 7) (.tmp 40) rfl rfl n p.ldp bk' ev' dv rfl HF.out.z ⟨HB.out.F.M.one.1, HB.out.F.M.one.2, HB.out.F.G.one⟩ ?_
 intro W9 hN9 ho9
 have HX := Hd (lM HF.out HB.out ho9)
 have hS9 := (show QP W9 r n p.ldp bk' ev' dv from uF HN2.out ho9 hN9)
 refine hK.out _ _ hS9 (fun _ => ?_)
 clear hK K ho9
 simp only [Act.put]
 refine cW (i := 12) (v := .bool true) hS9 ?_
 exact gR
end
end Go.Proofs.YtaohacadochldaaGreat.B
