/- A part of the proof of a law of layer 12: av. -/
import Derived.Test.YtealhichdbimlaaGreatZCau
set_option linter.unusedVariables false
set_option linter.unusedSimpArgs false
set_option maxHeartbeats 12800000
set_option maxRecDepth 100000
namespace Go.Proofs.YtealhichdbimlaaGreat.B
open Go.Proofs.Tryz
open List renaming getElem?_toArray -> y0q, getElem?_cons_zero -> y1q, getElem?_cons_succ -> y2q, take_succ_cons -> y3q, take_zero -> y4q, drop_succ_cons -> y5q, drop_zero -> y6q
open Go.ChangeShapes Go.WideShapes Go.RowKit Go.Sort Go.Shelf
theorem aHc : aAd := fun R g cap w ho hs => aPK R g cap w ho hs
theorem aPC (p bm : Nat) (rv : Value) (R : List (Int × Int)) (ks : List Int) (pv : Int -> Value) (Lp : Int -> List Su) (b s : Int) (v : Bool) (w : World) (hB : eQ w p bm rv R ks pv Lp) (hn : R.length < 64) (hR : ∀ x ∈ R, (0 <= x.1 /\ x.1 < 4294967296) /\ 0 <= x.2 /\ x.2 < 4294967296)
 (b0 : 0 <= b) (b1 : b < 4294967296) (s0 : 0 <= s) (s1 : s < 4294967296) (hv : lM b s R = v) :
 Calls prog 179 #[.pointer (some ⟨p, 0, none⟩), .agg #[.int .u32 b, .int .u32 s]] w fun e w' => e = .returned (.int .i64 (if v then 15 else 0)) /\ Below w.heap.size w w' := by
 have hmf : ∀ (fn : Fn) (first cap : Array Value) (w : World), (Instr.makeFunc fn first cap).run prog w = .ok (.func fn first cap) w := fun _ _ _ _ => rfl
 have hc := aA hB.cell 0
 simp only [y0q, y1q] at hc
 have hlt := hB.ltp
 rcases gB hB.regs with ⟨h1, h2⟩ | ⟨g, cap, h1, h2, h3, _⟩
 . subst h1
   have : R = [] := List.eq_nil_of_length_eq_zero h2
   subst this
   have : v = false := by rw [<- hv]; rfl
   subst this
   clear hB
   go_enter func179, ntmps179
   go_wp2_with fail
   refine (aJw _ _).mono ?_
   rintro e w1 ⟨rfl, rfl⟩
   go_wp2_with fail
   go_ret
   exact ⟨rfl, aE (aI w) _⟩
 . subst h1
   have hi : ¬ (64 : Int) <= (R.length : Int) := by omega
   have hreg := hB.regs.alloc (.cells #[.int .u32 b, .int .u32 s] 185)
   have hbx0 := aA (aD w (.cells #[.int .u32 b, .int .u32 s] 185)) 0
   have hbx1 := aA (aD w (.cells #[.int .u32 b, .int .u32 s] 185)) 1
   have hany := aQH b s w.heap.size R g cap (w.alloc (.cells #[.int .u32 b, .int .u32 s] 185)) b0 b1 s0 s1 (by simp) hbx0 hbx1 hR (by omega) hreg
   rw [hv] at hany
   have HR := Hd hR
   clear hB hreg hbx0 hbx1 hR hv
   cases v
   all_goals
    go_enter func179, ntmps179
    go_wp2_with fail
    refine hany.mono ?_
    rintro e w1 ⟨rfl, hb⟩
    go_wp2_with fail
    go_ret
    exact ⟨rfl, tr (aE (aI w) _) hb⟩
theorem aQE (w : World) :
 Calls prog 109 #[] w fun e w' => e = .returned (.pointer (some ⟨w.heap.size + 1, 0, none⟩)) /\ eQ w' (w.heap.size + 1) w.heap.size (.slice none 0 0) [] [] (fun _ => .slice none 0 0) (fun _ => []) /\ Below w.heap.size w w' := by
 have hmm := @run_makeMap prog
 go_enter func109, ntmps109
 go_wp2_with fail
 go_ret
 refine ⟨rfl, ⟨?_, World.ownsRow_nil _ _ _ _, ?_, fun _ h => (by cases h), fun _ _ => rfl, fun _ h => (by cases h), fun _ _ h => (by cases h), by simp, fun _ => by simp⟩, (((Below.refl _ _).alloc (Nat.le_refl _) _).alloc (by simp) _)⟩
 . exact bS w _ _
 . exact (rH w ek lR).kept (aY _ _ (by simp))
theorem aJT (p bm : Nat) (rv : Value) (R : List (Int × Int)) (ks : List Int) (pv : Int -> Value) (Lp : Int -> List Su) (b s : Int) (xt : TypeId) (xv : Value) (w : World) (hB : eQ w p bm rv R ks pv Lp) (hn : R.length < 64) (hx : Su.wf ⟨b, s, xt, xv⟩)
 (hR : ∀ x ∈ R, (0 <= x.1 /\ x.1 < 4294967296) /\ 0 <= x.2 /\ x.2 < 4294967296) (hm : lM b s R = false) (h1 : (b % 4 != 0) = false) (h2 : (s % 4 != 0) = false) :
 Calls prog 111 #[.pointer (some ⟨p, 0, none⟩), .agg #[.int .u32 b, .int .u32 s], .iface xt xv] w fun e w' => e = .returned (.int .i64 0) /\ aKx p bm rv R ks pv Lp ⟨b, s, xt, xv⟩ w w' := by
 have hx' := hx
 obtain ⟨x0, ⟨x1, x1'⟩, x2⟩ := hx'
 simp only at x0 x1 x1' x2
 have h3 : (s == 0) = false := by simp; omega
 have HR := Hd hR
 have HM := Hd hm
 clear hR hm
 go_enter func111, ntmps111
 go_wp2_with fail
 refine (aNQ b s _ x0 (by omega) (by omega) (by omega) h1 h2 h3 (by omega)).mono ?_
 rintro e w1 ⟨rfl, hb1⟩
 have hX := aC hb1 (aD w _) (by simp)
 have hx0 := aA hX 0
 have hx1 := aA hX 1
 simp only [y0q, y1q, y2q] at hx0 hx1
 have hbw := tr (aE (aI w) _) hb1
 have hl1 := lt_of_block hX
 have HX := Hd hX
 clear hX hb1
 go_wp2_with fail
 refine (aPC p bm rv R ks pv Lp b s false _ (hB.ofBelow hbw) hn HR.out x0 (by omega) (by omega) (by omega) HM.out).mono ?_
 rintro e w2 ⟨rfl, hb2⟩
 have hX2 := aC hb2 HX.out hl1
 have hy0 := aA hX2 0
 have hy1 := aA hX2 1
 simp only [y0q, y1q, y2q] at hy0 hy1
 have hbw2 := tr hbw hb2
 clear hX2 hb2
 simp only [Bool.false_eq_true, if_false]
 go_wp2_with fail
 refine (aQF aHc p bm rv R ks pv Lp b s xt xv _ (hB.ofBelow hbw2) hn hx).mono ?_
 rintro e w3 ⟨rfl, rv', R', ks', pv', hB', hp', hs', ho', hk'⟩
 have HB := Hd hB'
 have HP := Hd hp'
 have HS := Hd hs'
 have HO := Hd ho'
 have HK := Hd hk'
 clear hB' hp' hs' ho' hk'
 go_wp2_with fail
 go_ret
 exact ⟨rfl, rv', R', ks', pv', HB.out, HP.out, HS.out, (aF.ofBelow hbw2).trans (HO.out.mono fun _ _ h => h), fun k hk => (HK.out k hk).imp id fun h => Nat.le_trans hbw2.size h⟩
end Go.Proofs.YtealhichdbimlaaGreat.B
namespace Go.Proofs.YtealhichdbimlaaGreat.B
open Go.Proofs.Tryz
open List renaming getElem?_toArray -> y0q, getElem?_cons_zero -> y1q, getElem?_cons_succ -> y2q, take_succ_cons -> y3q, take_zero -> y4q, drop_succ_cons -> y5q, drop_zero -> y6q
open Go.ChangeShapes Go.WideShapes Go.RowKit Go.Sort
def aBw (s : Nat) (w : World) (p bm : Nat) (regs : List (Int × Int)) (Lp : Int -> List Su) : Prop := ∃ rv R ks pv, eQ w p bm rv R ks pv Lp /\ R.Perm regs /\ ∀ k, eE p bm rv ks pv k -> k = p \/ k = bm \/ s <= k
theorem aBw.below {s : Nat} {w w' : World} {p bm : Nat} {regs : List (Int × Int)} {Lp : Int -> List Su} (h : aBw s w p bm regs Lp) (hb : Below w.heap.size w w') : aBw s w' p bm regs Lp := by
 obtain ⟨rv, R, ks, pv, h1, h2, h3⟩ := h
 exact ⟨rv, R, ks, pv, h1.ofBelow hb, h2, h3⟩
theorem nP {s : Nat} {w : World} {p bm : Nat} {regs : List (Int × Int)} {Lp : Int -> List Su} (h : aBw s w p bm regs Lp) (hs : s <= w.heap.size) (b z : Int) (xt : TypeId) (xv : Value) (hl : regs.length < 64) (hx : Su.wf ⟨b, z, xt, xv⟩)
 (hR : ∀ x ∈ regs, (0 <= x.1 /\ x.1 < 4294967296) /\ 0 <= x.2 /\ x.2 < 4294967296) (hm : lM b z regs = false) (h1 : (b % 4 != 0) = false) (h2 : (z % 4 != 0) = false) :
 Calls prog 111 #[.pointer (some ⟨p, 0, none⟩), .agg #[.int .u32 b, .int .u32 z], .iface xt xv] w fun e w' => e = .returned (.int .i64 0) /\ aBw s w' p bm (regs ++ [(b, z)]) (kF Lp ⟨b, z, xt, xv⟩) /\ aF (fun k => k = p \/ k = bm \/ s <= k) w w' := by
 obtain ⟨rv, R, ks, pv, hB, hp, hk⟩ := h
 have hm' : lM b z R = false := by
  unfold lM at hm ⊢
  rw [List.any_eq_false] at hm ⊢
  exact fun x hx => hm x (hp.mem_iff.1 hx)
 refine (aJT p bm rv R ks pv Lp b z xt xv w hB (by rw [hp.length_eq]; exact hl) hx (fun x hx => hR x (hp.mem_iff.1 hx)) hm' h1 h2).mono ?_
 rintro e w' ⟨rfl, rv', R', ks', pv', hB', hp', _, ho, hk'⟩
 exact ⟨rfl, ⟨rv', R', ks', pv', hB', hp'.trans (hp.append_right _), fun k h => (hk' k h).elim (hk k) fun h => .inr (.inr (Nat.le_trans hs h))⟩, ho.mono fun k _ h => hk k h⟩
def mcl (B : Bp) (p : Nat) : Array Value := #[.pointer (some ⟨B.pc, 0, none⟩), .pointer (some ⟨B.pb, 0, none⟩), .pointer (some ⟨B.pd, 0, none⟩), .pointer (some ⟨B.ps, 0, none⟩), .pointer (some ⟨B.pr, 0, none⟩), .pointer (some ⟨B.pl, 0, none⟩), .int .i64 B.n, .int .i64 B.c, .int .u32 B.div, .pointer (some ⟨p, 0, none⟩), .slice none 0 0]
structure Mt (w W : World) (B : Bp) (x : Bx) (h : Int) (b g p bm s : Nat) (regs : List (Int × Int)) (Lp : Int -> List Su) : Prop where
 dv : bB W B x h
 bd : W.heap[b]? = some (.cells (mcl B p) tBd (0, 0))
 row : W.heap[g]? = some (.cells (jG B) 187 (0, 0))
 bus : aBw s W p bm regs Lp
 lo : Below w.heap.size w W
 sz : s <= W.heap.size
 nb : b < s /\ b ≠ p /\ b ≠ bm
 ng : g < s /\ g ≠ p /\ g ≠ bm
 nd : ∀ k, B.dvs k -> k < w.heap.size
 nm : B.mc < w.heap.size
 np : w.heap.size <= p /\ w.heap.size <= bm /\ w.heap.size <= s /\ w.heap.size <= b
section
variable {w W W' : World} {B : Bp} {x : Bx} {h : Int} {b g p bm s : Nat} {regs regs' : List (Int × Int)} {Lp Lp' : Int -> List Su}
theorem Mt.below (H : Mt w W B x h b g p bm s regs Lp) (hb : Below W.heap.size W W') : Mt w W' B x h b g p bm s regs Lp :=
 ⟨H.dv.below hb, aC hb H.bd (lt_of_block H.bd), aC hb H.row (lt_of_block H.row), H.bus.below hb, H.lo.trans (hb.mono H.lo.size), Nat.le_trans H.sz hb.size, H.nb, H.ng, H.nd, H.nm, H.np⟩
theorem Mt.att (H : Mt w W B x h b g p bm s regs Lp) (hk : aBw s W' p bm regs' Lp') (ho : aF (fun k => k = p \/ k = bm \/ s <= k) W W') : Mt w W' B x h b g p bm s regs' Lp' := by
 have hne : ∀ k, k < w.heap.size -> ¬ (k = p \/ k = bm \/ s <= k) := fun k hk => by have := H.np; omega
 have n1 := H.nb
 have n2 := H.ng
 exact ⟨H.dv.off ho (fun k hk => hne k (H.nd k hk)) (hne _ H.nm), ho.at H.bd (by omega), ho.at H.row (by omega), hk, aF.toBelow H.lo ho (fun k hk => hne k hk) (Nat.le_refl _), Nat.le_trans H.sz ho.size, H.nb, H.ng, H.nd, H.nm, H.np⟩
end
def Bp.on (B : Bp) (b p bm : Nat) (rv : Value) (R : List (Int × Int)) (ks : List Int) (pv : Int -> Value) : Bp := { B with b := b, bp := p, bm := bm, rv := rv, R := R, ks := ks, pv := pv, ev := .slice none 0 0 }
def aFF (B : Bp) (x : Bx) (h : Int) (w : World) (e : Ending) (w' : World) : Prop := ∃ b p bm rv R ks pv, e = .returned (.pointer (some ⟨b, 0, none⟩)) /\ dB w' (B.on b p bm rv R ks pv) { x with es := [] } h /\ Below w.heap.size w w' /\ w.heap.size <= b /\ ∀ k, eE p bm rv ks pv k -> w.heap.size <= k
theorem aMJ {w W : World} {B : Bp} {x : Bx} {h : Int} {b g p bm s : Nat} {regs : List (Int × Int)} (H : Mt w W B x h b g p bm s regs (rW B)) : aFF B x h w (.returned (.pointer (some ⟨b, 0, none⟩))) W := by
 obtain ⟨rv, R, ks, pv, hB, hp, hk⟩ := H.bus
 have hn := H.np
 exact ⟨b, p, bm, rv, R, ks, pv, rfl, ⟨H.bd, ⟨H.dv.c, H.dv.b, H.dv.d, H.dv.s, H.dv.r, H.dv.l⟩, hB, aCQ _ _⟩, H.lo, hn.2.2.2, fun k h => (hk k h).elim (fun e => e ▸ hn.1) fun h => h.elim (fun e => e ▸ hn.2.1) fun h => Nat.le_trans hn.2.2.1 h⟩
theorem Mt.cell {w W : World} {B : Bp} {x : Bx} {h : Int} {b g p bm s : Nat} {regs : List (Int × Int)} {Lp : Int -> List Su} (H : Mt w W B x h b g p bm s regs Lp) : W.cell? ⟨b, 9, none⟩ = some (.pointer (some ⟨p, 0, none⟩)) := by rw [aA H.bd 9]; rfl
theorem aBm (B : Bp) (x : Bx) (h : Int) (w : World) (H : bB w B x h) :
 Calls prog 50 #[.agg #[.int .i64 B.n, .int .i64 B.c, .int .u32 B.div], .agg #[.pointer (some ⟨B.pc, 0, none⟩), .pointer (some ⟨B.pb, 0, none⟩), .pointer (some ⟨B.pd, 0, none⟩), .pointer (some ⟨B.ps, 0, none⟩), .pointer (some ⟨B.pr, 0, none⟩), .pointer (some ⟨B.pl, 0, none⟩)]] w (aFF B x h w) := by
 have hC := bN w (.cells #[.int .i64 B.n, .int .i64 B.c, .int .u32 B.div] 72) (.cells #[.pointer (some ⟨B.pc, 0, none⟩), .pointer (some ⟨B.pb, 0, none⟩), .pointer (some ⟨B.pd, 0, none⟩), .pointer (some ⟨B.ps, 0, none⟩), .pointer (some ⟨B.pr, 0, none⟩), .pointer (some ⟨B.pl, 0, none⟩)] 105)
 have hD := bS w (.cells #[.int .i64 B.n, .int .i64 B.c, .int .u32 B.div] 72) (.cells #[.pointer (some ⟨B.pc, 0, none⟩), .pointer (some ⟨B.pb, 0, none⟩), .pointer (some ⟨B.pd, 0, none⟩), .pointer (some ⟨B.ps, 0, none⟩), .pointer (some ⟨B.pr, 0, none⟩), .pointer (some ⟨B.pl, 0, none⟩)] 105)
 have hb := aE (aE (aI w) (.cells #[.int .i64 B.n, .int .i64 B.c, .int .u32 B.div] 72)) (.cells #[.pointer (some ⟨B.pc, 0, none⟩), .pointer (some ⟨B.pb, 0, none⟩), .pointer (some ⟨B.pd, 0, none⟩), .pointer (some ⟨B.ps, 0, none⟩), .pointer (some ⟨B.pr, 0, none⟩), .pointer (some ⟨B.pl, 0, none⟩)] 105)
 have H0 := H.below hb
 have hnd : ∀ k, B.dvs k -> k < w.heap.size := fun k hk => H.lt hk
 have hnm := H.ltm
 have k0 := aA hC 0
 have k1 := aA hC 1
 have k2 := aA hC 2
 simp only [y0q, y1q, y2q] at k0 k1 k2
 have c0 := aA hD 0
 have c1 := aA hD 1
 have c2 := aA hD 2
 have c3 := aA hD 3
 have c4 := aA hD 4
 have c5 := aA hD 5
 simp only [y0q, y1q, y2q] at c0 c1 c2 c3 c4 c5
 have HC := Hd hC
 have HD := Hd hD
 have HB := Hd hb
 have HH := Hd H0
 have HND := Hd hnd
 have HNM := Hd hnm
 clear hC hD hb H0 hnd hnm H
 go_enter func50, ntmps50
 go_upto_region 1 with (fail)
 generalize ((w.alloc (.cells #[.int .i64 B.n, .int .i64 B.c, .int .u32 B.div] 72)).alloc (.cells #[.pointer (some ⟨B.pc, 0, none⟩), .pointer (some ⟨B.pb, 0, none⟩), .pointer (some ⟨B.pd, 0, none⟩), .pointer (some ⟨B.ps, 0, none⟩), .pointer (some ⟨B.pr, 0, none⟩), .pointer (some ⟨B.pl, 0, none⟩)] 105)) = W at *
 go_region_held3 (fun w' => w'.cell? ⟨w.heap.size, 0, none⟩ = some (.int .i64 B.n) /\ w'.cell? ⟨w.heap.size, 1, none⟩ = some (.int .i64 B.c) /\ w'.cell? ⟨w.heap.size, 2, none⟩ = some (.int .u32 B.div) /\ w'.cell? ⟨w.heap.size + 1, 0, none⟩ = some (.pointer (some ⟨B.pc, 0, none⟩)) /\ w'.cell? ⟨w.heap.size + 1, 1, none⟩ = some (.pointer (some ⟨B.pb, 0, none⟩)) /\ w'.cell? ⟨w.heap.size + 1, 2, none⟩ = some (.pointer (some ⟨B.pd, 0, none⟩)) /\ w'.cell? ⟨w.heap.size + 1, 3, none⟩ = some (.pointer (some ⟨B.ps, 0, none⟩)) /\ w'.cell? ⟨w.heap.size + 1, 4, none⟩ = some (.pointer (some ⟨B.pr, 0, none⟩)) /\ w'.cell? ⟨w.heap.size + 1, 5, none⟩ = some (.pointer (some ⟨B.pl, 0, none⟩)))
  (first | exact ⟨k0, k1, k2, c0, c1, c2, c3, c4, c5⟩ | exact ⟨Lib.cell?_alloc_some _ k0, Lib.cell?_alloc_some _ k1, Lib.cell?_alloc_some _ k2, Lib.cell?_alloc_some _ c0, Lib.cell?_alloc_some _ c1, Lib.cell?_alloc_some _ c2, Lib.cell?_alloc_some _ c3, Lib.cell?_alloc_some _ c4, Lib.cell?_alloc_some _ c5⟩)
  (first | (go_at_call 109; refine (aQE _).mono ?_; rintro e w1 ⟨rfl, hU, hb1⟩; have HC := Hd (aC (hb1) (show (World.drew W).heap[w.heap.size]? = _ from HC.out) (lt_of_block HC.out)); have HD := Hd (aC (hb1) (show (World.drew W).heap[w.heap.size + 1]? = _ from HD.out) (lt_of_block HD.out)); have hC := HC.out; have hD := HD.out; have k0 := aA hC 0; have k1 := aA hC 1; have k2 := aA hC 2; simp only [y0q, y1q, y2q] at k0 k1 k2; have c0 := aA hD 0; have c1 := aA hD 1; have c2 := aA hD 2; have c3 := aA hD 3; have c4 := aA hD 4; have c5 := aA hD 5; simp only [y0q, y1q, y2q] at c0 c1 c2 c3 c4 c5))
 have hb1' : Below W.heap.size W w1 := tr (jT (aI W)) hb1
 have H1 := HH.out.below hb1'
 have HB1 := Hd (tr HB.out hb1')
 have hU' : eQ w1 (W.heap.size + 1) W.heap.size (.slice none 0 0) [] [] (fun _ => .slice none 0 0) (fun _ => []) := hU
 have hs1 : W.heap.size + 1 < w1.heap.size := hU'.ltp
 have HU := Hd hU'
 have HH1 := Hd H1
 clear hU hU' hb1 hb1' H1 k0 k1 k2 c0 c1 c2 c3 c4 c5 hC hD
 go_wp2_with fail
 refine (aNU B _).mono ?_
 rintro e W3 ⟨g, rfl, hrow, hb3, hg⟩
 have ha := aE (aI w1) (.cells (mcl B (W.heap.size + 1)) 109)
 have hbd := aD w1 (.cells (mcl B (W.heap.size + 1)) 109)
 have hws := HB.out.size
 have hw1 := HB1.out.size
 have hsa : (w1.alloc (.cells (mcl B (W.heap.size + 1)) 109)).heap.size = w1.heap.size + 1 := by simp
 have hg' : w1.heap.size + 1 <= g := hsa ▸ hg
 have hgl := lt_of_block hrow
 have hs3 : w1.heap.size + 1 <= W3.heap.size := by have := hb3.size; rw [<- hsa]; exact this
 have M : Mt w W3 B x h w1.heap.size g (W.heap.size + 1) W.heap.size W3.heap.size [] (fun _ => []) :=
  ⟨(HH1.out.below ha).below hb3, aC hb3 hbd (by simp), hrow,
   ⟨.slice none 0 0, [], [], fun _ => .slice none 0 0, (HU.out.ofBelow ha).ofBelow hb3, List.Perm.refl _, fun k hk => hk.elim .inl fun hk => .inr (.inl (hk.elim id fun hk => hk.elim (fun hk => by cases hk) fun ⟨u, hu, _⟩ => by cases hu))⟩,
   tr (tr HB1.out ha) hb3, Nat.le_refl _, by omega, by omega, HND.out, HNM.out, by omega⟩
 have HM := Hd M
 generalize W.heap.size = bm at *
 generalize w1.heap.size = b at *
 generalize W3.heap.size = s at *
 clear M ha hbd hws hw1 hsa hg hg' hgl hs3 hrow hb3 HH1 HB1 HU hs1 HC HD HB HH HND HNM
 go_upto_region 3 with (fail)
 have hr := HM.out.row
 refine wp_loop_rounds 7 ?_
 rw [rounds_succ]
 have r0 := aA hr 0
 have r1 := aA hr 1
 have r2 := aA hr 2
 simp only [jG, y0q, y1q, y2q] at r0 r1 r2
 go_wp2_with fail
 have M1 := HM.out.below (aE (aI W3) (.cells #[.int .u32 33554432, .int .u32 49152, .iface 98 (.pointer (some ⟨B.pc, 0, none⟩))] 187))
 have hS := aD W3 (.cells #[.int .u32 33554432, .int .u32 49152, .iface 98 (.pointer (some ⟨B.pc, 0, none⟩))] 187)
 have hl := lt_of_block hS
 have hlb := lt_of_block M1.bd
 generalize (W3.alloc (.cells #[.int .u32 33554432, .int .u32 49152, .iface 98 (.pointer (some ⟨B.pc, 0, none⟩))] 187)) = U at *
 generalize W3.heap.size = z at *
 have c9 := M1.cell
 have s0 := aA hS 0
 have s1 := aA hS 1
 have s2 := aA hS 2
 simp only [y0q, y1q, y2q] at s0 s1 s2
 have HM := Hd M1
 have hgc := bJ
 have hgf := cX
 clear M1 hS hr r0 r1 r2
 refine aG 8 (by kernel_rfl) (by kernel_rfl) ?_
 simp only [y3q, y4q, y5q, y6q]
 repeat (go_big_quiet_step (fail))
 refine wpQuiet_nil ?_
 intro _ hw'
 obtain ⟨⟨dq, osq⟩, hw''⟩ := hw'
 subst hw''
 have M2 := HM.out.below (below_regrown U dq osq)
 generalize grow (redrawn U dq) osq = U2 at *
 have HM := Hd M2
 clear M2 c9 s0 s1 s2 hl hlb hgc hgf
 go_wp2_with fail
 refine (nP HM.out.bus HM.out.sz 33554432 49152 98 (.pointer (some ⟨B.pc, 0, none⟩)) (by decide) ⟨(by show (0 : Int) <= 33554432; decide), ⟨(by show (0 : Int) < 49152; decide), (by show (49152 : Int) < 4294967296; decide)⟩, (by show (33554432 : Int) + 49152 <= 4294967296; decide)⟩ (by decide) (by decide) (by decide) (by decide)).mono ?_
 rintro e W4 ⟨rfl, hK, ho⟩
 have M3 := HM.out.att hK ho
 have hr := M3.row
 have HM := Hd M3
 clear M3 hK ho
 go_wp2_with fail
 rw [rounds_succ]
 have r0 := aA hr 3
 have r1 := aA hr 4
 have r2 := aA hr 5
 simp only [jG, y0q, y1q, y2q] at r0 r1 r2
 go_wp2_with fail
 have M1 := HM.out.below (aE (aI W4) (.cells #[.int .u32 268500992, .int .u32 256, .iface 99 (.pointer (some ⟨B.pb, 0, none⟩))] 187))
 have hS := aD W4 (.cells #[.int .u32 268500992, .int .u32 256, .iface 99 (.pointer (some ⟨B.pb, 0, none⟩))] 187)
 have hl := lt_of_block hS
 have hlb := lt_of_block M1.bd
 generalize (W4.alloc (.cells #[.int .u32 268500992, .int .u32 256, .iface 99 (.pointer (some ⟨B.pb, 0, none⟩))] 187)) = U at *
 generalize W4.heap.size = z at *
 have c9 := M1.cell
 have s0 := aA hS 0
 have s1 := aA hS 1
 have s2 := aA hS 2
 simp only [y0q, y1q, y2q] at s0 s1 s2
 have HM := Hd M1
 have hgc := bJ
 have hgf := cX
 clear M1 hS hr r0 r1 r2
 refine aG 8 (by kernel_rfl) (by kernel_rfl) ?_
 simp only [y3q, y4q, y5q, y6q]
 repeat (go_big_quiet_step (fail))
 refine wpQuiet_nil ?_
 intro _ hw'
 obtain ⟨⟨dq, osq⟩, hw''⟩ := hw'
 subst hw''
 have M2 := HM.out.below (below_regrown U dq osq)
 generalize grow (redrawn U dq) osq = U2 at *
 have HM := Hd M2
 clear M2 c9 s0 s1 s2 hl hlb hgc hgf
 go_wp2_with fail
 refine (nP HM.out.bus HM.out.sz 268500992 256 99 (.pointer (some ⟨B.pb, 0, none⟩)) (by decide) ⟨(by show (0 : Int) <= 268500992; decide), ⟨(by show (0 : Int) < 256; decide), (by show (256 : Int) < 4294967296; decide)⟩, (by show (268500992 : Int) + 256 <= 4294967296; decide)⟩ (by decide) (by decide) (by decide) (by decide)).mono ?_
 rintro e W5 ⟨rfl, hK, ho⟩
 have M3 := HM.out.att hK ho
 have hr := M3.row
 have HM := Hd M3
 clear M3 hK ho
 go_wp2_with fail
 rw [rounds_succ]
 have r0 := aA hr 6
 have r1 := aA hr 7
 have r2 := aA hr 8
 simp only [jG, y0q, y1q, y2q] at r0 r1 r2
 go_wp2_with fail
 have M1 := HM.out.below (aE (aI W5) (.cells #[.int .u32 268566528, .int .u32 20, .iface 100 (.pointer (some ⟨B.pd, 0, none⟩))] 187))
 have hS := aD W5 (.cells #[.int .u32 268566528, .int .u32 20, .iface 100 (.pointer (some ⟨B.pd, 0, none⟩))] 187)
 have hl := lt_of_block hS
 have hlb := lt_of_block M1.bd
 generalize (W5.alloc (.cells #[.int .u32 268566528, .int .u32 20, .iface 100 (.pointer (some ⟨B.pd, 0, none⟩))] 187)) = U at *
 generalize W5.heap.size = z at *
 have c9 := M1.cell
 have s0 := aA hS 0
 have s1 := aA hS 1
 have s2 := aA hS 2
 simp only [y0q, y1q, y2q] at s0 s1 s2
 have HM := Hd M1
 have hgc := bJ
 have hgf := cX
 clear M1 hS hr r0 r1 r2
 refine aG 8 (by kernel_rfl) (by kernel_rfl) ?_
 simp only [y3q, y4q, y5q, y6q]
 repeat (go_big_quiet_step (fail))
 refine wpQuiet_nil ?_
 intro _ hw'
 obtain ⟨⟨dq, osq⟩, hw''⟩ := hw'
 subst hw''
 have M2 := HM.out.below (below_regrown U dq osq)
 generalize grow (redrawn U dq) osq = U2 at *
 have HM := Hd M2
 clear M2 c9 s0 s1 s2 hl hlb hgc hgf
 go_wp2_with fail
 refine (nP HM.out.bus HM.out.sz 268566528 20 100 (.pointer (some ⟨B.pd, 0, none⟩)) (by decide) ⟨(by show (0 : Int) <= 268566528; decide), ⟨(by show (0 : Int) < 20; decide), (by show (20 : Int) < 4294967296; decide)⟩, (by show (268566528 : Int) + 20 <= 4294967296; decide)⟩ (by decide) (by decide) (by decide) (by decide)).mono ?_
 rintro e W6 ⟨rfl, hK, ho⟩
 have M3 := HM.out.att hK ho
 have hr := M3.row
 have HM := Hd M3
 clear M3 hK ho
 go_wp2_with fail
 rw [rounds_succ]
 have r0 := aA hr 9
 have r1 := aA hr 10
 have r2 := aA hr 11
 simp only [jG, y0q, y1q, y2q] at r0 r1 r2
 go_wp2_with fail
 have M1 := HM.out.below (aE (aI W6) (.cells #[.int .u32 268632064, .int .u32 16, .iface 101 (.pointer (some ⟨B.ps, 0, none⟩))] 187))
 have hS := aD W6 (.cells #[.int .u32 268632064, .int .u32 16, .iface 101 (.pointer (some ⟨B.ps, 0, none⟩))] 187)
 have hl := lt_of_block hS
 have hlb := lt_of_block M1.bd
 generalize (W6.alloc (.cells #[.int .u32 268632064, .int .u32 16, .iface 101 (.pointer (some ⟨B.ps, 0, none⟩))] 187)) = U at *
 generalize W6.heap.size = z at *
 have c9 := M1.cell
 have s0 := aA hS 0
 have s1 := aA hS 1
 have s2 := aA hS 2
 simp only [y0q, y1q, y2q] at s0 s1 s2
 have HM := Hd M1
 have hgc := bJ
 have hgf := cX
 clear M1 hS hr r0 r1 r2
 refine aG 8 (by kernel_rfl) (by kernel_rfl) ?_
 simp only [y3q, y4q, y5q, y6q]
 repeat (go_big_quiet_step (fail))
 refine wpQuiet_nil ?_
 intro _ hw'
 obtain ⟨⟨dq, osq⟩, hw''⟩ := hw'
 subst hw''
 have M2 := HM.out.below (below_regrown U dq osq)
 generalize grow (redrawn U dq) osq = U2 at *
 have HM := Hd M2
 clear M2 c9 s0 s1 s2 hl hlb hgc hgf
 go_wp2_with fail
 refine (nP HM.out.bus HM.out.sz 268632064 16 101 (.pointer (some ⟨B.ps, 0, none⟩)) (by decide) ⟨(by show (0 : Int) <= 268632064; decide), ⟨(by show (0 : Int) < 16; decide), (by show (16 : Int) < 4294967296; decide)⟩, (by show (268632064 : Int) + 16 <= 4294967296; decide)⟩ (by decide) (by decide) (by decide) (by decide)).mono ?_
 rintro e W7 ⟨rfl, hK, ho⟩
 have M3 := HM.out.att hK ho
 have hr := M3.row
 have HM := Hd M3
 clear M3 hK ho
 go_wp2_with fail
 rw [rounds_succ]
 have r0 := aA hr 12
 have r1 := aA hr 13
 have r2 := aA hr 14
 simp only [jG, y0q, y1q, y2q] at r0 r1 r2
 go_wp2_with fail
 have M1 := HM.out.below (aE (aI W7) (.cells #[.int .u32 268697600, .int .u32 36, .iface 102 (.pointer (some ⟨B.pr, 0, none⟩))] 187))
 have hS := aD W7 (.cells #[.int .u32 268697600, .int .u32 36, .iface 102 (.pointer (some ⟨B.pr, 0, none⟩))] 187)
 have hl := lt_of_block hS
 have hlb := lt_of_block M1.bd
 generalize (W7.alloc (.cells #[.int .u32 268697600, .int .u32 36, .iface 102 (.pointer (some ⟨B.pr, 0, none⟩))] 187)) = U at *
 generalize W7.heap.size = z at *
 have c9 := M1.cell
 have s0 := aA hS 0
 have s1 := aA hS 1
 have s2 := aA hS 2
 simp only [y0q, y1q, y2q] at s0 s1 s2
 have HM := Hd M1
 have hgc := bJ
 have hgf := cX
 clear M1 hS hr r0 r1 r2
 refine aG 8 (by kernel_rfl) (by kernel_rfl) ?_
 simp only [y3q, y4q, y5q, y6q]
 repeat (go_big_quiet_step (fail))
 refine wpQuiet_nil ?_
 intro _ hw'
 obtain ⟨⟨dq, osq⟩, hw''⟩ := hw'
 subst hw''
 have M2 := HM.out.below (below_regrown U dq osq)
 generalize grow (redrawn U dq) osq = U2 at *
 have HM := Hd M2
 clear M2 c9 s0 s1 s2 hl hlb hgc hgf
 go_wp2_with fail
 refine (nP HM.out.bus HM.out.sz 268697600 36 102 (.pointer (some ⟨B.pr, 0, none⟩)) (by decide) ⟨(by show (0 : Int) <= 268697600; decide), ⟨(by show (0 : Int) < 36; decide), (by show (36 : Int) < 4294967296; decide)⟩, (by show (268697600 : Int) + 36 <= 4294967296; decide)⟩ (by decide) (by decide) (by decide) (by decide)).mono ?_
 rintro e W8 ⟨rfl, hK, ho⟩
 have M3 := HM.out.att hK ho
 have hr := M3.row
 have HM := Hd M3
 clear M3 hK ho
 go_wp2_with fail
 rw [rounds_succ]
 have r0 := aA hr 15
 have r1 := aA hr 16
 have r2 := aA hr 17
 simp only [jG, y0q, y1q, y2q] at r0 r1 r2
 go_wp2_with fail
 have M1 := HM.out.below (aE (aI W8) (.cells #[.int .u32 268763136, .int .u32 12, .iface 103 (.pointer (some ⟨B.pl, 0, none⟩))] 187))
 have hS := aD W8 (.cells #[.int .u32 268763136, .int .u32 12, .iface 103 (.pointer (some ⟨B.pl, 0, none⟩))] 187)
 have hl := lt_of_block hS
 have hlb := lt_of_block M1.bd
 generalize (W8.alloc (.cells #[.int .u32 268763136, .int .u32 12, .iface 103 (.pointer (some ⟨B.pl, 0, none⟩))] 187)) = U at *
 generalize W8.heap.size = z at *
 have c9 := M1.cell
 have s0 := aA hS 0
 have s1 := aA hS 1
 have s2 := aA hS 2
 simp only [y0q, y1q, y2q] at s0 s1 s2
 have HM := Hd M1
 have hgc := bJ
 have hgf := cX
 clear M1 hS hr r0 r1 r2
 refine aG 8 (by kernel_rfl) (by kernel_rfl) ?_
 simp only [y3q, y4q, y5q, y6q]
 repeat (go_big_quiet_step (fail))
 refine wpQuiet_nil ?_
 intro _ hw'
 obtain ⟨⟨dq, osq⟩, hw''⟩ := hw'
 subst hw''
 have M2 := HM.out.below (below_regrown U dq osq)
 generalize grow (redrawn U dq) osq = U2 at *
 have HM := Hd M2
 clear M2 c9 s0 s1 s2 hl hlb hgc hgf
 go_wp2_with fail
 refine (nP HM.out.bus HM.out.sz 268763136 12 103 (.pointer (some ⟨B.pl, 0, none⟩)) (by decide) ⟨(by show (0 : Int) <= 268763136; decide), ⟨(by show (0 : Int) < 12; decide), (by show (12 : Int) < 4294967296; decide)⟩, (by show (268763136 : Int) + 12 <= 4294967296; decide)⟩ (by decide) (by decide) (by decide) (by decide)).mono ?_
 rintro e W9 ⟨rfl, hK, ho⟩
 have M3 := HM.out.att hK ho
 have hr := M3.row
 have HM := Hd M3
 clear M3 hK ho
 go_wp2_with fail
 rw [rounds_succ]
 go_wp2_with fail
 go_ret
 exact aMJ HM.out
end Go.Proofs.YtealhichdbimlaaGreat.B
