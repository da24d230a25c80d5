/- A part of the proof of a law of layer 12: av. -/
import Derived.Test.YtaohacadochldaaGreatZCat
import Derived.Test.YtaohacadochldaaGreatZCau
set_option linter.unusedVariables false
set_option linter.unusedSimpArgs false
set_option maxHeartbeats 12800000
set_option maxRecDepth 100000
namespace Go.Proofs.YtaohacadochldaaGreat.B
open Go.Proofs.Tryz
open List renaming getElem?_toArray -> y0q, getElem?_cons_zero -> y1q, getElem?_cons_succ -> y2q, take_succ_cons -> y3q, take_zero -> y4q, drop_succ_cons -> y5q, drop_zero -> y6q
open Go.ChangeShapes Go.WideShapes Go.RowKit Go.Sort
def aB4 (s : Nat) (w : World) (p bm : Nat) (regs : List (Int × Int)) (Lp : Int -> List Su) : Prop := ∃ rv R ks pv, eZ w p bm rv R ks pv Lp /\ R.Perm regs /\ ∀ k, eK p bm rv ks pv k -> k = p \/ k = bm \/ s <= k
theorem aB4.below {s : Nat} {w w' : World} {p bm : Nat} {regs : List (Int × Int)} {Lp : Int -> List Su} (h : aB4 s w p bm regs Lp) (hb : Below w.heap.size w w') : aB4 s w' p bm regs Lp := by
 obtain ⟨rv, R, ks, pv, h1, h2, h3⟩ := h
 exact ⟨rv, R, ks, pv, h1.ofBelow hb, h2, h3⟩
theorem nW {s : Nat} {w : World} {p bm : Nat} {regs : List (Int × Int)} {Lp : Int -> List Su} (h : aB4 s w p bm regs Lp) (hs : s <= w.heap.size) (b z : Int) (xt : TypeId) (xv : Value) (hl : regs.length < 64) (hx : Su.wf ⟨b, z, xt, xv⟩)
 (hR : ∀ x ∈ regs, (0 <= x.1 /\ x.1 < 4294967296) /\ 0 <= x.2 /\ x.2 < 4294967296) (hm : lL b z regs = false) (h1 : (b % 4 != 0) = false) (h2 : (z % 4 != 0) = false) :
 Calls prog 105 #[.pointer (some ⟨p, 0, none⟩), .agg #[.int .u32 b, .int .u32 z], .iface xt xv] w fun e w' => e = .returned (.int .i64 0) /\ aB4 s w' p bm (regs ++ [(b, z)]) (kG Lp ⟨b, z, xt, xv⟩) /\ aF (fun k => k = p \/ k = bm \/ s <= k) w w' := by
 obtain ⟨rv, R, ks, pv, hB, hp, hk⟩ := h
 have hm' : lL b z R = false := by
  unfold lL at hm ⊢
  rw [List.any_eq_false] at hm ⊢
  exact fun x hx => hm x (hp.mem_iff.1 hx)
 refine (aJU p bm rv R ks pv Lp b z xt xv w hB (by rw [hp.length_eq]; exact hl) hx (fun x hx => hR x (hp.mem_iff.1 hx)) hm' h1 h2).mono ?_
 rintro e w' ⟨rfl, rv', R', ks', pv', hB', hp', _, ho, hk'⟩
 exact ⟨rfl, ⟨rv', R', ks', pv', hB', hp'.trans (hp.append_right _), fun k h => (hk' k h).elim (hk k) fun h => .inr (.inr (Nat.le_trans hs h))⟩, ho.mono fun k _ h => hk k h⟩
def mcl (B : Bp) (p : Nat) : Array Value := #[.pointer (some ⟨B.pc, 0, none⟩), .pointer (some ⟨B.pb, 0, none⟩), .pointer (some ⟨B.pd, 0, none⟩), .pointer (some ⟨B.ps, 0, none⟩), .pointer (some ⟨B.pr, 0, none⟩), .pointer (some ⟨B.pl, 0, none⟩), .int .i64 B.n, .int .i64 B.c, .int .u32 B.div, .pointer (some ⟨p, 0, none⟩), .slice none 0 0]
structure Mt (w W : World) (B : Bp) (x : Bx) (h : Int) (b g p bm s : Nat) (regs : List (Int × Int)) (Lp : Int -> List Su) : Prop where
 dv : bB W B x h
 bd : W.heap[b]? = some (.cells (mcl B p) tBd (0, 0))
 row : W.heap[g]? = some (.cells (jI B) 184 (0, 0))
 bus : aB4 s W p bm regs Lp
 lo : Below w.heap.size w W
 sz : s <= W.heap.size
 nb : b < s /\ b ≠ p /\ b ≠ bm
 ng : g < s /\ g ≠ p /\ g ≠ bm
 nd : ∀ k, B.dvs k -> k < w.heap.size
 nm : B.mc < w.heap.size
 np : w.heap.size <= p /\ w.heap.size <= bm /\ w.heap.size <= s /\ w.heap.size <= b
section
variable {w W W' : World} {B : Bp} {x : Bx} {h : Int} {b g p bm s : Nat} {regs regs' : List (Int × Int)} {Lp Lp' : Int -> List Su}
theorem Mt.below (H : Mt w W B x h b g p bm s regs Lp) (hb : Below W.heap.size W W') : Mt w W' B x h b g p bm s regs Lp :=
 ⟨H.dv.below hb, aC hb H.bd (lt_of_block H.bd), aC hb H.row (lt_of_block H.row), H.bus.below hb, H.lo.trans (hb.mono H.lo.size), Nat.le_trans H.sz hb.size, H.nb, H.ng, H.nd, H.nm, H.np⟩
theorem Mt.att (H : Mt w W B x h b g p bm s regs Lp) (hk : aB4 s W' p bm regs' Lp') (ho : aF (fun k => k = p \/ k = bm \/ s <= k) W W') : Mt w W' B x h b g p bm s regs' Lp' := by
 have hne : ∀ k, k < w.heap.size -> ¬ (k = p \/ k = bm \/ s <= k) := fun k hk => by have := H.np; omega
 have n1 := H.nb
 have n2 := H.ng
 exact ⟨H.dv.off ho (fun k hk => hne k (H.nd k hk)) (hne _ H.nm), ho.at H.bd (by omega), ho.at H.row (by omega), hk, aF.toBelow H.lo ho (fun k hk => hne k hk) (Nat.le_refl _), Nat.le_trans H.sz ho.size, H.nb, H.ng, H.nd, H.nm, H.np⟩
end
def Bp.on (B : Bp) (b p bm : Nat) (rv : Value) (R : List (Int × Int)) (ks : List Int) (pv : Int -> Value) : Bp := { B with b := b, bp := p, bm := bm, rv := rv, R := R, ks := ks, pv := pv, ev := .slice none 0 0 }
def aFE (B : Bp) (x : Bx) (h : Int) (w : World) (e : Ending) (w' : World) : Prop := ∃ b p bm rv R ks pv, e = .returned (.pointer (some ⟨b, 0, none⟩)) /\ dG w' (B.on b p bm rv R ks pv) { x with es := [] } h /\ Below w.heap.size w w' /\ w.heap.size <= b /\ ∀ k, eK p bm rv ks pv k -> w.heap.size <= k
theorem aMF {w W : World} {B : Bp} {x : Bx} {h : Int} {b g p bm s : Nat} {regs : List (Int × Int)} (H : Mt w W B x h b g p bm s regs (sH B)) : aFE B x h w (.returned (.pointer (some ⟨b, 0, none⟩))) W := by
 obtain ⟨rv, R, ks, pv, hB, hp, hk⟩ := H.bus
 have hn := H.np
 exact ⟨b, p, bm, rv, R, ks, pv, rfl, ⟨H.bd, ⟨H.dv.c, H.dv.b, H.dv.d, H.dv.s, H.dv.r, H.dv.l⟩, hB, aCU _ _⟩, H.lo, hn.2.2.2, fun k h => (hk k h).elim (fun e => e ▸ hn.1) fun h => h.elim (fun e => e ▸ hn.2.1) fun h => Nat.le_trans hn.2.2.1 h⟩
theorem Mt.cell {w W : World} {B : Bp} {x : Bx} {h : Int} {b g p bm s : Nat} {regs : List (Int × Int)} {Lp : Int -> List Su} (H : Mt w W B x h b g p bm s regs Lp) : W.cell? ⟨b, 9, none⟩ = some (.pointer (some ⟨p, 0, none⟩)) := by rw [aA H.bd 9]; rfl
theorem aBw (B : Bp) (x : Bx) (h : Int) (w : World) (H : bB w B x h) :
 Calls prog 58 #[.agg #[.int .i64 B.n, .int .i64 B.c, .int .u32 B.div], .agg #[.pointer (some ⟨B.pc, 0, none⟩), .pointer (some ⟨B.pb, 0, none⟩), .pointer (some ⟨B.pd, 0, none⟩), .pointer (some ⟨B.ps, 0, none⟩), .pointer (some ⟨B.pr, 0, none⟩), .pointer (some ⟨B.pl, 0, none⟩)]] w (aFE B x h w) := by
 have hC := bM w (.cells #[.int .i64 B.n, .int .i64 B.c, .int .u32 B.div] 75) (.cells #[.pointer (some ⟨B.pc, 0, none⟩), .pointer (some ⟨B.pb, 0, none⟩), .pointer (some ⟨B.pd, 0, none⟩), .pointer (some ⟨B.ps, 0, none⟩), .pointer (some ⟨B.pr, 0, none⟩), .pointer (some ⟨B.pl, 0, none⟩)] 117)
 have hD := bU w (.cells #[.int .i64 B.n, .int .i64 B.c, .int .u32 B.div] 75) (.cells #[.pointer (some ⟨B.pc, 0, none⟩), .pointer (some ⟨B.pb, 0, none⟩), .pointer (some ⟨B.pd, 0, none⟩), .pointer (some ⟨B.ps, 0, none⟩), .pointer (some ⟨B.pr, 0, none⟩), .pointer (some ⟨B.pl, 0, none⟩)] 117)
 have hb := aE (aE (aH w) (.cells #[.int .i64 B.n, .int .i64 B.c, .int .u32 B.div] 75)) (.cells #[.pointer (some ⟨B.pc, 0, none⟩), .pointer (some ⟨B.pb, 0, none⟩), .pointer (some ⟨B.pd, 0, none⟩), .pointer (some ⟨B.ps, 0, none⟩), .pointer (some ⟨B.pr, 0, none⟩), .pointer (some ⟨B.pl, 0, none⟩)] 117)
 have H0 := H.below hb
 have hnd : ∀ k, B.dvs k -> k < w.heap.size := fun k hk => H.lt hk
 have hnm := H.ltm
 have k0 := aA hC 0
 have k1 := aA hC 1
 have k2 := aA hC 2
 simp only [y0q, y1q, y2q] at k0 k1 k2
 have c0 := aA hD 0
 have c1 := aA hD 1
 have c2 := aA hD 2
 have c3 := aA hD 3
 have c4 := aA hD 4
 have c5 := aA hD 5
 simp only [y0q, y1q, y2q] at c0 c1 c2 c3 c4 c5
 have HC := Hd hC
 have HD := Hd hD
 have HB := Hd hb
 have HH := Hd H0
 have HND := Hd hnd
 have HNM := Hd hnm
 clear hC hD hb H0 hnd hnm H
 go_enter func58, ntmps58
 go_upto_region 1 with (fail)
 generalize ((w.alloc (.cells #[.int .i64 B.n, .int .i64 B.c, .int .u32 B.div] 75)).alloc (.cells #[.pointer (some ⟨B.pc, 0, none⟩), .pointer (some ⟨B.pb, 0, none⟩), .pointer (some ⟨B.pd, 0, none⟩), .pointer (some ⟨B.ps, 0, none⟩), .pointer (some ⟨B.pr, 0, none⟩), .pointer (some ⟨B.pl, 0, none⟩)] 117)) = W at *
 go_region_held3 (fun w' => w'.cell? ⟨w.heap.size, 0, none⟩ = some (.int .i64 B.n) /\ w'.cell? ⟨w.heap.size, 1, none⟩ = some (.int .i64 B.c) /\ w'.cell? ⟨w.heap.size, 2, none⟩ = some (.int .u32 B.div) /\ w'.cell? ⟨w.heap.size + 1, 0, none⟩ = some (.pointer (some ⟨B.pc, 0, none⟩)) /\ w'.cell? ⟨w.heap.size + 1, 1, none⟩ = some (.pointer (some ⟨B.pb, 0, none⟩)) /\ w'.cell? ⟨w.heap.size + 1, 2, none⟩ = some (.pointer (some ⟨B.pd, 0, none⟩)) /\ w'.cell? ⟨w.heap.size + 1, 3, none⟩ = some (.pointer (some ⟨B.ps, 0, none⟩)) /\ w'.cell? ⟨w.heap.size + 1, 4, none⟩ = some (.pointer (some ⟨B.pr, 0, none⟩)) /\ w'.cell? ⟨w.heap.size + 1, 5, none⟩ = some (.pointer (some ⟨B.pl, 0, none⟩)))
  (first | exact ⟨k0, k1, k2, c0, c1, c2, c3, c4, c5⟩ | exact ⟨Lib.cell?_alloc_some _ k0, Lib.cell?_alloc_some _ k1, Lib.cell?_alloc_some _ k2, Lib.cell?_alloc_some _ c0, Lib.cell?_alloc_some _ c1, Lib.cell?_alloc_some _ c2, Lib.cell?_alloc_some _ c3, Lib.cell?_alloc_some _ c4, Lib.cell?_alloc_some _ c5⟩)
  (first | (go_at_call 103; refine (aQD _).mono ?_; rintro e w1 ⟨rfl, hU, hb1⟩; have HC := Hd (aC (hb1) (show (World.drew W).heap[w.heap.size]? = _ from HC.out) (lt_of_block HC.out)); have HD := Hd (aC (hb1) (show (World.drew W).heap[w.heap.size + 1]? = _ from HD.out) (lt_of_block HD.out)); have hC := HC.out; have hD := HD.out; have k0 := aA hC 0; have k1 := aA hC 1; have k2 := aA hC 2; simp only [y0q, y1q, y2q] at k0 k1 k2; have c0 := aA hD 0; have c1 := aA hD 1; have c2 := aA hD 2; have c3 := aA hD 3; have c4 := aA hD 4; have c5 := aA hD 5; simp only [y0q, y1q, y2q] at c0 c1 c2 c3 c4 c5))
 have hb1' : Below W.heap.size W w1 := tr (jQ (aH W)) hb1
 have H1 := HH.out.below hb1'
 have HB1 := Hd (tr HB.out hb1')
 have hU' : eZ w1 (W.heap.size + 1) W.heap.size (.slice none 0 0) [] [] (fun _ => .slice none 0 0) (fun _ => []) := hU
 have hs1 : W.heap.size + 1 < w1.heap.size := hU'.ltp
 have HU := Hd hU'
 have HH1 := Hd H1
 clear hU hU' hb1 hb1' H1 k0 k1 k2 c0 c1 c2 c3 c4 c5 hC hD
 go_wp2_with fail
 refine (aNO B _).mono ?_
 rintro e W3 ⟨g, rfl, hrow, hb3, hg⟩
 have ha := aE (aH w1) (.cells (mcl B (W.heap.size + 1)) 121)
 have hbd := aD w1 (.cells (mcl B (W.heap.size + 1)) 121)
 have hws := HB.out.size
 have hw1 := HB1.out.size
 have hsa : (w1.alloc (.cells (mcl B (W.heap.size + 1)) 121)).heap.size = w1.heap.size + 1 := by simp
 have hg' : w1.heap.size + 1 <= g := hsa ▸ hg
 have hgl := lt_of_block hrow
 have hs3 : w1.heap.size + 1 <= W3.heap.size := by have := hb3.size; rw [<- hsa]; exact this
 have M : Mt w W3 B x h w1.heap.size g (W.heap.size + 1) W.heap.size W3.heap.size [] (fun _ => []) :=
  ⟨(HH1.out.below ha).below hb3, aC hb3 hbd (by simp), hrow,
   ⟨.slice none 0 0, [], [], fun _ => .slice none 0 0, (HU.out.ofBelow ha).ofBelow hb3, List.Perm.refl _, fun k hk => hk.elim .inl fun hk => .inr (.inl (hk.elim id fun hk => hk.elim (fun hk => by cases hk) fun ⟨u, hu, _⟩ => by cases hu))⟩,
   tr (tr HB1.out ha) hb3, Nat.le_refl _, by omega, by omega, HND.out, HNM.out, by omega⟩
 have HM := Hd M
 generalize W.heap.size = bm at *
 generalize w1.heap.size = b at *
 generalize W3.heap.size = s at *
 clear M ha hbd hws hw1 hsa hg hg' hgl hs3 hrow hb3 HH1 HB1 HU hs1 HC HD HB HH HND HNM
 go_upto_region 3 with (fail)
 have hr := HM.out.row
 refine wp_loop_rounds 7 ?_
 rw [rounds_succ]
 have r0 := aA hr 0
 have r1 := aA hr 1
 have r2 := aA hr 2
 simp only [jI, y0q, y1q, y2q] at r0 r1 r2
 go_wp2_with fail
 have M1 := HM.out.below (aE (aH W3) (.cells #[.int .u32 33554432, .int .u32 49152, .iface 110 (.pointer (some ⟨B.pc, 0, none⟩))] 184))
 have hS := aD W3 (.cells #[.int .u32 33554432, .int .u32 49152, .iface 110 (.pointer (some ⟨B.pc, 0, none⟩))] 184)
 have hl := lt_of_block hS
 have hlb := lt_of_block M1.bd
 generalize (W3.alloc (.cells #[.int .u32 33554432, .int .u32 49152, .iface 110 (.pointer (some ⟨B.pc, 0, none⟩))] 184)) = U at *
 generalize W3.heap.size = z at *
 have c9 := M1.cell
 have s0 := aA hS 0
 have s1 := aA hS 1
 have s2 := aA hS 2
 simp only [y0q, y1q, y2q] at s0 s1 s2
 have HM := Hd M1
 have hgc := bC
 have hgf := dE
 clear M1 hS hr r0 r1 r2
 refine aM 8 (by kernel_rfl) (by kernel_rfl) ?_
 simp only [y3q, y4q, y5q, y6q]
 repeat (go_big_quiet_step (fail))
 refine wpQuiet_nil ?_
 intro _ hw'
 obtain ⟨⟨dq, osq⟩, hw''⟩ := hw'
 subst hw''
 have M2 := HM.out.below (below_regrown U dq osq)
 generalize grow (redrawn U dq) osq = U2 at *
 have HM := Hd M2
 clear M2 c9 s0 s1 s2 hl hlb hgc hgf
 go_wp2_with fail
 refine (nW HM.out.bus HM.out.sz 33554432 49152 110 (.pointer (some ⟨B.pc, 0, none⟩)) (by decide) ⟨(by show (0 : Int) <= 33554432; decide), ⟨(by show (0 : Int) < 49152; decide), (by show (49152 : Int) < 4294967296; decide)⟩, (by show (33554432 : Int) + 49152 <= 4294967296; decide)⟩ (by decide) (by decide) (by decide) (by decide)).mono ?_
 rintro e W4 ⟨rfl, hK, ho⟩
 have M3 := HM.out.att hK ho
 have hr := M3.row
 have HM := Hd M3
 clear M3 hK ho
 go_wp2_with fail
 rw [rounds_succ]
 have r0 := aA hr 3
 have r1 := aA hr 4
 have r2 := aA hr 5
 simp only [jI, y0q, y1q, y2q] at r0 r1 r2
 go_wp2_with fail
 have M1 := HM.out.below (aE (aH W4) (.cells #[.int .u32 268500992, .int .u32 256, .iface 111 (.pointer (some ⟨B.pb, 0, none⟩))] 184))
 have hS := aD W4 (.cells #[.int .u32 268500992, .int .u32 256, .iface 111 (.pointer (some ⟨B.pb, 0, none⟩))] 184)
 have hl := lt_of_block hS
 have hlb := lt_of_block M1.bd
 generalize (W4.alloc (.cells #[.int .u32 268500992, .int .u32 256, .iface 111 (.pointer (some ⟨B.pb, 0, none⟩))] 184)) = U at *
 generalize W4.heap.size = z at *
 have c9 := M1.cell
 have s0 := aA hS 0
 have s1 := aA hS 1
 have s2 := aA hS 2
 simp only [y0q, y1q, y2q] at s0 s1 s2
 have HM := Hd M1
 have hgc := bC
 have hgf := dE
 clear M1 hS hr r0 r1 r2
 refine aM 8 (by kernel_rfl) (by kernel_rfl) ?_
 simp only [y3q, y4q, y5q, y6q]
 repeat (go_big_quiet_step (fail))
 refine wpQuiet_nil ?_
 intro _ hw'
 obtain ⟨⟨dq, osq⟩, hw''⟩ := hw'
 subst hw''
 have M2 := HM.out.below (below_regrown U dq osq)
 generalize grow (redrawn U dq) osq = U2 at *
 have HM := Hd M2
 clear M2 c9 s0 s1 s2 hl hlb hgc hgf
 go_wp2_with fail
 refine (nW HM.out.bus HM.out.sz 268500992 256 111 (.pointer (some ⟨B.pb, 0, none⟩)) (by decide) ⟨(by show (0 : Int) <= 268500992; decide), ⟨(by show (0 : Int) < 256; decide), (by show (256 : Int) < 4294967296; decide)⟩, (by show (268500992 : Int) + 256 <= 4294967296; decide)⟩ (by decide) (by decide) (by decide) (by decide)).mono ?_
 rintro e W5 ⟨rfl, hK, ho⟩
 have M3 := HM.out.att hK ho
 have hr := M3.row
 have HM := Hd M3
 clear M3 hK ho
 go_wp2_with fail
 rw [rounds_succ]
 have r0 := aA hr 6
 have r1 := aA hr 7
 have r2 := aA hr 8
 simp only [jI, y0q, y1q, y2q] at r0 r1 r2
 go_wp2_with fail
 have M1 := HM.out.below (aE (aH W5) (.cells #[.int .u32 268566528, .int .u32 20, .iface 112 (.pointer (some ⟨B.pd, 0, none⟩))] 184))
 have hS := aD W5 (.cells #[.int .u32 268566528, .int .u32 20, .iface 112 (.pointer (some ⟨B.pd, 0, none⟩))] 184)
 have hl := lt_of_block hS
 have hlb := lt_of_block M1.bd
 generalize (W5.alloc (.cells #[.int .u32 268566528, .int .u32 20, .iface 112 (.pointer (some ⟨B.pd, 0, none⟩))] 184)) = U at *
 generalize W5.heap.size = z at *
 have c9 := M1.cell
 have s0 := aA hS 0
 have s1 := aA hS 1
 have s2 := aA hS 2
 simp only [y0q, y1q, y2q] at s0 s1 s2
 have HM := Hd M1
 have hgc := bC
 have hgf := dE
 clear M1 hS hr r0 r1 r2
 refine aM 8 (by kernel_rfl) (by kernel_rfl) ?_
 simp only [y3q, y4q, y5q, y6q]
 repeat (go_big_quiet_step (fail))
 refine wpQuiet_nil ?_
 intro _ hw'
 obtain ⟨⟨dq, osq⟩, hw''⟩ := hw'
 subst hw''
 have M2 := HM.out.below (below_regrown U dq osq)
 generalize grow (redrawn U dq) osq = U2 at *
 have HM := Hd M2
 clear M2 c9 s0 s1 s2 hl hlb hgc hgf
 go_wp2_with fail
 refine (nW HM.out.bus HM.out.sz 268566528 20 112 (.pointer (some ⟨B.pd, 0, none⟩)) (by decide) ⟨(by show (0 : Int) <= 268566528; decide), ⟨(by show (0 : Int) < 20; decide), (by show (20 : Int) < 4294967296; decide)⟩, (by show (268566528 : Int) + 20 <= 4294967296; decide)⟩ (by decide) (by decide) (by decide) (by decide)).mono ?_
 rintro e W6 ⟨rfl, hK, ho⟩
 have M3 := HM.out.att hK ho
 have hr := M3.row
 have HM := Hd M3
 clear M3 hK ho
 go_wp2_with fail
 rw [rounds_succ]
 have r0 := aA hr 9
 have r1 := aA hr 10
 have r2 := aA hr 11
 simp only [jI, y0q, y1q, y2q] at r0 r1 r2
 go_wp2_with fail
 have M1 := HM.out.below (aE (aH W6) (.cells #[.int .u32 268632064, .int .u32 16, .iface 113 (.pointer (some ⟨B.ps, 0, none⟩))] 184))
 have hS := aD W6 (.cells #[.int .u32 268632064, .int .u32 16, .iface 113 (.pointer (some ⟨B.ps, 0, none⟩))] 184)
 have hl := lt_of_block hS
 have hlb := lt_of_block M1.bd
 generalize (W6.alloc (.cells #[.int .u32 268632064, .int .u32 16, .iface 113 (.pointer (some ⟨B.ps, 0, none⟩))] 184)) = U at *
 generalize W6.heap.size = z at *
 have c9 := M1.cell
 have s0 := aA hS 0
 have s1 := aA hS 1
 have s2 := aA hS 2
 simp only [y0q, y1q, y2q] at s0 s1 s2
 have HM := Hd M1
 have hgc := bC
 have hgf := dE
 clear M1 hS hr r0 r1 r2
 refine aM 8 (by kernel_rfl) (by kernel_rfl) ?_
 simp only [y3q, y4q, y5q, y6q]
 repeat (go_big_quiet_step (fail))
 refine wpQuiet_nil ?_
 intro _ hw'
 obtain ⟨⟨dq, osq⟩, hw''⟩ := hw'
 subst hw''
 have M2 := HM.out.below (below_regrown U dq osq)
 generalize grow (redrawn U dq) osq = U2 at *
 have HM := Hd M2
 clear M2 c9 s0 s1 s2 hl hlb hgc hgf
 go_wp2_with fail
 refine (nW HM.out.bus HM.out.sz 268632064 16 113 (.pointer (some ⟨B.ps, 0, none⟩)) (by decide) ⟨(by show (0 : Int) <= 268632064; decide), ⟨(by show (0 : Int) < 16; decide), (by show (16 : Int) < 4294967296; decide)⟩, (by show (268632064 : Int) + 16 <= 4294967296; decide)⟩ (by decide) (by decide) (by decide) (by decide)).mono ?_
 rintro e W7 ⟨rfl, hK, ho⟩
 have M3 := HM.out.att hK ho
 have hr := M3.row
 have HM := Hd M3
 clear M3 hK ho
 go_wp2_with fail
 rw [rounds_succ]
 have r0 := aA hr 12
 have r1 := aA hr 13
 have r2 := aA hr 14
 simp only [jI, y0q, y1q, y2q] at r0 r1 r2
 go_wp2_with fail
 have M1 := HM.out.below (aE (aH W7) (.cells #[.int .u32 268697600, .int .u32 36, .iface 114 (.pointer (some ⟨B.pr, 0, none⟩))] 184))
 have hS := aD W7 (.cells #[.int .u32 268697600, .int .u32 36, .iface 114 (.pointer (some ⟨B.pr, 0, none⟩))] 184)
 have hl := lt_of_block hS
 have hlb := lt_of_block M1.bd
 generalize (W7.alloc (.cells #[.int .u32 268697600, .int .u32 36, .iface 114 (.pointer (some ⟨B.pr, 0, none⟩))] 184)) = U at *
 generalize W7.heap.size = z at *
 have c9 := M1.cell
 have s0 := aA hS 0
 have s1 := aA hS 1
 have s2 := aA hS 2
 simp only [y0q, y1q, y2q] at s0 s1 s2
 have HM := Hd M1
 have hgc := bC
 have hgf := dE
 clear M1 hS hr r0 r1 r2
 refine aM 8 (by kernel_rfl) (by kernel_rfl) ?_
 simp only [y3q, y4q, y5q, y6q]
 repeat (go_big_quiet_step (fail))
 refine wpQuiet_nil ?_
 intro _ hw'
 obtain ⟨⟨dq, osq⟩, hw''⟩ := hw'
 subst hw''
 have M2 := HM.out.below (below_regrown U dq osq)
 generalize grow (redrawn U dq) osq = U2 at *
 have HM := Hd M2
 clear M2 c9 s0 s1 s2 hl hlb hgc hgf
 go_wp2_with fail
 refine (nW HM.out.bus HM.out.sz 268697600 36 114 (.pointer (some ⟨B.pr, 0, none⟩)) (by decide) ⟨(by show (0 : Int) <= 268697600; decide), ⟨(by show (0 : Int) < 36; decide), (by show (36 : Int) < 4294967296; decide)⟩, (by show (268697600 : Int) + 36 <= 4294967296; decide)⟩ (by decide) (by decide) (by decide) (by decide)).mono ?_
 rintro e W8 ⟨rfl, hK, ho⟩
 have M3 := HM.out.att hK ho
 have hr := M3.row
 have HM := Hd M3
 clear M3 hK ho
 go_wp2_with fail
 rw [rounds_succ]
 have r0 := aA hr 15
 have r1 := aA hr 16
 have r2 := aA hr 17
 simp only [jI, y0q, y1q, y2q] at r0 r1 r2
 go_wp2_with fail
 have M1 := HM.out.below (aE (aH W8) (.cells #[.int .u32 268763136, .int .u32 12, .iface 115 (.pointer (some ⟨B.pl, 0, none⟩))] 184))
 have hS := aD W8 (.cells #[.int .u32 268763136, .int .u32 12, .iface 115 (.pointer (some ⟨B.pl, 0, none⟩))] 184)
 have hl := lt_of_block hS
 have hlb := lt_of_block M1.bd
 generalize (W8.alloc (.cells #[.int .u32 268763136, .int .u32 12, .iface 115 (.pointer (some ⟨B.pl, 0, none⟩))] 184)) = U at *
 generalize W8.heap.size = z at *
 have c9 := M1.cell
 have s0 := aA hS 0
 have s1 := aA hS 1
 have s2 := aA hS 2
 simp only [y0q, y1q, y2q] at s0 s1 s2
 have HM := Hd M1
 have hgc := bC
 have hgf := dE
 clear M1 hS hr r0 r1 r2
 refine aM 8 (by kernel_rfl) (by kernel_rfl) ?_
 simp only [y3q, y4q, y5q, y6q]
 repeat (go_big_quiet_step (fail))
 refine wpQuiet_nil ?_
 intro _ hw'
 obtain ⟨⟨dq, osq⟩, hw''⟩ := hw'
 subst hw''
 have M2 := HM.out.below (below_regrown U dq osq)
 generalize grow (redrawn U dq) osq = U2 at *
 have HM := Hd M2
 clear M2 c9 s0 s1 s2 hl hlb hgc hgf
 go_wp2_with fail
 refine (nW HM.out.bus HM.out.sz 268763136 12 115 (.pointer (some ⟨B.pl, 0, none⟩)) (by decide) ⟨(by show (0 : Int) <= 268763136; decide), ⟨(by show (0 : Int) < 12; decide), (by show (12 : Int) < 4294967296; decide)⟩, (by show (268763136 : Int) + 12 <= 4294967296; decide)⟩ (by decide) (by decide) (by decide) (by decide)).mono ?_
 rintro e W9 ⟨rfl, hK, ho⟩
 have M3 := HM.out.att hK ho
 have hr := M3.row
 have HM := Hd M3
 clear M3 hK ho
 go_wp2_with fail
 rw [rounds_succ]
 go_wp2_with fail
 go_ret
 exact aMF HM.out
end Go.Proofs.YtaohacadochldaaGreat.B
