/- A part of the proof of a law of layer 12: bk. -/
import Derived.Test.YtaohacadochldaaGreatZCbh
import Derived.Test.YtaohacadochldaaGreatZCbi
import Derived.Test.YtaohacadochldaaGreatZCbj
set_option linter.unusedVariables false
set_option linter.unusedSimpArgs false
set_option maxHeartbeats 12800000
set_option maxRecDepth 100000
namespace Go.Proofs.YtaohacadochldaaGreat.B
open Go.Proofs.Tryz
open Go.ChangeShapes Go.WideShapes Go.RowKit Go.Sort
theorem aMi (f g : Nat -> Bool) (w : World) :
 Calls prog 89 #[.agg (dZ f g).toArray] w fun e w' => e = .returned (.int .i64 (oT fun i => f i && g i)) /\ Below w.heap.size w w' := by
 go_enter func89, ntmps89
 go_wp2_with fail
 have hB := aD w (.cells (dZ f g).toArray 150)
 have hb : Below w.heap.size w (w.alloc (.cells (dZ f g).toArray 150)) := aE (aH w) _
 generalize (w.alloc (.cells (dZ f g).toArray 150)) = W at *
 have HB := Hd hB
 clear hB
 go_loop [3] (fun i => ∃ k : Nat, k <= 32 /\ i = .int .i64 k /\ yL (fun i => f i && g i) k) (fun i => 32 - (intOf i).toNat)
 case atStart => exact ⟨0, by omega, rfl, aBN _⟩
 case round =>
  obtain ⟨k, hk, rfl, hn⟩ := hrel
  by_cases hlt : k < 32
  . have hc0 := rR HB.out k hlt
    have hc1 := yF HB.out k hlt
    cases hf : f k
    . have HN := Hd (uQ _ k hn (by simp [hf]))
      rw [hf] at hc0
      clear hf hn
      go_wp2_with fail
      go_round
      case rel => exact ⟨k + 1, by omega, by go_num, HN.out⟩
      case measure => simp [intOf]; omega
    . cases hg : g k
      . have HN := Hd (uQ _ k hn (by simp [hg]))
        rw [hf] at hc0
        rw [hg] at hc1
        clear hf hg hn
        go_wp2_with fail
        go_round
        case rel => exact ⟨k + 1, by omega, by go_num, HN.out⟩
        case measure => simp [intOf]; omega
      . have HN := Hd (aCf (fun i => f i && g i) k hn hlt (by simp [hf, hg]))
        rw [hf] at hc0
        rw [hg] at hc1
        clear hf hg hn
        go_wp2_with fail
        go_ret
        exact ⟨bJ HN.out.symm, hb⟩
  . have HN := Hd (aCe _ k hn (by omega))
    go_wp2_with fail
    go_ret
    exact ⟨bJ HN.out.symm, hb⟩
def aCy (f g : Nat -> Bool) (o : Int) : Int := if gZ o = 0 then (if o = 0 then ob f 32 else if o = 4 then ob g 32 else ob (fun i => f i && g i) 32) else 0
theorem aHF (f g : Nat -> Bool) (o : Int) (w : World) (o0 : 0 <= o) (o1 : o < 4294967296) :
 Calls prog 133 #[.agg (dZ f g).toArray, .int .u32 o] w fun e w' => e = .returned (.tuple #[.int .u32 (aCy f g o), .int .i64 (gZ o)]) /\ Below w.heap.size w w' := by
 cases h4 : (o % 4 != 0)
 . go_enter func133, ntmps133
   have hb := aE (aE (aH w) (.cells (dZ f g).toArray 150)) (.cells (bl (fun _ => false) 32).toArray 33)
   go_wp2_with fail
   rw [aAi]
   have h0 := bM w (.cells (dZ f g).toArray 150) (.cells (bl (fun _ => false) 32).toArray 33)
   have h1 := bU w (.cells (dZ f g).toArray 150) (.cells (bl (fun _ => false) 32).toArray 33)
   generalize ((w.alloc (.cells (dZ f g).toArray 150)).alloc (.cells (bl (fun _ => false) 32).toArray 33)) = W at *
   have H0 := Hd h0
   have H1 := Hd h1
   clear h0 h1
   go_loopw [7] (fun i wr => ∃ k : Nat, k <= 32 /\ i = .int .i64 k /\ wr.heap[w.heap.size]? = some (.cells (dZ f g).toArray 150 (0, 0)) /\ wr.heap[w.heap.size + 1]? = some (.cells (bl (vL (fun i => f i && g i) k) 32).toArray 33 (0, 0)) /\ Below w.heap.size w wr) (fun i _ => 32 - (intOf i).toNat)
   case atStart => exact ⟨0, by omega, rfl, H0.out, by rw [yY]; exact H1.out, hb⟩
   case round =>
    clear hb
    obtain ⟨k, hk, rfl, h0, h1, hb⟩ := hrel
    by_cases hlt : k < 32
    . have hc := sU h1 k hlt
      have hf := aK h1 k
      have hc0 := rR h0 k hlt
      have hc1 := yF h0 k hlt
      have H2 := Hd (vM k h1)
      have H0 := Hd (aV h0 (w.heap.size + 1) k (.bool (f k && g k)) (by omega))
      have hB := hb.setCell (p := ⟨w.heap.size + 1, k, none⟩) (by simp) (.bool (f k && g k))
      clear h0 h1
      cases hfk : f k
      all_goals
       rw [hfk] at hc0 H2 H0 hB
       cases hgk : g k
       all_goals
        rw [hgk] at hc1 H2 H0 hB
        clear hfk hgk
        go_wp2_with fail
        go_roundw
        case rel => exact ⟨k + 1, by omega, by go_num, H0.out, H2.out, hB⟩
        case measure => simp [intOf]; omega
    . obtain rfl : k = 32 := by omega
      rw [yX] at h1
      have hm : gZ o = 0 \/ gZ o ≠ 0 := by omega
      rcases hm with he | he
      . rcases yE o0 he with rfl | rfl | rfl
        . go_wp2_with (refine rT rfl (.tmp 30) rfl _ _ rfl f h0 (yG f g) ?_)
          refine (aBT f _).mono ?_
          rintro e w1 ⟨rfl, hb1⟩
          go_wp2_with fail
          go_ret2
          exact ⟨rfl, tr hb hb1⟩
        . go_wp2_with (refine rT rfl (.tmp 35) rfl _ _ rfl g h0 (rS f g) ?_)
          refine (aBT g _).mono ?_
          rintro e w1 ⟨rfl, hb1⟩
          go_wp2_with fail
          go_ret2
          exact ⟨rfl, tr hb hb1⟩
        . go_wp2_with (refine rT rfl (.tmp 6) rfl _ _ rfl _ h1 (aL _) ?_)
          refine (aBT _ _).mono ?_
          rintro e w1 ⟨rfl, hb1⟩
          go_wp2_with fail
          go_ret2
          exact ⟨rfl, tr hb hb1⟩
      . have hv : aCy f g o = 0 := by unfold aCy; rw [if_neg he]
        have h10 : gZ o = 10 := by
         unfold gZ at he ⊢; rw [h4] at he ⊢; simp at he ⊢; omega
        have n0 : (o == 0) = false := by simp; rintro rfl; exact he rfl
        have n4 : (o == 4) = false := by simp; rintro rfl; exact he rfl
        have n8 : (o == 8) = false := by simp; rintro rfl; exact he rfl
        have HV := Hd hv
        have HE := Hd h10
        clear hv h10 he
        go_wp2_with fail
        go_ret2
        exact ⟨by rw [HV.out, HE.out]; rfl, hb⟩
 . have he : gZ o = 11 := by unfold gZ; rw [h4]; rfl
   have hv : aCy f g o = 0 := by unfold aCy; rw [if_neg (by omega)]
   rw [hv, he]
   clear hv he
   go_enter func133, ntmps133
   go_wp2_with fail
   go_ret2
   exact ⟨rfl, aE (aH w) _⟩
theorem aEB : (#[.bool false, .bool false, .bool false, .bool false, .bool false, .bool false, .bool false, .bool false, .bool false, .bool false, .bool false, .bool false, .bool false, .bool false, .bool false, .bool false, .bool false, .bool false, .bool false, .bool false, .bool false, .bool false, .bool false, .bool false, .bool false, .bool false, .bool false, .bool false, .bool false, .bool false, .bool false, .bool false, .bool false, .bool false, .bool false, .bool false, .bool false, .bool false, .bool false, .bool false, .bool false, .bool false, .bool false, .bool false, .bool false, .bool false, .bool false, .bool false, .bool false, .bool false, .bool false, .bool false, .bool false, .bool false, .bool false, .bool false, .bool false, .bool false, .bool false, .bool false, .bool false, .bool false, .bool false, .bool false] : Array Value) = (dZ (fun _ => false) (fun _ => false)).toArray := rfl
theorem wN {P : Prop} (h : P := by
 exact bE results127 _ _ _ 0 _ (dZ f g) _ rfl rfl (aY _ h1) underlying150 rfl (by rw [dJ]; exact i27) (aL _)
 ) : P := h
theorem aHG (f g : Nat -> Bool) (o v : Int) (w : World) (o0 : 0 <= o) (o1 : o < 4294967296) (h4 : o ≠ 4) :
 Calls prog 127 #[.agg (dZ f g).toArray, .int .u32 o, .int .u32 v] w fun e w' => e = .returned (.tuple #[.agg (dZ f g).toArray, .int .i64 (oN o)]) /\ Below w.heap.size w w' := by
 have n4 : (o == 4) = false := by simpa using h4
 have n4' : (o != 4) = true := by simpa using h4
 go_enter func127, ntmps127
 have hb := aE (aE (aH w) (.cells (dZ f g).toArray 150)) (.cells (dZ (fun _ => false) (fun _ => false)).toArray 150)
 have h0 := bM w (.cells (dZ f g).toArray 150) (.cells (dZ (fun _ => false) (fun _ => false)).toArray 150)
 have h1 := bU w (.cells (dZ f g).toArray 150) (.cells (dZ (fun _ => false) (fun _ => false)).toArray 150)
 go_wp2_with (refine mX rfl (.tmp 3) rfl _ rfl f g (bM w _ _) ?_)
 rw [aEB]
 generalize (w.alloc (.cells (dZ f g).toArray 150)).alloc (.cells (dZ (fun _ => false) (fun _ => false)).toArray 150) = W at *
 have hld := aHF f g o W o0 o1
 have hH := Hd h0
 have hH1 := Hd h1
 clear h0 h1
 by_cases he : gZ o = 0
 . rw [he] at hld
   have HS := Hd (show oN o = 12 by unfold oN; rw [if_pos he, if_neg h4])
   clear he
   refine hld.mono ?_
   rintro e W1 ⟨rfl, hb1⟩
   have h0 := aC hb1 hH.out (lt_of_block hH.out)
   have h1 := aC hb1 hH1.out (lt_of_block hH1.out)
   have hbw := tr hb hb1
   clear hb hb1 hld
   go_wp2_with (first | (refine mX rfl (.tmp 3) rfl _ rfl f g h0 ?_) | (refine jU rfl (.tmp 6) (.tmp 27) rfl _ rfl f g rfl h1 (by simp [dJ]) ?_))
   refine bodyPost_ret (v := .tuple #[.agg (dZ f g).toArray, .int .i64 12]) ?_ rfl ⟨by rw [HS.out], aB hbw _ (by simp)⟩
   exact wN
 . have hn : (gZ o == 0) = false := by simpa using he
   have HS := Hd (show oN o = gZ o by unfold oN; rw [if_neg he])
   clear he
   refine hld.mono ?_
   rintro e W1 ⟨rfl, hb1⟩
   have h0 := aC hb1 hH.out (lt_of_block hH.out)
   have h1 := aC hb1 hH1.out (lt_of_block hH1.out)
   have hbw := tr hb hb1
   clear hb hb1 hld
   go_wp2_with (first | (refine mX rfl (.tmp 3) rfl _ rfl f g h0 ?_) | (refine jU rfl (.tmp 6) (.tmp 27) rfl _ rfl f g rfl h1 (by simp [dJ]) ?_))
   refine bodyPost_ret (v := .tuple #[.agg (dZ f g).toArray, .int .i64 (gZ o)]) ?_ rfl ⟨by rw [HS.out], aB hbw _ (by simp)⟩
   exact wN
theorem aON : gZ 4 = 0 := rfl
theorem aI5 (f g : Nat -> Bool) (v : Int) (w : World) (v0 : 0 <= v) (v1 : v < 4294967296) :
 Calls prog 127 #[.agg (dZ f g).toArray, .int .u32 4, .int .u32 v] w fun e w' => e = .returned (.tuple #[.agg (dZ f (aO v)).toArray, .int .i64 0]) /\ Below w.heap.size w w' := by
 go_enter func127, ntmps127
 have hb := aE (aE (aH w) (.cells (dZ f g).toArray 150)) (.cells (dZ (fun _ => false) (fun _ => false)).toArray 150)
 have h0 := bM w (.cells (dZ f g).toArray 150) (.cells (dZ (fun _ => false) (fun _ => false)).toArray 150)
 have h1 := bU w (.cells (dZ f g).toArray 150) (.cells (dZ (fun _ => false) (fun _ => false)).toArray 150)
 go_wp2_with (refine mX rfl (.tmp 3) rfl _ rfl f g (bM w _ _) ?_)
 rw [aEB]
 generalize (w.alloc (.cells (dZ f g).toArray 150)).alloc (.cells (dZ (fun _ => false) (fun _ => false)).toArray 150) = W at *
 have hld := aHF f g 4 W (by omega) (by omega)
 rw [aON] at hld
 have hH := Hd h0
 have hH1 := Hd h1
 clear h0 h1
 refine hld.mono ?_
 rintro e W1 ⟨rfl, hb1⟩
 have h0 := aC hb1 hH.out (lt_of_block hH.out)
 have h1 := aC hb1 hH1.out (lt_of_block hH1.out)
 have hbw := tr hb hb1
 clear hb hb1 hld hH hH1
 go_wp2_with fail
 refine (aHD v _ v0 v1).mono ?_
 rintro e W2 ⟨rfl, hb2⟩
 have g0 := aC hb2 h0 (lt_of_block h0)
 have g1 := aC hb2 h1 (lt_of_block h1)
 have hbw2 := tr hbw hb2
 clear hb2 hbw h0 h1
 have k0 := aY (bR (dZ f g).toArray 32 (bl (aO v) 32)) g0
 have k1 := eQ w.heap.size (bR (dZ f g).toArray 32 (bl (aO v) 32)) g1 (by omega)
 rw [aBG] at k0
 have K0 := Hd k0
 have K1 := Hd k1
 clear k0 k1
 go_wp2_with (first | (refine sZ rfl (.tmp 26) (.tmp 25) rfl _ _ rfl (aO v) rfl g0 (by simp [dJ]) ?_) | (refine mX rfl (.tmp 3) rfl _ rfl f (aO v) K0.out ?_) | (refine jU rfl (.tmp 6) (.tmp 27) rfl _ rfl f (aO v) rfl K1.out (by simp [dJ]) ?_))
 refine bodyPost_ret (v := .tuple #[.agg (dZ f (aO v)).toArray, .int .i64 0]) ?_ rfl ⟨rfl, aB (aB hbw2 _ (by simp)) _ (by simp)⟩
 exact bE results127 _ _ _ 0 _ (dZ f (aO v)) _ rfl rfl (aY _ K1.out) underlying150 rfl (by rw [dJ]; exact i27) (aL _)
theorem aE2 (n c : Nat) (x : Bx) (o : Int) (m0 : 0 <= x.msk) (m1 : x.msk < 4294967296) : aCy (fH n c x) (aO x.msk) o = aBC (wires n c x) x.msk o := by
 have hw := dL n c x
 obtain ⟨b0, b1⟩ := aB7 (wires n c x) x.msk hw.1 hw.2 m0 m1
 have : ob (fun i => fH n c x i && aO x.msk i) 32 = bits BinOp.and IntKind.u32 (wires n c x) x.msk := by
  obtain ⟨c0, c1⟩ := gW (fun i => fH n c x i && aO x.msk i) 32 (by omega)
  refine jA c0 c1 b0 b1 fun i hi => ?_
  unfold ob
  rw [kE, decide_eq_true hi, Bool.true_and, aIM (wires n c x) x.msk i hw.1 hw.2 m0 m1, kX n c x i hi]
 unfold aCy aBC
 rw [aGp x.msk m0 m1, this]
 rfl
theorem gU {P : Prop} (h : P := by
 go_ret2
 exact ⟨rfl, by rw [HPN.out]; exact HB.out⟩
 ) : P := h
theorem aHx (n c : Nat) (x : Bx) (bk ev : Value) (a : Int) (w : World) (M : MV w c x bk ev) (ok : x.ok n c) (a0 : 0 <= a) (a1 : a < 4294967296) (h4 : a % 4 ≠ 0) (e : wh a = .odd) : Calls prog 71 #[.agg (ml n x bk ev).toArray, .int .u32 a] w (fun e w' => e = .returned (.tuple #[.int .u32 (x.ldv n c a), .int .i64 (Bx.lde n c a)]) /\ Below w.heap.size w w') := by
 rw [show x.ldv n c a = 0 by unfold Bx.ldv; rw [e], show Bx.lde n c a = 11 by unfold Bx.lde; rw [e]]
 obtain ⟨gk, capk, rfl, hrk⟩ := M.k
 have HOK := Hd ok
 have hb := aE (aH w) (bV n x (.slice (some ⟨gk, 0, none⟩) c capk) ev)
 have HN := Hd (show eY (w.alloc (bV n x (.slice (some ⟨gk, 0, none⟩) c capk) ev)) w.heap.size n x (.slice (some ⟨gk, 0, none⟩) c capk) ev from aD w _)
 have HM := Hd (M.below hb)
 have HB := Hd hb
 clear hb M hrk ok
 have HA := Hd (show 0 <= a /\ a < 4294967296 from ⟨a0, a1⟩)
 have q4 : (a % 4 != 0) = true := by simpa using h4
 clear h4
 go_enter func71, ntmps71
 go_upto_region 1 with (fail)
 rw [cI]
 generalize w.alloc (bV n x (.slice (some ⟨gk, 0, none⟩) c capk) ev) = W at *
 generalize hpn : w.heap.size = p at *
 have HPN := Hd hpn
 clear hpn
 go_wp2_with fail
 exact gU
theorem aJo (n c : Nat) (x : Bx) (bk ev : Value) (a : Int) (w : World) (M : MV w c x bk ev) (ok : x.ok n c) (a0 : 0 <= a) (a1 : a < 4294967296) (h4 : a % 4 = 0) (e : wh a = .no) : Calls prog 71 #[.agg (ml n x bk ev).toArray, .int .u32 a] w (fun e w' => e = .returned (.tuple #[.int .u32 (x.ldv n c a), .int .i64 (Bx.lde n c a)]) /\ Below w.heap.size w w') := by
 rw [show x.ldv n c a = 0 by unfold Bx.ldv; rw [e], show Bx.lde n c a = 10 by unfold Bx.lde; rw [e]]
 have HFI := Hd (show fI a = (0, 0, false) by unfold fI; rw [e])
 obtain ⟨gk, capk, rfl, hrk⟩ := M.k
 have HOK := Hd ok
 have hb := aE (aH w) (bV n x (.slice (some ⟨gk, 0, none⟩) c capk) ev)
 have HN := Hd (show eY (w.alloc (bV n x (.slice (some ⟨gk, 0, none⟩) c capk) ev)) w.heap.size n x (.slice (some ⟨gk, 0, none⟩) c capk) ev from aD w _)
 have HM := Hd (M.below hb)
 have HB := Hd hb
 clear hb M hrk ok
 have HA := Hd (show 0 <= a /\ a < 4294967296 from ⟨a0, a1⟩)
 have H4 := Hd h4
 go_enter func71, ntmps71
 go_upto_region 1 with (fail)
 rw [cI]
 generalize w.alloc (bV n x (.slice (some ⟨gk, 0, none⟩) c capk) ev) = W at *
 generalize hpn : w.heap.size = p at *
 have HPN := Hd hpn
 clear hpn
 go_wp2_with (go_at_call 121; refine (jL a _ HA.out.1 HA.out.2 H4.out).mono ?_; rw [HFI.out]; rintro e w1 ⟨rfl, b1⟩; have HN := Hd (HN.out.below b1); have HM := Hd (HM.out.below b1); have HB := Hd (eX HPN.out HB.out b1); clear b1)
 exact gU
theorem aHz (n c : Nat) (x : Bx) (bk ev : Value) (a : Int) (w : World) (M : MV w c x bk ev) (ok : x.ok n c) (a0 : 0 <= a) (a1 : a < 4294967296) (h4 : a % 4 = 0) (g0 : 33554432 <= a) (g1 : a < 33603584) (e : wh a = .cl (a - 33554432)) : Calls prog 71 #[.agg (ml n x bk ev).toArray, .int .u32 a] w (fun e w' => e = .returned (.tuple #[.int .u32 (x.ldv n c a), .int .i64 (Bx.lde n c a)]) /\ Below w.heap.size w w') := by
 rw [show x.ldv n c a = mS x.ti n x.D x.S (a - 33554432) by unfold Bx.ldv; rw [e], show Bx.lde n c a = gF n (a - 33554432) by unfold Bx.lde; rw [e]]
 have HFI := Hd (show fI a = (0, a - 33554432, true) by unfold fI; rw [e])
 have O0 : 0 <= a - 33554432 := by omega
 have O1 : a - 33554432 < 4294967296 := by omega
 obtain ⟨gk, capk, rfl, hrk⟩ := M.k
 have HOK := Hd ok
 have hb := aE (aH w) (bV n x (.slice (some ⟨gk, 0, none⟩) c capk) ev)
 have HN := Hd (show eY (w.alloc (bV n x (.slice (some ⟨gk, 0, none⟩) c capk) ev)) w.heap.size n x (.slice (some ⟨gk, 0, none⟩) c capk) ev from aD w _)
 have HM := Hd (M.below hb)
 have HB := Hd hb
 clear hb M hrk ok
 have HA := Hd (show 0 <= a /\ a < 4294967296 from ⟨a0, a1⟩)
 have H4 := Hd h4
 go_enter func71, ntmps71
 go_upto_region 1 with (fail)
 rw [cI]
 generalize w.alloc (bV n x (.slice (some ⟨gk, 0, none⟩) c capk) ev) = W at *
 generalize hpn : w.heap.size = p at *
 have HPN := Hd hpn
 clear hpn
 go_wp2_with (first | (go_at_call 121; refine (jL a _ HA.out.1 HA.out.2 H4.out).mono ?_; rw [HFI.out]; rintro e w1 ⟨rfl, b1⟩; have HN := Hd (HN.out.below b1); have HM := Hd (HM.out.below b1); have HB := Hd (eX HPN.out HB.out b1); clear b1) | (refine pH rfl (.tmp 23) rfl rfl HN.out ?_) | (go_at_call 128; refine (rZ (a - 33554432) x.ti n x.D x.S _ HOK.out.n8 HOK.out.d HOK.out.t0 HOK.out.t1 O0 O1).mono ?_; rintro e w3 ⟨rfl, b1⟩; have HN := Hd (HN.out.below b1); have HM := Hd (HM.out.below b1); have HB := Hd (eX HPN.out HB.out b1); clear b1))
 exact gU
theorem aHy (n c : Nat) (x : Bx) (bk ev : Value) (a : Int) (w : World) (M : MV w c x bk ev) (ok : x.ok n c) (a0 : 0 <= a) (a1 : a < 4294967296) (h4 : a % 4 = 0) (g0 : 268500992 <= a) (g1 : a < 268501248) (e : wh a = .bk (a - 268500992)) : Calls prog 71 #[.agg (ml n x bk ev).toArray, .int .u32 a] w (fun e w' => e = .returned (.tuple #[.int .u32 (x.ldv n c a), .int .i64 (Bx.lde n c a)]) /\ Below w.heap.size w w') := by
 rw [show x.ldv n c a = zY c x.tm (a - 268500992) by unfold Bx.ldv; rw [e], show Bx.lde n c a = jP c (a - 268500992) by unfold Bx.lde; rw [e]]
 have HFI := Hd (show fI a = (1, a - 268500992, true) by unfold fI; rw [e])
 have O0 : 0 <= a - 268500992 := by omega
 have O1 : a - 268500992 < 4294967296 := by omega
 obtain ⟨gk, capk, rfl, hrk⟩ := M.k
 have HOK := Hd ok
 have hb := aE (aH w) (bV n x (.slice (some ⟨gk, 0, none⟩) c capk) ev)
 have HN := Hd (show eY (w.alloc (bV n x (.slice (some ⟨gk, 0, none⟩) c capk) ev)) w.heap.size n x (.slice (some ⟨gk, 0, none⟩) c capk) ev from aD w _)
 have HM := Hd (M.below hb)
 have HB := Hd hb
 clear hb M hrk ok
 have HA := Hd (show 0 <= a /\ a < 4294967296 from ⟨a0, a1⟩)
 have H4 := Hd h4
 go_enter func71, ntmps71
 go_upto_region 1 with (fail)
 rw [cI]
 generalize w.alloc (bV n x (.slice (some ⟨gk, 0, none⟩) c capk) ev) = W at *
 generalize hpn : w.heap.size = p at *
 have HPN := Hd hpn
 clear hpn
 go_upto_region 10 with (first | (go_at_call 121; refine (jL a _ HA.out.1 HA.out.2 H4.out).mono ?_; rw [HFI.out]; rintro e w1 ⟨rfl, b1⟩; have HN := Hd (HN.out.below b1); have HM := Hd (HM.out.below b1); have HB := Hd (eX HPN.out HB.out b1); clear b1))
 have cB := HN.out.cB
 go_wp2_with (first | (go_at_call 129; refine (aKJ HM.out.row (fun i hi => HOK.out.tm i hi) HOK.out.c8 (a - 268500992) O0 O1).mono ?_; rintro e w3 ⟨rfl, b1⟩; have HN := Hd (HN.out.below b1); have HM := Hd (HM.out.below b1); have HB := Hd (eX HPN.out HB.out b1); clear b1))
 exact gU
theorem aH0 (n c : Nat) (x : Bx) (bk ev : Value) (a : Int) (w : World) (M : MV w c x bk ev) (ok : x.ok n c) (a0 : 0 <= a) (a1 : a < 4294967296) (h4 : a % 4 = 0) (g0 : 268566528 <= a) (g1 : a < 268566548) (e : wh a = .dg (a - 268566528)) : Calls prog 71 #[.agg (ml n x bk ev).toArray, .int .u32 a] w (fun e w' => e = .returned (.tuple #[.int .u32 (x.ldv n c a), .int .i64 (Bx.lde n c a)]) /\ Below w.heap.size w w') := by
 rw [show x.ldv n c a = x.wd.val (a - 268566528) by unfold Bx.ldv; rw [e], show Bx.lde n c a = eS (a - 268566528) by unfold Bx.lde; rw [e]]
 have HFI := Hd (show fI a = (2, a - 268566528, true) by unfold fI; rw [e])
 have O0 : 0 <= a - 268566528 := by omega
 have O1 : a - 268566528 < 4294967296 := by omega
 obtain ⟨gk, capk, rfl, hrk⟩ := M.k
 have HOK := Hd ok
 have hb := aE (aH w) (bV n x (.slice (some ⟨gk, 0, none⟩) c capk) ev)
 have HN := Hd (show eY (w.alloc (bV n x (.slice (some ⟨gk, 0, none⟩) c capk) ev)) w.heap.size n x (.slice (some ⟨gk, 0, none⟩) c capk) ev from aD w _)
 have HM := Hd (M.below hb)
 have HB := Hd hb
 clear hb M hrk ok
 have HA := Hd (show 0 <= a /\ a < 4294967296 from ⟨a0, a1⟩)
 have H4 := Hd h4
 go_enter func71, ntmps71
 go_upto_region 1 with (fail)
 rw [cI]
 generalize w.alloc (bV n x (.slice (some ⟨gk, 0, none⟩) c capk) ev) = W at *
 generalize hpn : w.heap.size = p at *
 have HPN := Hd hpn
 clear hpn
 go_wp2_with (first | (go_at_call 121; refine (jL a _ HA.out.1 HA.out.2 H4.out).mono ?_; rw [HFI.out]; rintro e w1 ⟨rfl, b1⟩; have HN := Hd (HN.out.below b1); have HM := Hd (HM.out.below b1); have HB := Hd (eX HPN.out HB.out b1); clear b1) | (refine uP rfl (.tmp 39) rfl rfl HN.out ?_) | (go_at_call 130; refine (nH x.wd (a - 268566528) _ HOK.out.wd O0 O1).mono ?_; rintro e w3 ⟨rfl, b1⟩; have HN := Hd (HN.out.below b1); have HM := Hd (HM.out.below b1); have HB := Hd (eX HPN.out HB.out b1); clear b1))
 exact gU
theorem aH3 (n c : Nat) (x : Bx) (bk ev : Value) (a : Int) (w : World) (M : MV w c x bk ev) (ok : x.ok n c) (a0 : 0 <= a) (a1 : a < 4294967296) (h4 : a % 4 = 0) (g0 : 268632064 <= a) (g1 : a < 268632080) (e : wh a = .rs (a - 268632064)) : Calls prog 71 #[.agg (ml n x bk ev).toArray, .int .u32 a] w (fun e w' => e = .returned (.tuple #[.int .u32 (x.ldv n c a), .int .i64 (Bx.lde n c a)]) /\ Below w.heap.size w w') := by
 rw [show x.ldv n c a = iP x.rs (a - 268632064) by unfold Bx.ldv; rw [e], show Bx.lde n c a = dD (a - 268632064) by unfold Bx.lde; rw [e]]
 have HFI := Hd (show fI a = (3, a - 268632064, true) by unfold fI; rw [e])
 have O0 : 0 <= a - 268632064 := by omega
 have O1 : a - 268632064 < 4294967296 := by omega
 obtain ⟨gk, capk, rfl, hrk⟩ := M.k
 have HOK := Hd ok
 have hb := aE (aH w) (bV n x (.slice (some ⟨gk, 0, none⟩) c capk) ev)
 have HN := Hd (show eY (w.alloc (bV n x (.slice (some ⟨gk, 0, none⟩) c capk) ev)) w.heap.size n x (.slice (some ⟨gk, 0, none⟩) c capk) ev from aD w _)
 have HM := Hd (M.below hb)
 have HB := Hd hb
 clear hb M hrk ok
 have HA := Hd (show 0 <= a /\ a < 4294967296 from ⟨a0, a1⟩)
 have H4 := Hd h4
 go_enter func71, ntmps71
 go_upto_region 1 with (fail)
 rw [cI]
 generalize w.alloc (bV n x (.slice (some ⟨gk, 0, none⟩) c capk) ev) = W at *
 generalize hpn : w.heap.size = p at *
 have HPN := Hd hpn
 clear hpn
 go_wp2_with (first | (go_at_call 121; refine (jL a _ HA.out.1 HA.out.2 H4.out).mono ?_; rw [HFI.out]; rintro e w1 ⟨rfl, b1⟩; have HN := Hd (HN.out.below b1); have HM := Hd (HM.out.below b1); have HB := Hd (eX HPN.out HB.out b1); clear b1) | (refine aAH rfl (.tmp 47) rfl rfl HN.out ?_) | (go_at_call 131; refine (vI x.rs (a - 268632064) _ HOK.out.rs O0 O1).mono ?_; rintro e w3 ⟨rfl, b1⟩; have HN := Hd (HN.out.below b1); have HM := Hd (HM.out.below b1); have HB := Hd (eX HPN.out HB.out b1); clear b1))
 exact gU
theorem aH2 (n c : Nat) (x : Bx) (bk ev : Value) (a : Int) (w : World) (M : MV w c x bk ev) (ok : x.ok n c) (a0 : 0 <= a) (a1 : a < 4294967296) (h4 : a % 4 = 0) (g0 : 268697600 <= a) (g1 : a < 268697636) (e : wh a = .rk (a - 268697600)) : Calls prog 71 #[.agg (ml n x bk ev).toArray, .int .u32 a] w (fun e w' => e = .returned (.tuple #[.int .u32 (x.ldv n c a), .int .i64 (Bx.lde n c a)]) /\ Below w.heap.size w w') := by
 rw [show x.ldv n c a = x.rk.valE (a - 268697600) by unfold Bx.ldv; rw [e], show Bx.lde n c a = bF (a - 268697600) by unfold Bx.lde; rw [e]]
 have HFI := Hd (show fI a = (4, a - 268697600, true) by unfold fI; rw [e])
 have O0 : 0 <= a - 268697600 := by omega
 have O1 : a - 268697600 < 4294967296 := by omega
 obtain ⟨gk, capk, rfl, hrk⟩ := M.k
 have HOK := Hd ok
 have hb := aE (aH w) (bV n x (.slice (some ⟨gk, 0, none⟩) c capk) ev)
 have HN := Hd (show eY (w.alloc (bV n x (.slice (some ⟨gk, 0, none⟩) c capk) ev)) w.heap.size n x (.slice (some ⟨gk, 0, none⟩) c capk) ev from aD w _)
 have HM := Hd (M.below hb)
 have HB := Hd hb
 clear hb M hrk ok
 have HA := Hd (show 0 <= a /\ a < 4294967296 from ⟨a0, a1⟩)
 have H4 := Hd h4
 go_enter func71, ntmps71
 go_upto_region 1 with (fail)
 rw [cI]
 generalize w.alloc (bV n x (.slice (some ⟨gk, 0, none⟩) c capk) ev) = W at *
 generalize hpn : w.heap.size = p at *
 have HPN := Hd hpn
 clear hpn
 go_wp2_with (first | (go_at_call 121; refine (jL a _ HA.out.1 HA.out.2 H4.out).mono ?_; rw [HFI.out]; rintro e w1 ⟨rfl, b1⟩; have HN := Hd (HN.out.below b1); have HM := Hd (HM.out.below b1); have HB := Hd (eX HPN.out HB.out b1); clear b1) | (refine rW rfl (.tmp 55) rfl rfl HN.out ?_) | (go_at_call 132; refine (mD x.rk (a - 268697600) _ HOK.out.rk O0 O1).mono ?_; rintro e w3 ⟨rfl, b1⟩; have HN := Hd (HN.out.below b1); have HM := Hd (HM.out.below b1); have HB := Hd (eX HPN.out HB.out b1); clear b1))
 exact gU
theorem aH1 (n c : Nat) (x : Bx) (bk ev : Value) (a : Int) (w : World) (M : MV w c x bk ev) (ok : x.ok n c) (a0 : 0 <= a) (a1 : a < 4294967296) (h4 : a % 4 = 0) (g0 : 268763136 <= a) (g1 : a < 268763148) (e : wh a = .ln (a - 268763136)) : Calls prog 71 #[.agg (ml n x bk ev).toArray, .int .u32 a] w (fun e w' => e = .returned (.tuple #[.int .u32 (x.ldv n c a), .int .i64 (Bx.lde n c a)]) /\ Below w.heap.size w w') := by
 rw [show x.ldv n c a = aBC (wires n c x) x.msk (a - 268763136) by unfold Bx.ldv; rw [e], show Bx.lde n c a = gZ (a - 268763136) by unfold Bx.lde; rw [e]]
 have HFI := Hd (show fI a = (5, a - 268763136, true) by unfold fI; rw [e])
 have O0 : 0 <= a - 268763136 := by omega
 have O1 : a - 268763136 < 4294967296 := by omega
 obtain ⟨gk, capk, rfl, hrk⟩ := M.k
 have HOK := Hd ok
 have hb := aE (aH w) (bV n x (.slice (some ⟨gk, 0, none⟩) c capk) ev)
 have HN := Hd (show eY (w.alloc (bV n x (.slice (some ⟨gk, 0, none⟩) c capk) ev)) w.heap.size n x (.slice (some ⟨gk, 0, none⟩) c capk) ev from aD w _)
 have HM := Hd (M.below hb)
 have HB := Hd hb
 clear hb M hrk ok
 have HA := Hd (show 0 <= a /\ a < 4294967296 from ⟨a0, a1⟩)
 have H4 := Hd h4
 go_enter func71, ntmps71
 go_upto_region 1 with (fail)
 rw [cI]
 generalize w.alloc (bV n x (.slice (some ⟨gk, 0, none⟩) c capk) ev) = W at *
 generalize hpn : w.heap.size = p at *
 have HPN := Hd hpn
 clear hpn
 go_wp2_with (first | (go_at_call 121; refine (jL a _ HA.out.1 HA.out.2 H4.out).mono ?_; rw [HFI.out]; rintro e w1 ⟨rfl, b1⟩; have HN := Hd (HN.out.below b1); have HM := Hd (HM.out.below b1); have HB := Hd (eX HPN.out HB.out b1); clear b1) | (refine dU rfl (.tmp 2) rfl rfl HN.out ?_) | (go_at_call 85; refine (aAe n c x _ ev _ HM.out HOK.out).mono ?_; rintro e w2 ⟨rfl, b1⟩; have HN := Hd (HN.out.below b1); have HM := Hd (HM.out.below b1); have HB := Hd (eX HPN.out HB.out b1); clear b1) | (go_at_call 133; refine (aHF (fH n c x) (aO x.msk) (a - 268763136) _ O0 O1).mono ?_; rw [aE2 n c x (a - 268763136) HOK.out.m0 HOK.out.m1]; rintro e w3 ⟨rfl, b1⟩; have HN := Hd (HN.out.below b1); have HM := Hd (HM.out.below b1); have HB := Hd (eX HPN.out HB.out b1); clear b1))
 exact gU
theorem aKw (n c : Nat) (x : Bx) (bk ev : Value) (a : Int) (w : World) (M : MV w c x bk ev) (ok : x.ok n c) (a0 : 0 <= a) (a1 : a < 4294967296) : Calls prog 71 #[.agg (ml n x bk ev).toArray, .int .u32 a] w (fun e w' => e = .returned (.tuple #[.int .u32 (x.ldv n c a), .int .i64 (Bx.lde n c a)]) /\ Below w.heap.size w w') := by
 rcases pK a with ⟨g, e⟩ | ⟨g4, g0, g1, e⟩ | ⟨g4, g0, g1, e⟩ | ⟨g4, g0, g1, e⟩ | ⟨g4, g0, g1, e⟩ | ⟨g4, g0, g1, e⟩ | ⟨g4, g0, g1, e⟩ | ⟨g4, g, e⟩
 . exact aHx n c x bk ev a w M ok a0 a1 g e
 . exact aHz n c x bk ev a w M ok a0 a1 g4 g0 g1 e
 . exact aHy n c x bk ev a w M ok a0 a1 g4 g0 g1 e
 . exact aH0 n c x bk ev a w M ok a0 a1 g4 g0 g1 e
 . exact aH3 n c x bk ev a w M ok a0 a1 g4 g0 g1 e
 . exact aH2 n c x bk ev a w M ok a0 a1 g4 g0 g1 e
 . exact aH1 n c x bk ev a w M ok a0 a1 g4 g0 g1 e
 . exact aJo n c x bk ev a w M ok a0 a1 g4 e
end Go.Proofs.YtaohacadochldaaGreat.B
