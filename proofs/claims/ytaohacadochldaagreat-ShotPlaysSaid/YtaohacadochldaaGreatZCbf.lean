/- A part of the proof of a law of layer 12: bf. -/
import Derived.Test.YtaohacadochldaaGreatZCbd
import Derived.Test.YtaohacadochldaaGreatZCbe
set_option linter.unusedVariables false
set_option linter.unusedSimpArgs false
set_option maxHeartbeats 12800000
set_option maxRecDepth 100000
namespace Go.Proofs.YtaohacadochldaaGreat.B
open Go.Proofs.Tryz
open Go.ChangeShapes Go.WideShapes Go.RowKit Go.Sort
theorem aKK {w : World} {g n cap : Nat} {t : Nat -> Tm} (h : eD w g n cap t) (ok : ∀ i, i < n -> (t i).ok) (n0 : 1 <= n) (n8 : n <= 8) (N : Int) (N0 : 0 <= N) (N1 : N < 18446744073709551616) :
 Calls prog 78 #[.slice (some ⟨g, 0, none⟩) n cap, .int .u64 N] w fun e w' => ∃ g' cap', e = .returned (.slice (some ⟨g', 0, none⟩) n cap') /\ w.heap.size <= g' /\ eD w' g' n cap' (fun i => (t i).tick N) /\ Below w.heap.size w w' := by
 have hcm := h.cm
 have hnc := h.nc
 have hgl := h.lt
 unfold maxLen at hcm
 have OK := Hd ok
 clear ok
 go_enter func78, ntmps78
 go_wp2_with fail
 go_loopw [5, 6] (fun v i wr => ∃ (k : Nat) (V : Value), k <= n /\ i = .int .i64 k /\ v = V /\ jE wr w.heap.size V k (fun i => (t i).tick N) /\ eD wr g n cap t /\ Below w.heap.size w wr) (fun v i wr => n - (intOf i).toNat)
 case atStart => exact ⟨0, _, by omega, rfl, rfl, aIv _ _ _, h, aH w⟩
 case round =>
  clear h
  obtain ⟨k, V, hk, rfl, rfl, O, H, hB⟩ := hrel
  by_cases hlt : k < n
  . have hin := H.at hlt
    go_wp2_with (refine aDg rfl (.tmp 16) rfl rfl hin ?_)
    refine (aOT (t k) N wr (OK.out k hlt) N0 N1).mono ?_
    rintro e w1 ⟨rfl, hb⟩
    have O1 := O.below hb
    have H1 := H.below hb
    have B1 := tr hB hb
    clear O H hB hb hin
    have O2 := O1.below (aE (aH w1) (oM ((t k).tick N)))
    have H2 := H1.below (aE (aH w1) (oM ((t k).tick N)))
    have B2 := aE B1 (oM ((t k).tick N))
    have Y := aOI w1 ((t k).tick N)
    have hBs := B2.size
    clear O1 H1 B1
    go_wp2_with (first
     | (refine aLB rfl (.tmp 19) rfl rfl ?_)
     | (refine aII rfl (.tmp 13) (.tmp 20) rfl rfl O2 rfl Y rfl (by omega) hBs ?_; intro v' w3 O3 ho3))
    have hown := fun b hb => O2.block (b := b) hb
    have H3 := H2.off ho3 (fun e => by have := hown g e; have := hgl; omega)
    have B3 := aF.toBelow B2 ho3 (fun b hb e => by have := hown b e; omega) (Nat.le_refl _)
    clear O2 H2 B2 Y ho3 hBs hown
    go_wp2_with fail
    go_roundw
    case rel => exact ⟨k + 1, _, by omega, by go_num, rfl, O3, H3, B3⟩
    case measure => simp [intOf]; omega
  . obtain rfl : k = n := by omega
    obtain ⟨g', cap', rfl, hg', R⟩ := O.rw (by omega)
    go_wp2_with fail
    go_ret
    exact ⟨g', cap', rfl, hg', R, hB⟩
abbrev tE2 : TypeId := 155
theorem aF8 : (prog.info? 155).map (fun i => (i.zero, i.size, i.bytes)) = some (some (.agg #[.int .u64 0, .int .i64 0]), 2, 16) := by kernel_rfl
structure MV (w : World) (c : Nat) (x : Bx) (bk ev : Value) : Prop where
 k : ∃ g cap, bk = .slice (some ⟨g, 0, none⟩) c cap /\ eD w g c cap x.tm
 e : gN w tE2 ev x.es
theorem MV.below {w w' : World} {c : Nat} {x : Bx} {bk ev : Value} (M : MV w c x bk ev) (hb : Below w.heap.size w w') : MV w' c x bk ev := by
 obtain ⟨g, cap, h1, h2⟩ := M.k
 exact ⟨⟨g, cap, h1, h2.below hb⟩, M.e.below hb⟩
theorem MV.one {w : World} {c : Nat} {x : Bx} {bk ev : Value} (M : MV w c x bk ev) : bk.oneCell' = true /\ ev.oneCell' = true := by
 obtain ⟨g, cap, rfl, h2⟩ := M.k
 exact ⟨rfl, aCV M.e⟩
theorem sB {P : Program} {ops : Array Oper} {o : Oper} {a : Act} {w : World} {K : Act -> World -> Prop} {Q : Exit -> Act -> World -> Prop} {E : Prop}
 (hg : o.guard = none) (s x : Operand) (t : TypeId) (hop : o.op = Op.call { callee := Callee.builtin Builtin.append, args := #[s, x], argTypes := #[t, t] })
 (base : Nat) (e : TypeId) (i : TypeInfo) (size : Nat) (ht : P.underlying t = some (.slice e)) (hi : P.info? e = some i)
 (v : Value) (n : Nat) (xs : List Value) (hs : a.eval s = v) (hown : w.ownsRow base e size v n xs) (hx : a.eval x = .slice none 0 0) (hK : K (a.put o.dst v) w) :
 if Region.wanted o (yielded ops a.tmps) = true then Oper.wp P o a w K Q else E := by
 have hw : Region.wanted o (yielded ops a.tmps) = true := by simp [Region.wanted, hg]
 rw [if_pos hw]
 have hrun := run_append_owned_none (P := P) (w := w) base t o.type e i size ht hi v n xs hown
 unfold Oper.wp
 simp [execOp, hop, resolve, invoke, builtin, hs, hx, hrun, Result.andThen]
 exact hK
theorem aJS : Value.agg #[.bool false, .bool false, .bool false, .bool false, .bool false, .bool false, .bool false, .bool false, .bool false, .bool false, .bool false, .bool false, .bool false, .bool false, .bool false, .bool false, .bool false, .bool false, .bool false, .bool false, .bool false, .bool false, .bool false, .bool false, .bool false, .bool false, .bool false, .bool false, .bool false, .bool false, .bool false, .bool false] = Value.agg (bl (aO 0) 32).toArray := by
 rw [show (bl (aO 0) 32) = bl (fun _ => false) 32 from kF _ _ _ fun i _ => kY i]
 rfl
theorem pC {w w' : World} {b n : Nat} {y : Bx} {bk' ev' ev : Value} {es : List (Int × Int)} (e : gN w tE2 ev es) (ho : aF (· = b) w w') (h : eY w b n y bk' ev') : gN w' tE2 ev es :=
 e.keep fun k hk => ho.block k (e.lt hk) (fun e2 => by have h1 := e.kd hk; rw [e2, bT h] at h1; revert h1; decide)
structure Q7 (w0 w : World) (b r n c g : Nat) (x : Bx) (cause : Int) (ev : Value) : Prop where
 F : Fr w0 w b r n { x with rs := x.rs.ltc cause, D := nvD, S := jB, wd := wz, rk := x.rk.zero, msk := 0 } (.slice (some ⟨g, 0, none⟩) c c) ev
 e : gN w tE2 ev x.es
 k : eD w g c c (fun _ => tz)
theorem tT {w : World} {T : TypeId} {g cap : Nat} {es : List (Int × Int)} (h : gN w T (.slice (some ⟨g, 0, none⟩) es.length cap) es) : ∀ j u, (es.flatMap zN)[j]? = some u -> w.cell? ((⟨g, 0, none⟩ : Addr).add j) = some u := by
 intro j u hj
 have hjl : j < es.length * 2 := by
  have := (List.getElem?_eq_some_iff.1 hj).1
  rwa [jF zN 2 nY] at this
 rw [Addr.add_lit, Nat.zero_add, World.ownsRow.cellAt h j hjl]
 exact hj
theorem aMc {w0 w u : World} {b r n c g : Nat} {x : Bx} {cause : Int} {ev v : Value} (H : Q7 w0 w b r n c g x cause ev) (hb : Below w.heap.size w u) (ho : u.ownsRow w.heap.size 155 2 v (0 + x.es.length + 1) ([] ++ x.es.flatMap zN ++ [.int .u64 x.ti, .int .i64 cause])) :
 Fr w0 (u.setCell ⟨b, 109, none⟩ v) b r n { x with rs := x.rs.ltc cause, D := nvD, S := jB, wd := wz, rk := x.rk.zero, msk := 0 } (.slice (some ⟨g, 0, none⟩) c c) v /\ MV (u.setCell ⟨b, 109, none⟩ v) c (x.rst cause) (.slice (some ⟨g, 0, none⟩) c c) v := by
 have F := H.F.below hb
 have hso := aG u b 109 v
 have he : gN u tE2 v (x.es ++ [(x.ti, cause)]) := by
  unfold gN
  rw [List.length_append, List.flatMap_append]
  rw [Nat.zero_add, List.nil_append] at ho
  have := aBc ho
  simpa [zN] using this
 have hk := H.k.below hb
 exact ⟨F.turn (F.h.setE v) hso ⟨rfl, aCV he⟩, ⟨⟨g, c, rfl, hk.off hso (hk.ne F.h rfl)⟩, pC he hso F.h⟩⟩
theorem vX {P : Prop} (h : P := by
 obtain ⟨g, cap, h1, h2⟩ := M.k
 exact ⟨⟨g, cap, h1, h2.off ho (h2.ne h rfl)⟩, M.e.keep fun k hk => ho.block k (M.e.lt hk) (fun e => by have h1 := M.e.kd hk; rw [e, bT h] at h1; revert h1; decide)⟩
 ) : P := h
theorem eB {w w' : World} {b n c : Nat} {x y : Bx} {bk ev bk' ev' : Value} (M : MV w c x bk ev) (ho : aF (· = b) w w') (h : eY w b n y bk' ev') : MV w' c x bk ev := by
 exact vX
def nJ (n c : Nat) (y : Bx) (w : World) (e : Ending) (w' : World) : Prop := ∃ bk ev, e = .returned (.agg (ml n y bk ev).toArray) /\ MV w' c y bk ev /\ Below w.heap.size w w'
theorem xA {P : Prop} (h : P := by
 obtain ⟨g, cap, h3, h4⟩ := M.k
 exact ⟨⟨g, cap, h3, h4.off ho (h4.ne h1 rfl)⟩, M.e.keep fun k hk => ho.block k (M.e.lt hk) (fun e2 => by have h5 := M.e.kd hk; rw [e2, bT h1] at h5; revert h5; decide)⟩
 ) : P := h
theorem zL {w0 w w' : World} {b r n c : Nat} {y z : Bx} {bk ev : Value} (F : Fr w0 w b r n y bk ev) (M : MV w c z bk ev) (h : eY w' r n y bk ev) (ho : aF (· = r) w w') (hyz : ml n y bk ev = ml n z bk ev := by rfl) : nJ n c z w0 (.returned (.agg (ml n y bk ev).toArray)) w' := by
 obtain ⟨cs, h1, h2⟩ := F.z
 have M2 : MV w' c z bk ev := by
  exact xA
 exact ⟨bk, ev, by rw [hyz], M2, aF.toBelow F.lo ho (fun k hk e => by have := F.hr; omega) (Nat.le_refl _)⟩
theorem sX {w U : World} (h : Below w.heap.size w U) : (U.alloc (.cells #[] 155)).ownsRow w.heap.size 155 2 (.slice (some ⟨U.heap.size, 0, none⟩) 0 0) 0 [] /\ Below w.heap.size w (U.alloc (.cells #[] 155)) /\ w.heap.size <= U.heap.size :=
 ⟨World.ownsRow_made (base := w.heap.size) (e := 155) (size := 2) U #[] 0 h.size (by decide) rfl, tr h (aE (aH U) _), h.size⟩
theorem aFH {ops : Array Oper} {o : Oper} {a : Act} {w : World} {K : Act -> World -> Prop} {Q : Exit -> Act -> World -> Prop} {E : Prop}
 (hg : o.guard = none) (s x : Operand) (t : TypeId) (hop : o.op = Op.call { callee := Callee.builtin Builtin.append, args := #[s, x], argTypes := #[t, t] })
 (ht : prog.underlying t = some (.slice 155)) (base : Nat) (v : Value) (n : Nat) (xs : List Value) (hs : a.eval s = v) (hown : w.ownsRow base 155 2 v n xs)
 (ev : Value) (es : List (Int × Int)) (hx : a.eval x = ev) (he : gN w 155 ev es) (h63 : n + es.length <= maxLen) (hby : (n + es.length) * 16 <= 140737488355328) (hbase : base <= w.heap.size)
 (hK : ∀ v' w', w'.ownsRow base 155 2 v' (n + es.length) (xs ++ es.flatMap zN) -> aF (fun k => v.ownBlock = some k) w w' -> K (a.put o.dst v') w') :
 if Region.wanted o (yielded ops a.tmps) = true then Oper.wp prog o a w K Q else E := by
 obtain ⟨i0, hi, hz0, hz1, hz2⟩ := info_parts aF8
 rcases gH he with ⟨rfl, h0⟩ | ⟨g, cap, rfl, _⟩
 . refine sB hg s x t hop base 155 i0 2 ht hi v n xs hs hown hx (hK v w ?_ (aF.refl _ w))
   rw [List.eq_nil_of_length_eq_zero h0]
   simpa using hown
 . refine fJ hg s x t hop base 155 i0 (.agg #[.int .u64 0, .int .i64 0]) 2 16 ht hi hz0 hz1 hz2 rfl (by decide) v n xs hs hown ⟨g, 0, none⟩ es.length cap (es.flatMap zN) hx (jF zN 2 nY es) (tT he) (aDV es) h63 hby hbase ?_
   intro v' w' h1 h2 _ _
   exact hK v' w' h1 (aF.ofGrown h2 fun k e => e)
theorem aDl {P : Prop} (h : P := by
 refine lU (i := 10) (by kernel_rfl) rfl fun K hK => ?_
 refine fJ rfl (.tmp 33) (.tmp 39) 38 rfl W8.heap.size 155 i0 (.agg #[.int .u64 0, .int .i64 0]) 2 16 underlying38 HI.out HZ.out HZ1.out HZ2.out rfl (by decide) v1 (0 + x.es.length) ([] ++ x.es.flatMap zN) rfl HA.out ⟨qv, 0, none⟩ 1 1 [.int .u64 x.ti, .int .i64 cause] rfl rfl (aDS HV.out) (aKV _ _) HMX1.out HBY1.out HB0.out.size ?_
 intro v2 u2 hown2 hgr2 hnil2 hat2
 have HA2 := Hd hown2
 have hB := aF.toBelow HB0.out (aF.ofGrown (S := fun k => (v1 : Value).ownBlock = some k) hgr2 fun k e => e) (fun k hk e => by have := (World.ownsRow.lt HA.out k e).1; omega) (Nat.le_refl _)
 clear hown2 hgr2 hnil2 hat2 HB0
 refine hK.out _ _ (H0.out.F.below hB).h.cT (fun _ => ?_)
 clear hK K
 have HB0 := Hd hB
 clear hB
 refine cW (i := 11) (v := .pointer (some ⟨b, 109, none⟩)) (H0.out.F.below HB0.out).h.cT ?_
 try simp only [Act.put, bN, bP, bO]
 refine lU (i := 12) (by kernel_rfl) rfl fun K hK => ?_
 have hF9 := H0.out.F.below HB0.out
 have c9 := hF9.h.cE
 have f9 := hF9.h.free 109
 have l9 := hF9.h.lt
 obtain ⟨g9, cap9, rfl⟩ := aBd (HA2.out)
 have HN := Hd (aMc H0.out HB0.out HA2.out)
 go_simp
 refine hK.out _ _ (hF9.h.setE _).cT (fun _ => ?_)
 clear hK K c9 f9 l9 hF9
 refine wpAnyH_done (by kernel_rfl) ?_ _
 refine HK7.out _ _ ?_
 clear HK7 K7
 obtain ⟨hF, hV⟩ := HN.out
 simp only [Nat.zero_add] at hF hV
 generalize u2.setCell ⟨b, 109, none⟩ (.slice (some ⟨g9, 0, none⟩) (x.es.length + 1) cap9) = u9 at *
 have HF := Hd hF
 have HV9 := Hd hV
 clear hF hV HN
 go_wp2_with (first | (refine dU rfl (.tmp 2) rfl rfl HF.out.h ?_) | (obtain ⟨cz, hz1, hz2⟩ := HF.out.z; refine dX rfl (.tmp 4) (.tmp 42) rfl rfl { x with rs := x.rs.ltc cause, D := nvD, S := jB, wd := wz, rk := x.rk.zero, msk := 0 } (.slice (some ⟨g4, 0, none⟩) c c) _ n rfl hz1 hz2 HF.out.one ?_; intro u10 hN10 ho10; have HX := Hd (zL HF.out HV9.out hN10 ho10); have HN10 := Hd hN10; clear hN10 ho10 hz1 hz2))
 exact bodyPost_ret (aJA rfl _ _ rfl HN10.out) rfl HX.out
 ) : P := h
theorem aME {P : Prop} (h : P := by
 refine lU (i := 9) (by kernel_rfl) rfl fun K hK => ?_
 have hB := tr HB0.out (aE (aH U) (.cells #[.int .u64 x.ti, .int .i64 cause] 155))
 have hV := aD U (.cells #[.int .u64 x.ti, .int .i64 cause] 155)
 have hA := HA.out.alloc (.cells #[.int .u64 x.ti, .int .i64 cause] 155)
 go_simp
 refine hK.out _ _ (H0.out.F.below hB).h.cT (fun _ => ?_)
 clear hK K HB0 HA
 generalize U.heap.size = qv at *
 generalize U.alloc (.cells #[.int .u64 x.ti, .int .i64 cause] 155) = U at *
 have HV := Hd hV
 have HA := Hd hA
 clear hA
 have HB0 := Hd hB
 clear hB hV
 exact aDl
 ) : P := h
theorem aCm {P : Prop} (h : P := by
 refine lU (i := 3) (by kernel_rfl) rfl fun K hK => ?_
 refine aFH rfl (.tmp 30) (.tmp 32) 38 rfl underlying38 W8.heap.size (.slice (some ⟨q0, 0, none⟩) 0 0) 0 [] rfl HE0.out ev x.es rfl (H0.out.e.below HB0.out) HMX.out HBY.out HB0.out.size ?_
 intro v1 U1 hA ho
 have hB := aF.toBelow HB0.out ho (fun k hk e => by have h1 := HQ0.out; have h2 : q0 = k := Option.some.inj e; omega) (Nat.le_refl _)
 have hV := ho.at HV.out (fun e => HNE.out (Option.some.inj e))
 refine hK.out _ _ (H0.out.F.below hB).h.cT (fun _ => ?_)
 clear hK K HB0 HE0 HQ0 ho HV HNE
 have HB0 := Hd hB
 have HA := Hd hA
 clear hB hA
 have HV := Hd hV
 clear hV
 generalize U1 = U at *
 exact aDl
 ) : P := h
theorem aKQ {P : Prop} (h : P := by
 refine wpAnyH_ready (rs := [3, 9]) (by kernel_rfl) (by simp) ?_
 refine AllReadyH.cons rfl (fun K hK => ?_) (AllReadyH.cons rfl (fun K hK => ?_) AllReadyH.nil)
 . refine aFH rfl (.tmp 30) (.tmp 32) 38 rfl underlying38 W8.heap.size (.slice (some ⟨q0, 0, none⟩) 0 0) 0 [] rfl HE0.out ev x.es rfl (H0.out.e.below HB0.out) HMX.out HBY.out HB0.out.size ?_
   intro v1 U1 hA ho
   have hB := aF.toBelow HB0.out ho (fun k hk e => by have h1 := HQ0.out; have h2 : q0 = k := Option.some.inj e; omega) (Nat.le_refl _)
   refine hK.out _ _ (H0.out.F.below hB).h.cT (fun _ => ?_)
   clear hK K HB0 HE0 HQ0 ho
   have HB0 := Hd hB
   have HA := Hd hA
   clear hB hA
   generalize U1 = U at *
   exact aME
 . have hB := tr HB0.out (aE (aH U) (.cells #[.int .u64 x.ti, .int .i64 cause] 155))
   have hV := aD U (.cells #[.int .u64 x.ti, .int .i64 cause] 155)
   have hE := HE0.out.alloc (.cells #[.int .u64 x.ti, .int .i64 cause] 155)
   have hN := Nat.ne_of_lt (World.ownsRow.lt HE0.out q0 rfl).2
   go_simp
   refine hK.out _ _ (H0.out.F.below hB).h.cT (fun _ => ?_)
   clear hK K HB0 HE0
   generalize U.heap.size = qv at *
   generalize U.alloc (.cells #[.int .u64 x.ti, .int .i64 cause] 155) = U at *
   have HV := Hd hV
   have HE0 := Hd hE
   have HNE := Hd hN
   clear hE hN
   have HB0 := Hd hB
   clear hB hV
   exact aCm
 ) : P := h
theorem aKR {P : Prop} (h : P := by
 refine lU (i := 2) (by kernel_rfl) rfl fun K hK => ?_
 have c2 := (H0.out.F.below HB0.out).h.cE
 have hB := HB0.out
 go_simp
 clear c2
 refine hK.out _ _ (H0.out.F.below hB).h.cT (fun _ => ?_)
 clear hK K hB
 exact aCm
 ) : P := h
theorem aPu {P : Prop} (h : P := by
 refine wpAnyH_ready (rs := [2, 9]) (by kernel_rfl) (by simp) ?_
 refine AllReadyH.cons rfl (fun K hK => ?_) (AllReadyH.cons rfl (fun K hK => ?_) AllReadyH.nil)
 . have c2 := (H0.out.F.below HB0.out).h.cE
   have hB := HB0.out
   go_simp
   clear c2
   refine hK.out _ _ (H0.out.F.below hB).h.cT (fun _ => ?_)
   clear hK K hB
   exact aKQ
 . have hB := tr HB0.out (aE (aH U) (.cells #[.int .u64 x.ti, .int .i64 cause] 155))
   have hV := aD U (.cells #[.int .u64 x.ti, .int .i64 cause] 155)
   have hE := HE0.out.alloc (.cells #[.int .u64 x.ti, .int .i64 cause] 155)
   have hN := Nat.ne_of_lt (World.ownsRow.lt HE0.out q0 rfl).2
   go_simp
   refine hK.out _ _ (H0.out.F.below hB).h.cT (fun _ => ?_)
   clear hK K HB0 HE0
   generalize U.heap.size = qv at *
   generalize U.alloc (.cells #[.int .u64 x.ti, .int .i64 cause] 155) = U at *
   have HV := Hd hV
   have HE0 := Hd hE
   have HNE := Hd hN
   clear hE hN
   have HB0 := Hd hB
   clear hB hV
   exact aKR
 ) : P := h
theorem aKS {P : Prop} (h : P := by
 refine lU (i := 0) (by kernel_rfl) rfl fun K hK => ?_
 obtain ⟨hE, hB, hQ⟩ := sX HB0.out
 have hN := Nat.ne_of_gt (lt_of_block HV.out)
 have hV := aC (aE (aH U) (.cells #[] 155)) HV.out (lt_of_block HV.out)
 go_simp
 refine hK.out _ _ (H0.out.F.below hB).h.cT (fun _ => ?_)
 clear hK K HB0 HV
 generalize U.heap.size = q0 at *
 generalize U.alloc (.cells #[] 155) = U at *
 have HE0 := Hd hE
 have HQ0 := Hd hQ
 have HNE := Hd hN
 have HV := Hd hV
 clear hN hV
 have HB0 := Hd hB
 clear hE hB hQ
 exact aCm
 ) : P := h
theorem aPv {P : Prop} (h : P := by
 refine wpAnyH_ready (rs := [0, 9]) (by kernel_rfl) (by simp) ?_
 refine AllReadyH.cons rfl (fun K hK => ?_) (AllReadyH.cons rfl (fun K hK => ?_) AllReadyH.nil)
 . obtain ⟨hE, hB, hQ⟩ := sX HB0.out
   go_simp
   refine hK.out _ _ (H0.out.F.below hB).h.cT (fun _ => ?_)
   clear hK K HB0
   generalize U.heap.size = q0 at *
   generalize U.alloc (.cells #[] 155) = U at *
   have HE0 := Hd hE
   have HQ0 := Hd hQ
   have HB0 := Hd hB
   clear hE hB hQ
   exact aKQ
 . have hB := tr HB0.out (aE (aH U) (.cells #[.int .u64 x.ti, .int .i64 cause] 155))
   have hV := aD U (.cells #[.int .u64 x.ti, .int .i64 cause] 155)
   go_simp
   refine hK.out _ _ (H0.out.F.below hB).h.cT (fun _ => ?_)
   clear hK K HB0
   generalize U.heap.size = qv at *
   generalize U.alloc (.cells #[.int .u64 x.ti, .int .i64 cause] 155) = U at *
   have HV := Hd hV
   have HB0 := Hd hB
   clear hB hV
   exact aKS
 ) : P := h
theorem aPw {P : Prop} (h : P := by
 refine wpAnyH_ready (rs := [0, 2]) (by kernel_rfl) (by simp) ?_
 refine AllReadyH.cons rfl (fun K hK => ?_) (AllReadyH.cons rfl (fun K hK => ?_) AllReadyH.nil)
 . obtain ⟨hE, hB, hQ⟩ := sX HB0.out
   have hN := Nat.ne_of_gt (lt_of_block HV.out)
   have hV := aC (aE (aH U) (.cells #[] 155)) HV.out (lt_of_block HV.out)
   go_simp
   refine hK.out _ _ (H0.out.F.below hB).h.cT (fun _ => ?_)
   clear hK K HB0 HV
   generalize U.heap.size = q0 at *
   generalize U.alloc (.cells #[] 155) = U at *
   have HE0 := Hd hE
   have HQ0 := Hd hQ
   have HNE := Hd hN
   have HV := Hd hV
   clear hN hV
   have HB0 := Hd hB
   clear hE hB hQ
   exact aKR
 . have c2 := (H0.out.F.below HB0.out).h.cE
   have hB := HB0.out
   go_simp
   clear c2
   refine hK.out _ _ (H0.out.F.below hB).h.cT (fun _ => ?_)
   clear hK K hB
   exact aKS
 ) : P := h
theorem mrs {P : Prop} (h : P := by
 refine wpAnyH_ready (rs := [0, 2, 9]) (by kernel_rfl) (by simp) ?_
 refine AllReadyH.cons rfl (fun K hK => ?_) (AllReadyH.cons rfl (fun K hK => ?_) (AllReadyH.cons rfl (fun K hK => ?_) AllReadyH.nil))
 . obtain ⟨hE, hB, hQ⟩ := sX HB0.out
   go_simp
   refine hK.out _ _ (H0.out.F.below hB).h.cT (fun _ => ?_)
   clear hK K HB0
   generalize U.heap.size = q0 at *
   generalize U.alloc (.cells #[] 155) = U at *
   have HE0 := Hd hE
   have HQ0 := Hd hQ
   have HB0 := Hd hB
   clear hE hB hQ
   exact aPu
 . have c2 := (H0.out.F.below HB0.out).h.cE
   have hB := HB0.out
   go_simp
   clear c2
   refine hK.out _ _ (H0.out.F.below hB).h.cT (fun _ => ?_)
   clear hK K hB
   exact aPv
 . have hB := tr HB0.out (aE (aH U) (.cells #[.int .u64 x.ti, .int .i64 cause] 155))
   have hV := aD U (.cells #[.int .u64 x.ti, .int .i64 cause] 155)
   go_simp
   refine hK.out _ _ (H0.out.F.below hB).h.cT (fun _ => ?_)
   clear hK K HB0
   generalize U.heap.size = qv at *
   generalize U.alloc (.cells #[.int .u64 x.ti, .int .i64 cause] 155) = U at *
   have HV := Hd hV
   have HB0 := Hd hB
   clear hB hV
   exact aPw
 ) : P := h
theorem aCl (n c : Nat) (x : Bx) (bk ev : Value) (cause : Int) (w : World) (M : MV w c x bk ev) (ok : x.ok n c) (hl : x.es.length < 4294967296) :
 Calls prog 80 #[.agg (ml n x bk ev).toArray, .int .i64 cause] w (nJ n c (x.rst cause) w) := by
 obtain ⟨i0, hi, hz0, hz1, hz2⟩ := info_parts aF8
 have HI := Hd hi
 have HZ := Hd hz0
 have HZ1 := Hd hz1
 have HZ2 := Hd hz2
 have one := M.one
 have hfr := iH w n x bk ev one
 have hM0 := M.below (aE (aE (aH w) (bV n x bk ev)) fN)
 have HOK := Hd ok
 have HMX := Hd (show 0 + x.es.length <= maxLen by unfold maxLen; omega)
 have HBY := Hd (show (0 + x.es.length) * 16 <= 140737488355328 by omega)
 have HMX1 := Hd (show 0 + x.es.length + 1 <= maxLen by unfold maxLen; omega)
 have HBY1 := Hd (show (0 + x.es.length + 1) * 16 <= 140737488355328 by omega)
 have hmk : ∀ w : World, (Instr.makeSlice 30 (.int .i64 c) (.int .i64 c)).run prog w = .ok (.slice (some ⟨w.heap.size, 0, none⟩) c c) (w.alloc (zR c)) := fun w => aKP c ok.c8 w
 obtain ⟨gk, capk, rfl, hrk⟩ := M.k
 clear hi hz0 hz1 hz2 hl hrk
 go_enter func80, ntmps80
 go_upto_region 1 with (fail)
 rw [cI, eL]
 generalize ((w.alloc (bV n x (.slice (some ⟨gk, 0, none⟩) c capk) ev)).alloc fN) = W at *
 generalize w.heap.size + 1 = r at *
 generalize hbn : w.heap.size = b at *
 have HF := Hd hfr
 have HM := Hd hM0
 clear hfr hM0 M one hbn
 go_upto_region 2 with (first | (refine aAH rfl (.tmp 6) rfl rfl HF.out.h ?_) | (go_at_call 140; refine (aNB x.rs cause _ HOK.out.rs).mono ?_; rintro e w1 ⟨rfl, b1⟩; have HF := Hd (HF.out.below b1); have HM := Hd (HM.out.below b1); clear b1) | (refine aAJ rfl (.tmp 12) (.tmp 10) rfl rfl (x.rs.ltc cause) rfl HF.out ?_; intro w2 hF2 ho2; have HM := Hd (eB HM.out ho2 HF.out.h); have HF := Hd hF2; clear hF2 ho2))
 go_upto_region 3 with (first | (refine pH rfl (.tmp 13) rfl rfl HF.out.h ?_) | (go_at_call 118; refine (aDv _ _ _ _ _ _).mono ?_; rintro e w1 ⟨rfl, b1⟩; have HF := Hd (HF.out.below b1); have HM := Hd (HM.out.below b1); clear b1) | (refine qB rfl (.tmp 16) (.tmp 15) rfl rfl x.ti nvD jB rfl HF.out ?_; intro w2 hF2 ho2; have HM := Hd (eB HM.out ho2 HF.out.h); have HF := Hd hF2; clear hF2 ho2))
 have cB := HF.out.h.cB
 have fB := HF.out.h.free 26
 have lB := HF.out.h.lt
 have lB1 : b < w2.heap.size + 1 := Nat.lt_succ_of_lt lB
 go_upto_region 4 with (fail)
 clear cB fB lB lB1
 have hso := aG w2 b 26 (.slice (some ⟨w2.heap.size, 0, none⟩) c c)
 have hsz : (w2.setCell ⟨b, 26, none⟩ (.slice (some ⟨w2.heap.size, 0, none⟩) c c)).heap.size = w2.heap.size := by simp
 have hM3 := eB HM.out hso HF.out.h
 have hF3 := HF.out.turn (HF.out.h.setB (.slice (some ⟨w2.heap.size, 0, none⟩) c c)) hso ⟨rfl, HF.out.one.2⟩
 have hR4 := aAR c HOK.out.c8 (w2.setCell ⟨b, 26, none⟩ (.slice (some ⟨w2.heap.size, 0, none⟩) c c))
 have ha := aE (aH (w2.setCell ⟨b, 26, none⟩ (.slice (some ⟨w2.heap.size, 0, none⟩) c c))) (zR c)
 rw [hsz] at hR4
 have hM4 := hM3.below ha
 have hF4 := hF3.below ha
 generalize (w2.setCell ⟨b, 26, none⟩ (.slice (some ⟨w2.heap.size, 0, none⟩) c c)).alloc (zR c) = W4 at *
 generalize w2.heap.size = g4 at *
 have HF := Hd hF4
 have HE := Hd hM4.e
 have HR := Hd hR4
 clear ha hF3 hM3 hso hsz hM4 hR4 hF4 HM hmk
 go_upto_region 5 with (refine qD rfl (.tmp 23) (.tmp 22) rfl rfl wz rfl HF.out ?_; intro w5 hF2 ho2; have HE := Hd (pC HE.out ho2 HF.out.h); have HR := Hd (HR.out.off ho2 (HR.out.ne HF.out.h rfl)); have HF := Hd hF2; clear hF2 ho2)
 go_upto_region 6 with (first | (refine rW rfl (.tmp 24) rfl rfl HF.out.h ?_) | (go_at_call 141; refine (aLy x.rk _).mono ?_; rintro e w6 ⟨rfl, b1⟩; have HF := Hd (HF.out.below b1); have HE := Hd (HE.out.below b1); have HR := Hd (HR.out.below b1); clear b1) | (refine qC rfl (.tmp 27) (.tmp 26) rfl rfl x.rk.zero rfl HF.out ?_; intro w7 hF2 ho2; have HE := Hd (pC HE.out ho2 HF.out.h); have HR := Hd (HR.out.off ho2 (HR.out.ne HF.out.h rfl)); have HF := Hd hF2; clear hF2 ho2))
 go_upto_region 7 with (refine aAI rfl (.tmp 29) (.tmp 28) rfl rfl 0 aJS HF.out ?_; intro w8 hF2 ho2; have HE := Hd (pC HE.out ho2 HF.out.h); have HR := Hd (HR.out.off ho2 (HR.out.ne HF.out.h rfl)); have HF := Hd hF2; clear hF2 ho2)
 rename_i K7 hK7
 have HK7 := Hd hK7
 clear hK7
 have H0 := Hd (show Q7 w w8.drew b r n c g4 x cause ev from ⟨HF.out.below (jQ (aH w8)), HE.out.below (jQ (aH w8)), HR.out.below (jQ (aH w8))⟩)
 have HB0 := Hd (aH w8.drew)
 clear HF HE HR
 refine wp_region_held_drew (S := fun w' => w'.cell? ⟨b, 0, none⟩ = some (.int .u64 x.ti)) (by kernel_rfl) H0.out.F.h.cT (fun _ => ?_)
 generalize w8.drew = W8 at *
 refine cW (i := 1) (v := .pointer (some ⟨b, 109, none⟩)) (H0.out.F.below HB0.out).h.cT ?_
 try simp only [Act.put, bN, bP, bO]
 refine cW (i := 4) (v := .pointer (some ⟨b, 0, none⟩)) (H0.out.F.below HB0.out).h.cT ?_
 try simp only [Act.put, bN, bP, bO]
 refine cW (i := 5) (v := .pointer (some ⟨b, 0, none⟩)) (H0.out.F.below HB0.out).h.cT ?_
 try simp only [Act.put, bN, bP, bO]
 refine qM (i := 6) (v := .int .u64 x.ti) rfl (by kernel_rfl) (fun _ _ _ h => h) (fun w' hSw => by have c := hSw; clear hSw; (try dsimp only at c); go_simp) (H0.out.F.below HB0.out).h.cT ?_
 try simp only [Act.put, bN, bP, bO]
 refine cW (i := 7) (v := .int .i64 cause) (H0.out.F.below HB0.out).h.cT ?_
 try simp only [Act.put, bN, bP, bO]
 refine cW (i := 8) (v := .agg #[.int .u64 x.ti, .int .i64 cause]) (H0.out.F.below HB0.out).h.cT ?_
 try simp only [Act.put, bN, bP, bO]
 have HU := HB0
 clear HB0
 obtain ⟨U, HB0, hU⟩ : ∃ U, Hid (Below W8.heap.size W8 U) /\ U = W8 := ⟨W8, HU, rfl⟩
 rw [<- hU]
 clear HU hU
 exact mrs
theorem MV.row {w : World} {c g cap : Nat} {x : Bx} {ev : Value} (M : MV w c x (.slice (some ⟨g, 0, none⟩) c cap) ev) : eD w g c cap x.tm := by
 obtain ⟨g', cap', h1, h2⟩ := M.k
 cases h1
 exact h2
theorem Fr.like {w0 w : World} {b r n : Nat} {y : Bx} {bk ev : Value} (F : Fr w0 w b r n y bk ev) (z : Bx) (h : ml n y bk ev = ml n z bk ev := by rfl) : Fr w0 w b r n z bk ev :=
 { F with h := by have := F.h; unfold eY at *; rw [<- h]; exact this }
theorem aNH (n c : Nat) (x : Bx) (bk ev : Value) (N : Int) (w : World) (M : MV w c x bk ev) (ok : x.ok n c) (hs : x.still) (n0 : 0 <= N) (n1 : N < 18446744073709551616) (hl : x.es.length < 4294967296) (hfx : (x.later N).wd.fa = 0) :
 Calls prog 42 #[.agg (ml n x bk ev).toArray, .int .u64 N] w (nJ n c (x.later N) w) := by
 have one := M.one
 have hfr := iH w n x bk ev one
 have hM0 := M.below (aE (aE (aH w) (bV n x bk ev)) fN)
 have HOK := Hd ok
 have HLN := Hd hl
 obtain ⟨gk, capk, rfl, hrk⟩ := M.k
 have HN0 := Hd n0
 have HN1 := Hd n1
 have hrb := gP ok.wd hs.1 n0
 have HRB := Hd hrb
 have HFA := Hd hs.1
 have HYK := Hd (Bx.later_ok ok hs.1 n0 n1)
 have HFX := Hd hfx
 have HWS := Hd (show IntKind.u64.wrap (N - x.wd.ran N) = N - x.wd.ran N from by rw [IntKind.wrap_u64]; omega)
 clear hl hrk hrb hs ok hfx n0 n1
 go_enter func42, ntmps42
 go_upto_region 1 with (fail)
 rw [cI, eL]
 generalize ((w.alloc (bV n x (.slice (some ⟨gk, 0, none⟩) c capk) ev)).alloc fN) = W at *
 generalize w.heap.size + 1 = r at *
 generalize hbn : w.heap.size = b at *
 have HF := Hd hfr
 have HM := Hd hM0
 clear hfr hM0 M one hbn
 go_upto_region 2 with (first | (refine uP rfl (.tmp 8) rfl rfl HF.out.h ?_) | (go_at_call 76; refine (aKs x.wd N _ HOK.out.wd HN0.out HN1.out).mono ?_; rintro e w1 ⟨rfl, b1⟩; have HF := Hd (HF.out.below b1); have HM := Hd (HM.out.below b1); clear b1) | (rw [fX]; refine dW rfl (.tmp 5) (.tmp 12) rfl rfl (t := x.wd.tick N) rfl (t' := wz) (aD w1 zV) ?_; have hBl := aB (aE (aH w1) zV) (vl (x.wd.tick N)).toArray (g := w1.heap.size) (Nat.le_refl _); have HD := Hd (bX.row (aD w1 zV) (x.wd.tick N)); have HF := Hd (HF.out.below hBl); have HM := Hd (HM.out.below hBl); clear hBl; generalize (w1.alloc zV).setRow w1.heap.size (vl (x.wd.tick N)).toArray = w2 at *; generalize w1.heap.size = q at *))
 go_upto_region 3 with (first | (refine bW rfl (.tmp 5) rfl rfl HD.out ?_; clear HD) | (refine qD rfl (.tmp 15) (.tmp 14) rfl rfl (x.wd.tick N) rfl HF.out ?_; intro w3 hF2 ho2; have HM := Hd (eB HM.out ho2 HF.out.h); have HF := Hd hF2; clear hF2 ho2))
 go_upto_region 4 with (first | (refine pH rfl (.tmp 16) rfl rfl HF.out.h ?_) | (go_at_call 77; refine (aC1 (x.wd.ran N) x.ti n _ _ _ _ HOK.out.t0 HOK.out.t1 HRB.out.1 (Int.lt_of_le_of_lt HRB.out.2 HN1.out)).mono ?_; rintro e w4 ⟨rfl, b1⟩; have HF := Hd (HF.out.below b1); have HM := Hd (HM.out.below b1); clear b1) | (refine qB rfl (.tmp 20) (.tmp 19) rfl rfl (eF x.ti (x.wd.ran N)) x.D x.S rfl HF.out ?_; intro w5 hF2 ho2; have HM := Hd (eB HM.out ho2 HF.out.h); have HF := Hd hF2; clear hF2 ho2))
 have cB := HF.out.h.cB
 go_upto_region 5 with (go_at_call 78; refine (aKK HM.out.row (fun i hi => HOK.out.tm i hi) HOK.out.c0 HOK.out.c8 (x.wd.ran N) HRB.out.1 (Int.lt_of_le_of_lt HRB.out.2 HN1.out)).mono ?_; rintro e w6 ⟨g6, cap6, rfl, hg6, hr6, b6⟩; have HR := Hd hr6; have HF := Hd (HF.out.below b6); have HM := Hd (HM.out.below b6); clear cB hr6 b6 hg6; have cB := HF.out.h.cB; have fB := HF.out.h.free 26; have lB := HF.out.h.lt)
 clear cB fB lB
 have hso := aG w6 b 26 (.slice (some ⟨g6, 0, none⟩) c cap6)
 have hF7 := HF.out.turn (HF.out.h.setB (.slice (some ⟨g6, 0, none⟩) c cap6)) hso ⟨rfl, HF.out.one.2⟩
 have hM7 : MV (w6.setCell ⟨b, 26, none⟩ (.slice (some ⟨g6, 0, none⟩) c cap6)) c (x.later N) (.slice (some ⟨g6, 0, none⟩) c cap6) ev := ⟨⟨g6, cap6, rfl, HR.out.off hso (HR.out.ne HF.out.h rfl)⟩, pC HM.out.e hso HF.out.h⟩
 generalize w6.setCell ⟨b, 26, none⟩ (.slice (some ⟨g6, 0, none⟩) c cap6) = w7 at *
 have HF := Hd hF7
 have HM := Hd hM7
 clear hso hF7 hM7 HR
 go_upto_region 6 with (first | (refine rW rfl (.tmp 26) rfl rfl HF.out.h ?_) | (go_at_call 79; refine (aGG x.rk (x.wd.ran N) _ HOK.out.rk HRB.out.1 (Int.lt_of_le_of_lt HRB.out.2 HN1.out)).mono ?_; rintro e w8 ⟨rfl, b1⟩; have HF := Hd (HF.out.below b1); have HM := Hd (HM.out.below b1); clear b1) | (refine qC rfl (.tmp 30) (.tmp 29) rfl rfl (x.rk.tick (x.wd.ran N)) rfl HF.out ?_; intro w9 hF2 ho2; have HM := Hd (eB HM.out ho2 HF.out.h); have HF := Hd hF2; clear hF2 ho2))
 have HF := Hd (HF.out.like (x.later N))
 have cF := HF.out.h.cF
 rw [HFX.out] at cF
 go_wp2_with (first | (refine dU rfl (.tmp 2) rfl rfl HF.out.h ?_) | (obtain ⟨cz, hz1, hz2⟩ := HF.out.z; refine dX rfl (.tmp 4) (.tmp 35) rfl rfl (x.later N) (.slice (some ⟨g6, 0, none⟩) c cap6) _ n rfl hz1 hz2 HF.out.one ?_; intro u10 hN10 ho10; have HX := Hd (zL HF.out HM.out hN10 ho10); have HN10 := Hd hN10; clear hN10 ho10 hz1 hz2))
 exact bodyPost_ret (aJA rfl _ _ rfl HN10.out) rfl HX.out
theorem aNI (n c : Nat) (x : Bx) (bk ev : Value) (N : Int) (w : World) (M : MV w c x bk ev) (ok : x.ok n c) (hs : x.still) (n0 : 0 <= N) (n1 : N < 18446744073709551616) (hl : x.es.length < 4294967296) (hfx : (x.later N).wd.fa = 2) :
 Calls prog 42 #[.agg (ml n x bk ev).toArray, .int .u64 N] w (nJ n c ({ (x.later N).rst 2 with ti := eF (x.later N).ti (N - x.wd.ran N), rk := (x.later N).rk.zero.tick (N - x.wd.ran N) } : Bx) w) := by
 have one := M.one
 have hfr := iH w n x bk ev one
 have hM0 := M.below (aE (aE (aH w) (bV n x bk ev)) fN)
 have HOK := Hd ok
 have HLN := Hd hl
 obtain ⟨gk, capk, rfl, hrk⟩ := M.k
 have HN0 := Hd n0
 have HN1 := Hd n1
 have hrb := gP ok.wd hs.1 n0
 have HRB := Hd hrb
 have HFA := Hd hs.1
 have HYK := Hd (Bx.later_ok ok hs.1 n0 n1)
 have HFX := Hd hfx
 have HWS := Hd (show IntKind.u64.wrap (N - x.wd.ran N) = N - x.wd.ran N from by rw [IntKind.wrap_u64]; omega)
 clear hl hrk hrb hs ok hfx n0 n1
 go_enter func42, ntmps42
 go_upto_region 1 with (fail)
 rw [cI, eL]
 generalize ((w.alloc (bV n x (.slice (some ⟨gk, 0, none⟩) c capk) ev)).alloc fN) = W at *
 generalize w.heap.size + 1 = r at *
 generalize hbn : w.heap.size = b at *
 have HF := Hd hfr
 have HM := Hd hM0
 clear hfr hM0 M one hbn
 go_upto_region 2 with (first | (refine uP rfl (.tmp 8) rfl rfl HF.out.h ?_) | (go_at_call 76; refine (aKs x.wd N _ HOK.out.wd HN0.out HN1.out).mono ?_; rintro e w1 ⟨rfl, b1⟩; have HF := Hd (HF.out.below b1); have HM := Hd (HM.out.below b1); clear b1) | (rw [fX]; refine dW rfl (.tmp 5) (.tmp 12) rfl rfl (t := x.wd.tick N) rfl (t' := wz) (aD w1 zV) ?_; have hBl := aB (aE (aH w1) zV) (vl (x.wd.tick N)).toArray (g := w1.heap.size) (Nat.le_refl _); have HD := Hd (bX.row (aD w1 zV) (x.wd.tick N)); have HF := Hd (HF.out.below hBl); have HM := Hd (HM.out.below hBl); clear hBl; generalize (w1.alloc zV).setRow w1.heap.size (vl (x.wd.tick N)).toArray = w2 at *; generalize w1.heap.size = q at *))
 go_upto_region 3 with (first | (refine bW rfl (.tmp 5) rfl rfl HD.out ?_; clear HD) | (refine qD rfl (.tmp 15) (.tmp 14) rfl rfl (x.wd.tick N) rfl HF.out ?_; intro w3 hF2 ho2; have HM := Hd (eB HM.out ho2 HF.out.h); have HF := Hd hF2; clear hF2 ho2))
 go_upto_region 4 with (first | (refine pH rfl (.tmp 16) rfl rfl HF.out.h ?_) | (go_at_call 77; refine (aC1 (x.wd.ran N) x.ti n _ _ _ _ HOK.out.t0 HOK.out.t1 HRB.out.1 (Int.lt_of_le_of_lt HRB.out.2 HN1.out)).mono ?_; rintro e w4 ⟨rfl, b1⟩; have HF := Hd (HF.out.below b1); have HM := Hd (HM.out.below b1); clear b1) | (refine qB rfl (.tmp 20) (.tmp 19) rfl rfl (eF x.ti (x.wd.ran N)) x.D x.S rfl HF.out ?_; intro w5 hF2 ho2; have HM := Hd (eB HM.out ho2 HF.out.h); have HF := Hd hF2; clear hF2 ho2))
 have cB := HF.out.h.cB
 go_upto_region 5 with (go_at_call 78; refine (aKK HM.out.row (fun i hi => HOK.out.tm i hi) HOK.out.c0 HOK.out.c8 (x.wd.ran N) HRB.out.1 (Int.lt_of_le_of_lt HRB.out.2 HN1.out)).mono ?_; rintro e w6 ⟨g6, cap6, rfl, hg6, hr6, b6⟩; have HR := Hd hr6; have HF := Hd (HF.out.below b6); have HM := Hd (HM.out.below b6); clear cB hr6 b6 hg6; have cB := HF.out.h.cB; have fB := HF.out.h.free 26; have lB := HF.out.h.lt)
 clear cB fB lB
 have hso := aG w6 b 26 (.slice (some ⟨g6, 0, none⟩) c cap6)
 have hF7 := HF.out.turn (HF.out.h.setB (.slice (some ⟨g6, 0, none⟩) c cap6)) hso ⟨rfl, HF.out.one.2⟩
 have hM7 : MV (w6.setCell ⟨b, 26, none⟩ (.slice (some ⟨g6, 0, none⟩) c cap6)) c (x.later N) (.slice (some ⟨g6, 0, none⟩) c cap6) ev := ⟨⟨g6, cap6, rfl, HR.out.off hso (HR.out.ne HF.out.h rfl)⟩, pC HM.out.e hso HF.out.h⟩
 generalize w6.setCell ⟨b, 26, none⟩ (.slice (some ⟨g6, 0, none⟩) c cap6) = w7 at *
 have HF := Hd hF7
 have HM := Hd hM7
 clear hso hF7 hM7 HR
 go_upto_region 6 with (first | (refine rW rfl (.tmp 26) rfl rfl HF.out.h ?_) | (go_at_call 79; refine (aGG x.rk (x.wd.ran N) _ HOK.out.rk HRB.out.1 (Int.lt_of_le_of_lt HRB.out.2 HN1.out)).mono ?_; rintro e w8 ⟨rfl, b1⟩; have HF := Hd (HF.out.below b1); have HM := Hd (HM.out.below b1); clear b1) | (refine qC rfl (.tmp 30) (.tmp 29) rfl rfl (x.rk.tick (x.wd.ran N)) rfl HF.out ?_; intro w9 hF2 ho2; have HM := Hd (eB HM.out ho2 HF.out.h); have HF := Hd hF2; clear hF2 ho2))
 have HF := Hd (HF.out.like (x.later N))
 have cF := HF.out.h.cF
 rw [HFX.out] at cF
 go_upto_region 9 with (first | (refine dU rfl (.tmp 2) rfl rfl HF.out.h ?_) | (go_at_call 80; refine (aCl n c (x.later N) _ _ 2 _ HM.out HYK.out HLN.out).mono ?_; rintro e w10 ⟨bk8, ev8, rfl, M8, b8⟩; have HF := Hd (HF.out.below b8); have HM := Hd M8; clear M8 b8 cF) | (refine dX rfl (.tmp 2) (.tmp 40) rfl rfl ((x.later N).rst 2) bk8 ev8 n rfl HF.out.h (by rw [List.size_toArray, cO]) HM.out.one ?_; intro w11 hN9 ho9; have HM := Hd (eB HM.out ho9 HF.out.h); have HF := Hd (HF.out.turn hN9 ho9 HM.out.one); clear hN9 ho9))
 have hws := HWS.out
 go_upto_region 10 with (first | (refine pH rfl (.tmp 41) rfl rfl HF.out.h ?_) | (go_at_call 77; refine (aC1 (N - x.wd.ran N) (x.later N).ti n _ _ _ _ HYK.out.t0 HYK.out.t1 (Int.sub_nonneg_of_le HRB.out.2) (by have := HRB.out; have := HN1.out; omega)).mono ?_; rintro e w12 ⟨rfl, b1⟩; have HF := Hd (HF.out.below b1); have HM := Hd (HM.out.below b1); clear b1) | (refine qB rfl (.tmp 47) (.tmp 46) rfl rfl (eF (x.later N).ti (N - x.wd.ran N)) nvD jB rfl HF.out ?_; intro w13 hF2 ho2; have HM := Hd (eB HM.out ho2 HF.out.h); have HF := Hd hF2; clear hF2 ho2))
 go_upto_region 11 with (first | (refine rW rfl (.tmp 48) rfl rfl HF.out.h ?_) | (go_at_call 79; refine (aGG (x.later N).rk.zero (N - x.wd.ran N) _ (Rk.zero_ok HYK.out.rk) (Int.sub_nonneg_of_le HRB.out.2) (by have := HRB.out; have := HN1.out; omega)).mono ?_; rintro e w14 ⟨rfl, b1⟩; have HF := Hd (HF.out.below b1); have HM := Hd (HM.out.below b1); clear b1) | (refine qC rfl (.tmp 54) (.tmp 53) rfl rfl ((x.later N).rk.zero.tick (N - x.wd.ran N)) rfl HF.out ?_; intro w15 hF2 ho2; have HM := Hd (eB HM.out ho2 HF.out.h); have HF := Hd hF2; clear hF2 ho2))
 have HF := Hd (HF.out.like ({ (x.later N).rst 2 with ti := eF (x.later N).ti (N - x.wd.ran N), rk := (x.later N).rk.zero.tick (N - x.wd.ran N) } : Bx))
 have HM := Hd (show MV w15 c ({ (x.later N).rst 2 with ti := eF (x.later N).ti (N - x.wd.ran N), rk := (x.later N).rk.zero.tick (N - x.wd.ran N) } : Bx) bk8 ev8 from ⟨HM.out.k, HM.out.e⟩)
 go_wp2_with (first | (refine dU rfl (.tmp 2) rfl rfl HF.out.h ?_) | (obtain ⟨cz, hz1, hz2⟩ := HF.out.z; refine dX rfl (.tmp 4) (.tmp 55) rfl rfl ({ (x.later N).rst 2 with ti := eF (x.later N).ti (N - x.wd.ran N), rk := (x.later N).rk.zero.tick (N - x.wd.ran N) } : Bx) bk8 _ n rfl hz1 hz2 HF.out.one ?_; intro u10 hN10 ho10; have HX := Hd (zL HF.out HM.out hN10 ho10); have HN10 := Hd hN10; clear hN10 ho10 hz1 hz2))
 exact bodyPost_ret (aJA rfl _ _ rfl HN10.out) rfl HX.out
theorem aKx (n c : Nat) (x : Bx) (bk ev : Value) (N : Int) (w : World) (M : MV w c x bk ev) (ok : x.ok n c) (hs : x.still) (n0 : 0 <= N) (n1 : N < 18446744073709551616) (hl : x.es.length < 4294967296) :
 Calls prog 42 #[.agg (ml n x bk ev).toArray, .int .u64 N] w (nJ n c (x.tick N) w) := by
 by_cases h : (x.later N).wd.fa = 0
 . rw [Bx.tick_no h]
   exact aNH n c x bk ev N w M ok hs n0 n1 hl h
 . have h2 : (x.later N).wd.fa = 2 := kJ hs.1 h
   rw [Bx.tick_yes h, h2]
   exact aNI n c x bk ev N w M ok hs n0 n1 hl h2
end Go.Proofs.YtaohacadochldaaGreat.B
