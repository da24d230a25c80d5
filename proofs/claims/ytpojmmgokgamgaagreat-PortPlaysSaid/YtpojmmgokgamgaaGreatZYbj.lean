/- A part of the proof of a law of layer 12: bj. -/
import Derived.Test.YtpojmmgokgamgaaGreatZYbh
import Derived.Test.YtpojmmgokgamgaaGreatZYbi
set_option linter.unusedVariables false
set_option linter.unusedSimpArgs false
set_option maxHeartbeats 12800000
set_option maxRecDepth 100000
namespace Go.Proofs.YtpojmmgokgamgaaGreat.B
open Go.Proofs.Tryz
open Go.ChangeShapes Go.WideShapes Go.RowKit Go.Sort
abbrev tE2 : TypeId := 150
theorem aFi : (prog.info? 150).map (fun i => (i.zero, i.size, i.bytes)) = some (some (.agg #[.int .u64 0, .int .i64 0]), 2, 16) := by kernel_rfl
structure MV (w : World) (c : Nat) (x : Bx) (bk ev : Value) : Prop where
 k : ∃ g cap, bk = .slice (some ⟨g, 0, none⟩) c cap /\ eH w g c cap x.tm
 e : gC w tE2 ev x.es
theorem MV.below {w w' : World} {c : Nat} {x : Bx} {bk ev : Value} (M : MV w c x bk ev) (hb : Below w.heap.size w w') : MV w' c x bk ev := by
 obtain ⟨g, cap, h1, h2⟩ := M.k
 exact ⟨⟨g, cap, h1, h2.below hb⟩, M.e.below hb⟩
theorem MV.one {w : World} {c : Nat} {x : Bx} {bk ev : Value} (M : MV w c x bk ev) : bk.oneCell' = true /\ ev.oneCell' = true := by
 obtain ⟨g, cap, rfl, h2⟩ := M.k
 exact ⟨rfl, aCS M.e⟩
theorem qQ {P : Program} {ops : Array Oper} {o : Oper} {a : Act} {w : World} {K : Act -> World -> Prop} {Q : Exit -> Act -> World -> Prop} {E : Prop}
 (hg : o.guard = none) (s x : Operand) (t : TypeId) (hop : o.op = Op.call { callee := Callee.builtin Builtin.append, args := #[s, x], argTypes := #[t, t] })
 (base : Nat) (e : TypeId) (i : TypeInfo) (size : Nat) (ht : P.underlying t = some (.slice e)) (hi : P.info? e = some i)
 (v : Value) (n : Nat) (xs : List Value) (hs : a.eval s = v) (hown : w.ownsRow base e size v n xs) (hx : a.eval x = .slice none 0 0) (hK : K (a.put o.dst v) w) :
 if Region.wanted o (yielded ops a.tmps) = true then Oper.wp P o a w K Q else E := by
 have hw : Region.wanted o (yielded ops a.tmps) = true := by simp [Region.wanted, hg]
 rw [if_pos hw]
 have hrun := run_append_owned_none (P := P) (w := w) base t o.type e i size ht hi v n xs hown
 unfold Oper.wp
 simp [execOp, hop, resolve, invoke, builtin, hs, hx, hrun, Result.andThen]
 exact hK
theorem aH1 : Value.agg #[.bool false, .bool false, .bool false, .bool false, .bool false, .bool false, .bool false, .bool false, .bool false, .bool false, .bool false, .bool false, .bool false, .bool false, .bool false, .bool false, .bool false, .bool false, .bool false, .bool false, .bool false, .bool false, .bool false, .bool false, .bool false, .bool false, .bool false, .bool false, .bool false, .bool false, .bool false, .bool false] = Value.agg (bl (aO 0) 32).toArray := by
 rw [show (bl (aO 0) 32) = bl (fun _ => false) 32 from jV _ _ _ fun i _ => kP i]
 rfl
theorem oI {w w' : World} {b n : Nat} {y : Bx} {bk' ev' ev : Value} {es : List (Int × Int)} (e : gC w tE2 ev es) (ho : aF (· = b) w w') (h : eR w b n y bk' ev') : gC w' tE2 ev es :=
 e.keep fun k hk => ho.block k (e.lt hk) (fun e2 => by have h1 := e.kd hk; rw [e2, bP h] at h1; revert h1; decide)
structure Q7 (w0 w : World) (b r n c g : Nat) (x : Bx) (cause : Int) (ev : Value) : Prop where
 F : Fr w0 w b r n { x with rs := x.rs.ltc cause, D := nvD, S := iH, wd := wz, rk := x.rk.zero, msk := 0 } (.slice (some ⟨g, 0, none⟩) c c) ev
 e : gC w tE2 ev x.es
 k : eH w g c c (fun _ => tz)
theorem tR {w : World} {T : TypeId} {g cap : Nat} {es : List (Int × Int)} (h : gC w T (.slice (some ⟨g, 0, none⟩) es.length cap) es) : ∀ j u, (es.flatMap yM)[j]? = some u -> w.cell? ((⟨g, 0, none⟩ : Addr).add j) = some u := by
 intro j u hj
 have hjl : j < es.length * 2 := by
  have := (List.getElem?_eq_some_iff.1 hj).1
  rwa [iP yM 2 nG] at this
 rw [Addr.add_lit, Nat.zero_add, World.ownsRow.cellAt h j hjl]
 exact hj
theorem aMM {w0 w u : World} {b r n c g : Nat} {x : Bx} {cause : Int} {ev v : Value} (H : Q7 w0 w b r n c g x cause ev) (hb : Below w.heap.size w u) (ho : u.ownsRow w.heap.size 150 2 v (0 + x.es.length + 1) ([] ++ x.es.flatMap yM ++ [.int .u64 x.ti, .int .i64 cause])) :
 Fr w0 (u.setCell ⟨b, 109, none⟩ v) b r n { x with rs := x.rs.ltc cause, D := nvD, S := iH, wd := wz, rk := x.rk.zero, msk := 0 } (.slice (some ⟨g, 0, none⟩) c c) v /\ MV (u.setCell ⟨b, 109, none⟩ v) c (x.rst cause) (.slice (some ⟨g, 0, none⟩) c c) v := by
 have F := H.F.below hb
 have hso := aG u b 109 v
 have he : gC u tE2 v (x.es ++ [(x.ti, cause)]) := by
  unfold gC
  rw [List.length_append, List.flatMap_append]
  rw [Nat.zero_add, List.nil_append] at ho
  have := aAT ho
  simpa [yM] using this
 have hk := H.k.below hb
 exact ⟨F.turn (F.h.setE v) hso ⟨rfl, aCS he⟩, ⟨⟨g, c, rfl, hk.off hso (hk.ne F.h rfl)⟩, oI he hso F.h⟩⟩
theorem xN {P : Prop} (h : P := by
 obtain ⟨g, cap, h1, h2⟩ := M.k
 exact ⟨⟨g, cap, h1, h2.off ho (h2.ne h rfl)⟩, M.e.keep fun k hk => ho.block k (M.e.lt hk) (fun e => by have h1 := M.e.kd hk; rw [e, bP h] at h1; revert h1; decide)⟩
 ) : P := h
theorem dP {w w' : World} {b n c : Nat} {x y : Bx} {bk ev bk' ev' : Value} (M : MV w c x bk ev) (ho : aF (· = b) w w') (h : eR w b n y bk' ev') : MV w' c x bk ev := by
 exact xN
def mS (n c : Nat) (y : Bx) (w : World) (e : Ending) (w' : World) : Prop := ∃ bk ev, e = .returned (.agg (ml n y bk ev).toArray) /\ MV w' c y bk ev /\ Below w.heap.size w w'
theorem vQ {P : Prop} (h : P := by
 obtain ⟨g, cap, h3, h4⟩ := M.k
 exact ⟨⟨g, cap, h3, h4.off ho (h4.ne h1 rfl)⟩, M.e.keep fun k hk => ho.block k (M.e.lt hk) (fun e2 => by have h5 := M.e.kd hk; rw [e2, bP h1] at h5; revert h5; decide)⟩
 ) : P := h
theorem yE {w0 w w' : World} {b r n c : Nat} {y z : Bx} {bk ev : Value} (F : Fr w0 w b r n y bk ev) (M : MV w c z bk ev) (h : eR w' r n y bk ev) (ho : aF (· = r) w w') (hyz : ml n y bk ev = ml n z bk ev := by rfl) : mS n c z w0 (.returned (.agg (ml n y bk ev).toArray)) w' := by
 obtain ⟨cs, h1, h2⟩ := F.z
 have M2 : MV w' c z bk ev := by
  exact vQ
 exact ⟨bk, ev, by rw [hyz], M2, aF.toBelow F.lo ho (fun k hk e => by have := F.hr; omega) (Nat.le_refl _)⟩
theorem rW {w U : World} (h : Below w.heap.size w U) : (U.alloc (.cells #[] 150)).ownsRow w.heap.size 150 2 (.slice (some ⟨U.heap.size, 0, none⟩) 0 0) 0 [] /\ Below w.heap.size w (U.alloc (.cells #[] 150)) /\ w.heap.size <= U.heap.size :=
 ⟨World.ownsRow_made (base := w.heap.size) (e := 150) (size := 2) U #[] 0 h.size (by decide) rfl, tr h (aE (aI U) _), h.size⟩
theorem aEx {ops : Array Oper} {o : Oper} {a : Act} {w : World} {K : Act -> World -> Prop} {Q : Exit -> Act -> World -> Prop} {E : Prop}
 (hg : o.guard = none) (s x : Operand) (t : TypeId) (hop : o.op = Op.call { callee := Callee.builtin Builtin.append, args := #[s, x], argTypes := #[t, t] })
 (ht : prog.underlying t = some (.slice 150)) (base : Nat) (v : Value) (n : Nat) (xs : List Value) (hs : a.eval s = v) (hown : w.ownsRow base 150 2 v n xs)
 (ev : Value) (es : List (Int × Int)) (hx : a.eval x = ev) (he : gC w 150 ev es) (h63 : n + es.length <= maxLen) (hby : (n + es.length) * 16 <= 140737488355328) (hbase : base <= w.heap.size)
 (hK : ∀ v' w', w'.ownsRow base 150 2 v' (n + es.length) (xs ++ es.flatMap yM) -> aF (fun k => v.ownBlock = some k) w w' -> K (a.put o.dst v') w') :
 if Region.wanted o (yielded ops a.tmps) = true then Oper.wp prog o a w K Q else E := by
 obtain ⟨i0, hi, hz0, hz1, hz2⟩ := info_parts aFi
 rcases fR he with ⟨rfl, h0⟩ | ⟨g, cap, rfl, _⟩
 . refine qQ hg s x t hop base 150 i0 2 ht hi v n xs hs hown hx (hK v w ?_ (aF.refl _ w))
   rw [List.eq_nil_of_length_eq_zero h0]
   simpa using hown
 . refine eP hg s x t hop base 150 i0 (.agg #[.int .u64 0, .int .i64 0]) 2 16 ht hi hz0 hz1 hz2 rfl (by decide) v n xs hs hown ⟨g, 0, none⟩ es.length cap (es.flatMap yM) hx (iP yM 2 nG es) (tR he) (aDR es) h63 hby hbase ?_
   intro v' w' h1 h2 _ _
   exact hK v' w' h1 (aF.ofGrown h2 fun k e => e)
theorem aCo {P : Prop} (h : P := by
 refine nP (i := 10) (by kernel_rfl) rfl fun K hK => ?_
 refine eP rfl (.tmp 33) (.tmp 39) 49 rfl W8.heap.size 150 i0 (.agg #[.int .u64 0, .int .i64 0]) 2 16 underlying49 HI.out HZ.out HZ1.out HZ2.out rfl (by decide) v1 (0 + x.es.length) ([] ++ x.es.flatMap yM) rfl HA.out ⟨qv, 0, none⟩ 1 1 [.int .u64 x.ti, .int .i64 cause] rfl rfl (aC5 HV.out) (aJM _ _) HMX1.out HBY1.out HB0.out.size ?_
 intro v2 u2 hown2 hgr2 hnil2 hat2
 have HA2 := Hd hown2
 have hB := aF.toBelow HB0.out (aF.ofGrown (S := fun k => (v1 : Value).ownBlock = some k) hgr2 fun k e => e) (fun k hk e => by have := (World.ownsRow.lt HA.out k e).1; omega) (Nat.le_refl _)
 clear hown2 hgr2 hnil2 hat2 HB0
 refine hK.out _ _ (H0.out.F.below hB).h.cT (fun _ => ?_)
 clear hK K
 have HB0 := Hd hB
 clear hB
 refine eA (i := 11) (v := .pointer (some ⟨b, 109, none⟩)) (H0.out.F.below HB0.out).h.cT ?_
 try simp only [Act.put, dH, dF, dG]
 refine nP (i := 12) (by kernel_rfl) rfl fun K hK => ?_
 have hF9 := H0.out.F.below HB0.out
 have c9 := hF9.h.cE
 have f9 := hF9.h.free 109
 have l9 := hF9.h.lt
 obtain ⟨g9, cap9, rfl⟩ := aAv (HA2.out)
 have HN := Hd (aMM H0.out HB0.out HA2.out)
 go_simp
 refine hK.out _ _ (hF9.h.setE _).cT (fun _ => ?_)
 clear hK K c9 f9 l9 hF9
 refine wpAnyH_done (by kernel_rfl) ?_ _
 refine HK7.out _ _ ?_
 clear HK7 K7
 obtain ⟨hF, hV⟩ := HN.out
 simp only [Nat.zero_add] at hF hV
 generalize u2.setCell ⟨b, 109, none⟩ (.slice (some ⟨g9, 0, none⟩) (x.es.length + 1) cap9) = u9 at *
 have HF := Hd hF
 have HV9 := Hd hV
 clear hF hV HN
 go_wp2_with (first | (refine dM rfl (.tmp 2) rfl rfl HF.out.h ?_) | (obtain ⟨cz, hz1, hz2⟩ := HF.out.z; refine dN rfl (.tmp 4) (.tmp 42) rfl rfl { x with rs := x.rs.ltc cause, D := nvD, S := iH, wd := wz, rk := x.rk.zero, msk := 0 } (.slice (some ⟨g4, 0, none⟩) c c) _ n rfl hz1 hz2 HF.out.one ?_; intro u10 hN10 ho10; have HX := Hd (yE HF.out HV9.out hN10 ho10); have HN10 := Hd hN10; clear hN10 ho10 hz1 hz2))
 exact bodyPost_ret (aIr rfl _ _ rfl HN10.out) rfl HX.out
 ) : P := h
theorem aLq {P : Prop} (h : P := by
 refine nP (i := 9) (by kernel_rfl) rfl fun K hK => ?_
 have hB := tr HB0.out (aE (aI U) (.cells #[.int .u64 x.ti, .int .i64 cause] 150))
 have hV := aD U (.cells #[.int .u64 x.ti, .int .i64 cause] 150)
 have hA := HA.out.alloc (.cells #[.int .u64 x.ti, .int .i64 cause] 150)
 go_simp
 refine hK.out _ _ (H0.out.F.below hB).h.cT (fun _ => ?_)
 clear hK K HB0 HA
 generalize U.heap.size = qv at *
 generalize U.alloc (.cells #[.int .u64 x.ti, .int .i64 cause] 150) = U at *
 have HV := Hd hV
 have HA := Hd hA
 clear hA
 have HB0 := Hd hB
 clear hB hV
 exact aCo
 ) : P := h
theorem aBV {P : Prop} (h : P := by
 refine nP (i := 3) (by kernel_rfl) rfl fun K hK => ?_
 refine aEx rfl (.tmp 30) (.tmp 32) 49 rfl underlying49 W8.heap.size (.slice (some ⟨q0, 0, none⟩) 0 0) 0 [] rfl HE0.out ev x.es rfl (H0.out.e.below HB0.out) HMX.out HBY.out HB0.out.size ?_
 intro v1 U1 hA ho
 have hB := aF.toBelow HB0.out ho (fun k hk e => by have h1 := HQ0.out; have h2 : q0 = k := Option.some.inj e; omega) (Nat.le_refl _)
 have hV := ho.at HV.out (fun e => HNE.out (Option.some.inj e))
 refine hK.out _ _ (H0.out.F.below hB).h.cT (fun _ => ?_)
 clear hK K HB0 HE0 HQ0 ho HV HNE
 have HB0 := Hd hB
 have HA := Hd hA
 clear hB hA
 have HV := Hd hV
 clear hV
 generalize U1 = U at *
 exact aCo
 ) : P := h
theorem aJs {P : Prop} (h : P := by
 refine wpAnyH_ready (rs := [3, 9]) (by kernel_rfl) (by simp) ?_
 refine AllReadyH.cons rfl (fun K hK => ?_) (AllReadyH.cons rfl (fun K hK => ?_) AllReadyH.nil)
 . refine aEx rfl (.tmp 30) (.tmp 32) 49 rfl underlying49 W8.heap.size (.slice (some ⟨q0, 0, none⟩) 0 0) 0 [] rfl HE0.out ev x.es rfl (H0.out.e.below HB0.out) HMX.out HBY.out HB0.out.size ?_
   intro v1 U1 hA ho
   have hB := aF.toBelow HB0.out ho (fun k hk e => by have h1 := HQ0.out; have h2 : q0 = k := Option.some.inj e; omega) (Nat.le_refl _)
   refine hK.out _ _ (H0.out.F.below hB).h.cT (fun _ => ?_)
   clear hK K HB0 HE0 HQ0 ho
   have HB0 := Hd hB
   have HA := Hd hA
   clear hB hA
   generalize U1 = U at *
   exact aLq
 . have hB := tr HB0.out (aE (aI U) (.cells #[.int .u64 x.ti, .int .i64 cause] 150))
   have hV := aD U (.cells #[.int .u64 x.ti, .int .i64 cause] 150)
   have hE := HE0.out.alloc (.cells #[.int .u64 x.ti, .int .i64 cause] 150)
   have hN := Nat.ne_of_lt (World.ownsRow.lt HE0.out q0 rfl).2
   go_simp
   refine hK.out _ _ (H0.out.F.below hB).h.cT (fun _ => ?_)
   clear hK K HB0 HE0
   generalize U.heap.size = qv at *
   generalize U.alloc (.cells #[.int .u64 x.ti, .int .i64 cause] 150) = U at *
   have HV := Hd hV
   have HE0 := Hd hE
   have HNE := Hd hN
   clear hE hN
   have HB0 := Hd hB
   clear hB hV
   exact aBV
 ) : P := h
theorem aJ2 {P : Prop} (h : P := by
 refine nP (i := 2) (by kernel_rfl) rfl fun K hK => ?_
 have c2 := (H0.out.F.below HB0.out).h.cE
 have hB := HB0.out
 go_simp
 clear c2
 refine hK.out _ _ (H0.out.F.below hB).h.cT (fun _ => ?_)
 clear hK K hB
 exact aBV
 ) : P := h
theorem aOs {P : Prop} (h : P := by
 refine wpAnyH_ready (rs := [2, 9]) (by kernel_rfl) (by simp) ?_
 refine AllReadyH.cons rfl (fun K hK => ?_) (AllReadyH.cons rfl (fun K hK => ?_) AllReadyH.nil)
 . have c2 := (H0.out.F.below HB0.out).h.cE
   have hB := HB0.out
   go_simp
   clear c2
   refine hK.out _ _ (H0.out.F.below hB).h.cT (fun _ => ?_)
   clear hK K hB
   exact aJs
 . have hB := tr HB0.out (aE (aI U) (.cells #[.int .u64 x.ti, .int .i64 cause] 150))
   have hV := aD U (.cells #[.int .u64 x.ti, .int .i64 cause] 150)
   have hE := HE0.out.alloc (.cells #[.int .u64 x.ti, .int .i64 cause] 150)
   have hN := Nat.ne_of_lt (World.ownsRow.lt HE0.out q0 rfl).2
   go_simp
   refine hK.out _ _ (H0.out.F.below hB).h.cT (fun _ => ?_)
   clear hK K HB0 HE0
   generalize U.heap.size = qv at *
   generalize U.alloc (.cells #[.int .u64 x.ti, .int .i64 cause] 150) = U at *
   have HV := Hd hV
   have HE0 := Hd hE
   have HNE := Hd hN
   clear hE hN
   have HB0 := Hd hB
   clear hB hV
   exact aJ2
 ) : P := h
theorem aJb {P : Prop} (h : P := by
 refine nP (i := 0) (by kernel_rfl) rfl fun K hK => ?_
 obtain ⟨hE, hB, hQ⟩ := rW HB0.out
 have hN := Nat.ne_of_gt (lt_of_block HV.out)
 have hV := aC (aE (aI U) (.cells #[] 150)) HV.out (lt_of_block HV.out)
 go_simp
 refine hK.out _ _ (H0.out.F.below hB).h.cT (fun _ => ?_)
 clear hK K HB0 HV
 generalize U.heap.size = q0 at *
 generalize U.alloc (.cells #[] 150) = U at *
 have HE0 := Hd hE
 have HQ0 := Hd hQ
 have HNE := Hd hN
 have HV := Hd hV
 clear hN hV
 have HB0 := Hd hB
 clear hE hB hQ
 exact aBV
 ) : P := h
theorem aO5 {P : Prop} (h : P := by
 refine wpAnyH_ready (rs := [0, 9]) (by kernel_rfl) (by simp) ?_
 refine AllReadyH.cons rfl (fun K hK => ?_) (AllReadyH.cons rfl (fun K hK => ?_) AllReadyH.nil)
 . obtain ⟨hE, hB, hQ⟩ := rW HB0.out
   go_simp
   refine hK.out _ _ (H0.out.F.below hB).h.cT (fun _ => ?_)
   clear hK K HB0
   generalize U.heap.size = q0 at *
   generalize U.alloc (.cells #[] 150) = U at *
   have HE0 := Hd hE
   have HQ0 := Hd hQ
   have HB0 := Hd hB
   clear hE hB hQ
   exact aJs
 . have hB := tr HB0.out (aE (aI U) (.cells #[.int .u64 x.ti, .int .i64 cause] 150))
   have hV := aD U (.cells #[.int .u64 x.ti, .int .i64 cause] 150)
   go_simp
   refine hK.out _ _ (H0.out.F.below hB).h.cT (fun _ => ?_)
   clear hK K HB0
   generalize U.heap.size = qv at *
   generalize U.alloc (.cells #[.int .u64 x.ti, .int .i64 cause] 150) = U at *
   have HV := Hd hV
   have HB0 := Hd hB
   clear hB hV
   exact aJb
 ) : P := h
theorem aOh {P : Prop} (h : P := by
 refine wpAnyH_ready (rs := [0, 2]) (by kernel_rfl) (by simp) ?_
 refine AllReadyH.cons rfl (fun K hK => ?_) (AllReadyH.cons rfl (fun K hK => ?_) AllReadyH.nil)
 . obtain ⟨hE, hB, hQ⟩ := rW HB0.out
   have hN := Nat.ne_of_gt (lt_of_block HV.out)
   have hV := aC (aE (aI U) (.cells #[] 150)) HV.out (lt_of_block HV.out)
   go_simp
   refine hK.out _ _ (H0.out.F.below hB).h.cT (fun _ => ?_)
   clear hK K HB0 HV
   generalize U.heap.size = q0 at *
   generalize U.alloc (.cells #[] 150) = U at *
   have HE0 := Hd hE
   have HQ0 := Hd hQ
   have HNE := Hd hN
   have HV := Hd hV
   clear hN hV
   have HB0 := Hd hB
   clear hE hB hQ
   exact aJ2
 . have c2 := (H0.out.F.below HB0.out).h.cE
   have hB := HB0.out
   go_simp
   clear c2
   refine hK.out _ _ (H0.out.F.below hB).h.cT (fun _ => ?_)
   clear hK K hB
   exact aJb
 ) : P := h
theorem mrs {P : Prop} (h : P := by
 refine wpAnyH_ready (rs := [0, 2, 9]) (by kernel_rfl) (by simp) ?_
 refine AllReadyH.cons rfl (fun K hK => ?_) (AllReadyH.cons rfl (fun K hK => ?_) (AllReadyH.cons rfl (fun K hK => ?_) AllReadyH.nil))
 . obtain ⟨hE, hB, hQ⟩ := rW HB0.out
   go_simp
   refine hK.out _ _ (H0.out.F.below hB).h.cT (fun _ => ?_)
   clear hK K HB0
   generalize U.heap.size = q0 at *
   generalize U.alloc (.cells #[] 150) = U at *
   have HE0 := Hd hE
   have HQ0 := Hd hQ
   have HB0 := Hd hB
   clear hE hB hQ
   exact aOs
 . have c2 := (H0.out.F.below HB0.out).h.cE
   have hB := HB0.out
   go_simp
   clear c2
   refine hK.out _ _ (H0.out.F.below hB).h.cT (fun _ => ?_)
   clear hK K hB
   exact aO5
 . have hB := tr HB0.out (aE (aI U) (.cells #[.int .u64 x.ti, .int .i64 cause] 150))
   have hV := aD U (.cells #[.int .u64 x.ti, .int .i64 cause] 150)
   go_simp
   refine hK.out _ _ (H0.out.F.below hB).h.cT (fun _ => ?_)
   clear hK K HB0
   generalize U.heap.size = qv at *
   generalize U.alloc (.cells #[.int .u64 x.ti, .int .i64 cause] 150) = U at *
   have HV := Hd hV
   have HB0 := Hd hB
   clear hB hV
   exact aOh
 ) : P := h
theorem aCf (n c : Nat) (x : Bx) (bk ev : Value) (cause : Int) (w : World) (M : MV w c x bk ev) (ok : x.ok n c) (hl : x.es.length < 4294967296) :
 Calls prog 68 #[.agg (ml n x bk ev).toArray, .int .i64 cause] w (mS n c (x.rst cause) w) := by
 obtain ⟨i0, hi, hz0, hz1, hz2⟩ := info_parts aFi
 have HI := Hd hi
 have HZ := Hd hz0
 have HZ1 := Hd hz1
 have HZ2 := Hd hz2
 have one := M.one
 have hfr := gN w n x bk ev one
 have hM0 := M.below (aE (aE (aI w) (bR n x bk ev)) eT)
 have HOK := Hd ok
 have HMX := Hd (show 0 + x.es.length <= maxLen by unfold maxLen; omega)
 have HBY := Hd (show (0 + x.es.length) * 16 <= 140737488355328 by omega)
 have HMX1 := Hd (show 0 + x.es.length + 1 <= maxLen by unfold maxLen; omega)
 have HBY1 := Hd (show (0 + x.es.length + 1) * 16 <= 140737488355328 by omega)
 have hmk : ∀ w : World, (Instr.makeSlice 41 (.int .i64 c) (.int .i64 c)).run prog w = .ok (.slice (some ⟨w.heap.size, 0, none⟩) c c) (w.alloc (zR c)) := fun w => aJU c ok.c8 w
 obtain ⟨gk, capk, rfl, hrk⟩ := M.k
 clear hi hz0 hz1 hz2 hl hrk
 go_enter func68, ntmps68
 go_upto_region 1 with (fail)
 rw [bU, dX]
 generalize ((w.alloc (bR n x (.slice (some ⟨gk, 0, none⟩) c capk) ev)).alloc eT) = W at *
 generalize w.heap.size + 1 = r at *
 generalize hbn : w.heap.size = b at *
 have HF := Hd hfr
 have HM := Hd hM0
 clear hfr hM0 M one hbn
 go_upto_region 2 with (first | (refine zD rfl (.tmp 6) rfl rfl HF.out.h ?_) | (go_at_call 127; refine (aK6 x.rs cause _ HOK.out.rs).mono ?_; rintro e w1 ⟨rfl, b1⟩; have HF := Hd (HF.out.below b1); have HM := Hd (HM.out.below b1); clear b1) | (refine xU rfl (.tmp 12) (.tmp 10) rfl rfl (x.rs.ltc cause) rfl HF.out ?_; intro w2 hF2 ho2; have HM := Hd (dP HM.out ho2 HF.out.h); have HF := Hd hF2; clear hF2 ho2))
 go_upto_region 3 with (first | (refine oA rfl (.tmp 13) rfl rfl HF.out.h ?_) | (go_at_call 55; refine (aCr _ _ _ _ _ _).mono ?_; rintro e w1 ⟨rfl, b1⟩; have HF := Hd (HF.out.below b1); have HM := Hd (HM.out.below b1); clear b1) | (refine oX rfl (.tmp 16) (.tmp 15) rfl rfl x.ti nvD iH rfl HF.out ?_; intro w2 hF2 ho2; have HM := Hd (dP HM.out ho2 HF.out.h); have HF := Hd hF2; clear hF2 ho2))
 have cB := HF.out.h.cB
 have fB := HF.out.h.free 26
 have lB := HF.out.h.lt
 have lB1 : b < w2.heap.size + 1 := Nat.lt_succ_of_lt lB
 go_upto_region 4 with (fail)
 clear cB fB lB lB1
 have hso := aG w2 b 26 (.slice (some ⟨w2.heap.size, 0, none⟩) c c)
 have hsz : (w2.setCell ⟨b, 26, none⟩ (.slice (some ⟨w2.heap.size, 0, none⟩) c c)).heap.size = w2.heap.size := by simp
 have hM3 := dP HM.out hso HF.out.h
 have hF3 := HF.out.turn (HF.out.h.setB (.slice (some ⟨w2.heap.size, 0, none⟩) c c)) hso ⟨rfl, HF.out.one.2⟩
 have hR4 := yV c HOK.out.c8 (w2.setCell ⟨b, 26, none⟩ (.slice (some ⟨w2.heap.size, 0, none⟩) c c))
 have ha := aE (aI (w2.setCell ⟨b, 26, none⟩ (.slice (some ⟨w2.heap.size, 0, none⟩) c c))) (zR c)
 rw [hsz] at hR4
 have hM4 := hM3.below ha
 have hF4 := hF3.below ha
 generalize (w2.setCell ⟨b, 26, none⟩ (.slice (some ⟨w2.heap.size, 0, none⟩) c c)).alloc (zR c) = W4 at *
 generalize w2.heap.size = g4 at *
 have HF := Hd hF4
 have HE := Hd hM4.e
 have HR := Hd hR4
 clear ha hF3 hM3 hso hsz hM4 hR4 hF4 HM hmk
 go_upto_region 5 with (refine oT rfl (.tmp 23) (.tmp 22) rfl rfl wz rfl HF.out ?_; intro w5 hF2 ho2; have HE := Hd (oI HE.out ho2 HF.out.h); have HR := Hd (HR.out.off ho2 (HR.out.ne HF.out.h rfl)); have HF := Hd hF2; clear hF2 ho2)
 go_upto_region 6 with (first | (refine qA rfl (.tmp 24) rfl rfl HF.out.h ?_) | (go_at_call 128; refine (aLI x.rk _).mono ?_; rintro e w6 ⟨rfl, b1⟩; have HF := Hd (HF.out.below b1); have HE := Hd (HE.out.below b1); have HR := Hd (HR.out.below b1); clear b1) | (refine pG rfl (.tmp 27) (.tmp 26) rfl rfl x.rk.zero rfl HF.out ?_; intro w7 hF2 ho2; have HE := Hd (oI HE.out ho2 HF.out.h); have HR := Hd (HR.out.off ho2 (HR.out.ne HF.out.h rfl)); have HF := Hd hF2; clear hF2 ho2))
 go_upto_region 7 with (refine yN rfl (.tmp 29) (.tmp 28) rfl rfl 0 aH1 HF.out ?_; intro w8 hF2 ho2; have HE := Hd (oI HE.out ho2 HF.out.h); have HR := Hd (HR.out.off ho2 (HR.out.ne HF.out.h rfl)); have HF := Hd hF2; clear hF2 ho2)
 rename_i K7 hK7
 have HK7 := Hd hK7
 clear hK7
 have H0 := Hd (show Q7 w w8.drew b r n c g4 x cause ev from ⟨HF.out.below (jH (aI w8)), HE.out.below (jH (aI w8)), HR.out.below (jH (aI w8))⟩)
 have HB0 := Hd (aI w8.drew)
 clear HF HE HR
 refine wp_region_held_drew (S := fun w' => w'.cell? ⟨b, 0, none⟩ = some (.int .u64 x.ti)) (by kernel_rfl) H0.out.F.h.cT (fun _ => ?_)
 generalize w8.drew = W8 at *
 refine eA (i := 1) (v := .pointer (some ⟨b, 109, none⟩)) (H0.out.F.below HB0.out).h.cT ?_
 try simp only [Act.put, dH, dF, dG]
 refine eA (i := 4) (v := .pointer (some ⟨b, 0, none⟩)) (H0.out.F.below HB0.out).h.cT ?_
 try simp only [Act.put, dH, dF, dG]
 refine eA (i := 5) (v := .pointer (some ⟨b, 0, none⟩)) (H0.out.F.below HB0.out).h.cT ?_
 try simp only [Act.put, dH, dF, dG]
 refine rQ (i := 6) (v := .int .u64 x.ti) rfl (by kernel_rfl) (fun _ _ _ h => h) (fun w' hSw => by have c := hSw; clear hSw; (try dsimp only at c); go_simp) (H0.out.F.below HB0.out).h.cT ?_
 try simp only [Act.put, dH, dF, dG]
 refine eA (i := 7) (v := .int .i64 cause) (H0.out.F.below HB0.out).h.cT ?_
 try simp only [Act.put, dH, dF, dG]
 refine eA (i := 8) (v := .agg #[.int .u64 x.ti, .int .i64 cause]) (H0.out.F.below HB0.out).h.cT ?_
 try simp only [Act.put, dH, dF, dG]
 have HU := HB0
 clear HB0
 obtain ⟨U, HB0, hU⟩ : ∃ U, Hid (Below W8.heap.size W8 U) /\ U = W8 := ⟨W8, HU, rfl⟩
 rw [<- hU]
 clear HU hU
 exact mrs
end Go.Proofs.YtpojmmgokgamgaaGreat.B
