/- A part of the proof of a law of layer 12: bh. -/
import Derived.Test.YtpojmmgokgamgaaGreatZYbg
set_option linter.unusedVariables false
set_option linter.unusedSimpArgs false
set_option maxHeartbeats 12800000
set_option maxRecDepth 100000
namespace Go.Proofs.YtpojmmgokgamgaaGreat.B
open Go.Proofs.Tryz
open Go.ChangeShapes Go.WideShapes Go.RowKit Go.Sort
theorem aJl {w : World} {g n cap : Nat} {t : Nat -> Tm} (h : eH w g n cap t) (ok : ∀ i, i < n -> (t i).ok) (n8 : n <= 8) (o : Int) (o0 : 0 <= o) (o1 : o < 4294967296) :
 Calls prog 100 #[.slice (some ⟨g, 0, none⟩) n cap, .int .u32 o] w fun e w' => e = .returned (.tuple #[.int .u32 (yR n t o), .int .i64 (jF n o)]) /\ Below w.heap.size w w' := by
 have hcm := h.cm
 have hnc := h.nc
 unfold maxLen at hcm
 unfold yR jF
 by_cases hE : jG n o = 0
 . rw [if_pos hE, if_pos hE]
   obtain ⟨h4, hn, hk⟩ := kN o0 hE
   have hin := h.at hk
   have C := Hd (fun w => aEh (t (o / 32).toNat) (o % 32) w (ok _ hk) (by omega) (by omega))
   clear hE h ok
   generalize (t (o / 32).toNat).val (o % 32) = V at *
   generalize eX (o % 32) = E at *
   go_enter func100, ntmps100
   go_wp2_with (refine aDO rfl (.tmp 19) rfl rfl hin ?_)
   refine (C.out _).mono ?_
   exact qD
 . rw [if_neg hE, if_neg hE]
   clear h ok
   unfold jG at hE ⊢
   cases h4 : (o % 4 != 0)
   . rw [h4, if_neg (by simp)] at hE
     by_cases hn : (n : Int) <= o / 32
     . clear hE
       go_enter func100, ntmps100
       go_wp2_with fail
       go_ret2
       exact ⟨by simp [hn], aI w⟩
     . rw [if_neg hn] at hE
       exact absurd rfl hE
   . clear hE
     go_enter func100, ntmps100
     go_wp2_with fail
     go_ret2
     exact ⟨rfl, aI w⟩
theorem aAf (n : Nat) (o : Int) : jF n o = 0 -> jG n o = 0 /\ eX (o % 32) = 0 := by
 unfold jF
 intro h
 by_cases hE : jG n o = 0
 . rw [if_pos hE] at h; exact ⟨hE, h⟩
 . rw [if_neg hE] at h; exact absurd h hE
theorem aGI (n : Nat) (o : Int) (h : jF n o ≠ 0) : lM n o = jF n o := by
 unfold jF at h ⊢
 unfold lM
 by_cases hE : jG n o = 0
 . rw [if_pos hE] at h
   rw [if_pos hE, if_pos hE]
   unfold eY
   rw [if_neg h]
 . rw [if_neg hE, if_neg hE]
theorem aDb (t : Nat -> Tm) (k : Nat) (c : Prop) [Decidable c] (x : Tm) (i : Nat) : nO t k (if c then x else t k) i = (if c then nO t k x else t) i := by
 by_cases hs : c
 . rw [if_pos hs, if_pos hs]
 . rw [if_neg hs, if_neg hs]
   by_cases e : i = k
   . subst e; exact nK _ _ _
   . exact mR _ _ e
theorem aLr {w : World} {g n cap : Nat} {t : Nat -> Tm} (h : eH w g n cap t) (ok : ∀ i, i < n -> (t i).ok) (n0 : 1 <= n) (n8 : n <= 8) (o x : Int) (o0 : 0 <= o) (o1 : o < 4294967296) (x0 : 0 <= x) (x1 : x < 4294967296) :
 Calls prog 106 #[.slice (some ⟨g, 0, none⟩) n cap, .int .u32 o, .int .u32 x] w fun e w' => ∃ g' cap', e = .returned (.tuple #[.slice (some ⟨g', 0, none⟩) n cap', .int .i64 (lM n o)]) /\ eH w' g' n cap' (jZ n t o x) /\ Below w.heap.size w w' /\ (g' = g \/ w.heap.size <= g') := by
 have hcm := h.cm
 have hnc := h.nc
 unfold maxLen at hcm
 have L := aJl h ok n8 o o0 o1
 by_cases hE : jF n o = 0
 . obtain ⟨hk0, hn0⟩ := aAf n o hE
   obtain ⟨h4, hn, hk⟩ := kN o0 hk0
   rw [hE] at L
   have hS : lM n o = eY (o % 32) := by unfold lM; rw [if_pos hk0]
   unfold jZ
   rw [hS]
   have C := Hd (fun w => aKg (t (o / 32).toNat) (o % 32) x w (ok _ hk) (by omega) (by omega) x0 x1)
   generalize yR n t o = V0 at *
   have HW := Hd h
   have OK := Hd ok
   have hcg : ∀ i, i < n -> nO t (o / 32).toNat (if eY (o % 32) = 0 then (t (o / 32).toNat).sto (o % 32) x else t (o / 32).toNat) i = (if eY (o % 32) = 0 then nO t (o / 32).toNat ((t (o / 32).toNat).sto (o % 32) x) else t) i := fun i _ => aDb t _ _ _ i
   have HC := Hd hcg
   clear hE hk0 hn0 h4 hS h ok hcg
   generalize (if eY (o % 32) = 0 then (t (o / 32).toNat).sto (o % 32) x else t (o / 32).toNat) = s at *
   generalize (if eY (o % 32) = 0 then nO t (o / 32).toNat ((t (o / 32).toNat).sto (o % 32) x) else t) = T at *
   generalize eY (o % 32) = E at *
   go_enter func106, ntmps106
   go_wp2_with fail
   refine L.mono ?_
   rintro e w1 ⟨rfl, hb⟩
   have H := HW.out.below hb
   have hin := H.at hk
   have hB := hb
   clear HW hb L
   go_wp2_with (refine aDO rfl (.tmp 26) rfl rfl hin ?_)
   refine (C.out _).mono ?_
   rintro e w2 ⟨rfl, hb⟩
   have H2 := H.below hb
   have B2 := tr hB hb
   clear C H hB hb hin
   have Z : cA (w2.alloc zM) w2.heap.size tz := aD w2 zM
   have B3 := aB (aE B2 zM) (rl s).toArray B2.size
   have H3 := H2.below (aB (aE (aI w2) zM) (rl s).toArray (Nat.le_refl _))
   have Y := cA.row Z s
   have hsz : w.heap.size <= w2.heap.size := B2.size
   clear H2
   go_upto_region 5 with (refine eN rfl (.tmp 10) (.tmp 32) rfl rfl rfl Z ?_)
   rw [kM]
   clear Z B2
   generalize ((w2.alloc zM).setRow w2.heap.size (rl s).toArray) = W at *
   generalize w2.heap.size = y at *
   have OO := World.ownsRow_made (base := w.heap.size) (e := 228) (size := 8) W #[] 0 B3.size (by decide) rfl
   have H4 := H3.below (aE (aI W) (.cells #[] 228 (0, 0)))
   have Y4 := Y.below (aE (aI W) (.cells #[] 228 (0, 0)))
   have B4 := aE B3 (.cells #[] 228 (0, 0))
   have hWs := B3.size
   have hyW := Y.lt
   have hB4s := B4.size
   clear H3 Y B3
   go_upto_region 6 with (refine aB7 rfl (.tmp 34) (.tmp 35) rfl (v := .slice (some ⟨W.heap.size, 0, none⟩) 0 0) rfl OO rfl H4 n8 hB4s ?_; intro v' W5 O5 ho5)
   have ho6 : aF (· = W.heap.size) (W.alloc (.cells #[] 228 (0, 0))) W5 := ho5.mono fun k _ e => (Option.some.inj e).symm
   have Y5 := Y4.off ho6 (fun e => by omega)
   have B5 := aF.toBelow B4 ho6 (fun b hb e => by omega) (Nat.le_refl _)
   obtain ⟨g', cap', rfl, hg', R5⟩ := O5.rw (by omega)
   have hcm' := R5.cm
   have hnc' := R5.nc
   unfold maxLen at hcm'
   clear OO H4 Y4 B4 hWs hyW hB4s ho5 ho6 O5
   go_upto_region 7 with (first
    | (refine dS rfl (.tmp 10) rfl rfl Y5 ?_)
    | (refine aKU rfl (.tmp 41) (.tmp 40) rfl rfl rfl R5 hk ?_; intro W6 R6 ho6))
   have B6 := aF.toBelow B5 ho6 (fun b hb e => by omega) (Nat.le_refl _)
   have R7 := R6.congr HC.out
   clear R5 Y5 B5 ho6 R6
   go_wp2_with fail
   go_ret2
   exact ⟨g', cap', rfl, R7, B6, .inr hg'⟩
 . have hS := aGI n o hE
   have hT : jZ n t o x = t := by unfold jZ; rw [hS, if_neg hE]
   rw [hS, hT]
   have hne : (jF n o == 0) = false := by simpa using hE
   have hn2 : (jF n o != 0) = true := by simpa using hE
   generalize jF n o = E at *
   generalize yR n t o = V0 at *
   have H := Hd h
   clear h hE ok hS hT
   go_enter func106, ntmps106
   go_wp2_with fail
   refine L.mono ?_
   rintro e w1 ⟨rfl, hb⟩
   go_wp2_with fail
   go_ret2
   exact ⟨g, cap, rfl, H.out.below hb, hb, .inl rfl⟩
def zR (n : Nat) : Obj := .cells (madeCells (Value.agg (rl tz).toArray).cells (n * 8)) tM (0, 0)
theorem aJU (n : Nat) (n8 : n <= 8) (w : World) : (Instr.makeSlice 41 (.int .i64 n) (.int .i64 n)).run prog w = .ok (.slice (some ⟨w.heap.size, 0, none⟩) n n) (w.alloc (zR n)) := by
 obtain ⟨i0, hi, hz0, hz1, hz2⟩ := info_parts aDG
 have hr := run_make (P := prog) w 41 228 i0 _ underlying41 hi hz0 .i64 .i64 n n (by omega) (Int.le_refl _) (by rw [hz2]; omega) (by omega)
 rw [hz1] at hr
 simpa [zR] using hr
theorem yV (n : Nat) (n8 : n <= 8) (w : World) : eH (w.alloc (zR n)) w.heap.size n n (fun _ => tz) := by
 refine ⟨⟨_, aD w (zR n), by rw [size_madeCells], fun i hi j u hu => ?_⟩, Nat.le_refl _, by unfold maxLen; omega⟩
 have hj : j < 8 := by have := (List.getElem?_eq_some_iff.1 hu).1; rw [kH] at this; exact this
 have hlt : i * 8 + j < n * 8 := by omega
 have hc : (Value.agg (rl tz).toArray).cells = (rl tz).toArray := rfl
 have hs : (rl tz).toArray.size = 8 := rfl
 unfold madeCells
 rw [hc, hs]
 simp only [Array.getElem?_map]
 rw [show (Array.range (n * 8))[i * 8 + j]? = some (i * 8 + j) by simp [hlt]]
 simp only [Option.map_some]
 rw [show (i * 8 + j) % 8 = j by omega]
 have h2 : (rl tz).toArray[j]? = some u := by simpa using hu
 simp [getElem!_def, h2]
theorem aJO (t : Wd) (w : World) (h : t.ok) : Calls prog 123 #[.agg (vl t).toArray] w fun e w' => e = .returned (.int .u64 t.left) /\ Below w.heap.size w w' := by
 have hB := aE (aI w) (oV t)
 have X : bW (w.alloc (oV t)) w.heap.size t := aD w (oV t)
 have hrun := h.run
 obtain ⟨c0, c1, t0, t1, s0, s1, _, win, fa, idle⟩ := h
 have x0 := X.c0
 have x4 := X.c4
 have x5 := X.c5
 have x6 := X.c6
 cases hen : t.en
 . rw [hen] at x0
   clear hrun win fa idle
   go_enter func123, ntmps123
   go_upto_region 1 with (fail)
   rw [dW]
   generalize w.alloc (oV t) = W at *
   go_wp2_with fail
   go_ret
   exact ⟨bH (by unfold Wd.left; rw [if_neg (by rw [hen]; simp)]), hB⟩
 . rw [hen] at x0
   have hr := hrun hen
   by_cases hf : t.fa = 0
   . have q0 : (t.fa != 0) = false := by simp [hf]
     have hlt := hr hf
     clear hrun win fa idle hr
     go_enter func123, ntmps123
     go_upto_region 1 with (fail)
     rw [dW]
     generalize w.alloc (oV t) = W at *
     go_wp2_with fail
     go_ret
     exact ⟨bH (by unfold Wd.left; rw [if_pos ⟨hen, hf⟩]), hB⟩
   . have q0 : (t.fa != 0) = true := by simp [hf]
     clear hrun win fa idle hr
     go_enter func123, ntmps123
     go_upto_region 1 with (fail)
     rw [dW]
     generalize w.alloc (oV t) = W at *
     go_wp2_with fail
     go_ret
     exact ⟨bH (by unfold Wd.left; rw [if_neg (fun e => hf e.2)]), hB⟩
theorem aA8 (x : Int) (h0 : 18446744073709551616 <= x) (h1 : x < 36893488147419103232) : IntKind.u64.wrap x = x - 18446744073709551616 := by
 simp [IntKind.wrap, IntKind.bits, IntKind.signed]; omega
theorem aJ1 (t : Wd) (n : Int) (w : World) (h : t.ok) (n0 : 0 <= n) (n1 : n < 18446744073709551616) :
 Calls prog 64 #[.agg (vl t).toArray, .int .u64 n] w fun e w' => e = .returned (.tuple #[.agg (vl (t.tick n)).toArray, .int .u64 (t.ran n)]) /\ Below w.heap.size w w' := by
 have hB := aE (aE (aI w) (oV t)) zV
 have X : bW ((w.alloc (oV t)).alloc zV) w.heap.size t := bG w (oV t) zV
 have Y : bW ((w.alloc (oV t)).alloc zV) (w.heap.size + 1) wz := bL w (oV t) zV
 have HL := Hd (fun w' => aJO t w' h)
 have hrun := h.run
 obtain ⟨c0, c1, t0, t1, s0, s1, _, win, fa, idle⟩ := h
 have x0 := X.c0
 have x6 := X.c6
 clear win fa idle
 by_cases hf : t.fa = 0
 . have q0 : (t.fa != 0) = false := by simp [hf]
   cases hen : t.en
   . rw [hen] at x0
     have e1 : t.tick n = t := by unfold Wd.tick; rw [if_neg (by rw [hen]; simp)]
     have e2 : t.ran n = n := by unfold Wd.ran; rw [if_neg (by simp [hf]), if_neg (by rw [hen]; simp)]
     rw [e1, e2]
     clear hrun HL e1 e2
     go_enter func64, ntmps64
     go_upto_region 1 with (fail)
     rw [dW, fE]
     generalize ((w.alloc (oV t)).alloc zV) = W at *
     have Z := bW.row Y t
     have hB2 := aB hB (vl t).toArray (g := w.heap.size + 1) (by omega)
     go_wp2_with (first | (refine bS rfl (.tmp 2) rfl rfl X ?_) | (refine dK rfl (.tmp 4) (.tmp 14) rfl rfl (t := t) rfl Y ?_))
     refine bodyPost_ret (pO rfl _ _ _ rfl rfl Z) rfl ⟨rfl, hB2⟩
   . rw [hen] at x0
     have hlt := hrun hen hf
     have hleft : t.left = t.tot - t.si := by unfold Wd.left; rw [if_pos ⟨hen, hf⟩]
     rw [hleft] at HL
     have x4 := X.c4
     have x5 := X.c5
     have f5 := X.free 5
     have f6 := X.free 6
     clear hrun hleft
     by_cases hge : t.tot <= t.si + n
     . have e1 : t.tick n = { t with si := t.tot, fa := 2 } := by unfold Wd.tick; rw [if_pos ⟨hen, hf⟩, if_pos hge]
       have e2 : t.ran n = t.tot - t.si := by unfold Wd.ran; rw [if_neg (by simp [hf]), if_pos hen, if_pos hge]
       rw [e1, e2]
       clear e1 e2 hen hf
       by_cases hov : t.si + n < 18446744073709551616
       all_goals
        try have hw := aA8 (t.si + n) (by omega) (by omega)
        try have hw2 : t.si + n - 18446744073709551616 < n := by omega
        try have hw3 : ¬ t.tot <= t.si + n - 18446744073709551616 := by omega
        go_enter func64, ntmps64
        go_upto_region 1 with (fail)
        rw [dW, fE]
        generalize ((w.alloc (oV t)).alloc zV) = W at *
        go_wp2_with (refine bS rfl (.tmp 2) rfl rfl X ?_)
        refine (HL.out _).mono ?_
        rintro e W1 ⟨rfl, hb⟩
        have X1 := X.below hb
        have Y1 := Y.below hb
        have hB1 := tr hB hb
        clear X Y hB hb HL x0 x4 x5 x6 f5 f6
        have x4 := X1.c4
        have x5 := X1.c5
        have x6 := X1.c6
        have f5 := X1.free 5
        have f6 := X1.free 6
        have X2 : bW _ _ { t with si := t.tot, fa := 2 } := (X1.s5 t.tot).s6 2
        have Y2 := (Y1.other w.heap.size 5 (.int .u64 t.tot) (by omega)).other w.heap.size 6 (.int .i64 2) (by omega)
        have hB2 := (hB1.setCell (p := ⟨w.heap.size, 5, none⟩) (by simp) (.int .u64 t.tot)).setCell (p := ⟨w.heap.size, 6, none⟩) (by simp) (.int .i64 2)
        clear X1 Y1 hB1
        go_upto_region 8 with (fail)
        generalize ((W1.setCell ⟨w.heap.size, 5, none⟩ (.int .u64 t.tot)).setCell ⟨w.heap.size, 6, none⟩ (.int .i64 2)) = W2 at *
        have Z := bW.row Y2 { t with si := t.tot, fa := 2 }
        have hB3 := aB hB2 (vl { t with si := t.tot, fa := 2 }).toArray (g := w.heap.size + 1) (by omega)
        clear x4 x5 x6 f5 f6
        go_wp2_with (first | (refine bS rfl (.tmp 2) rfl rfl X2 ?_) | (refine dK rfl (.tmp 4) (.tmp 39) rfl rfl (t := { t with si := t.tot, fa := 2 }) rfl Y2 ?_))
        refine bodyPost_ret (pO rfl _ _ _ rfl rfl Z) rfl ⟨rfl, hB3⟩
     . have e1 : t.tick n = { t with si := t.si + n } := by unfold Wd.tick; rw [if_pos ⟨hen, hf⟩, if_neg hge]
       have e2 : t.ran n = n := by unfold Wd.ran; rw [if_neg (by simp [hf]), if_pos hen, if_neg hge]
       rw [e1, e2]
       have hov : t.si + n < 18446744073709551616 := by omega
       have hn : ¬ t.si + n < n := by omega
       clear e1 e2 hen hf HL
       go_enter func64, ntmps64
       go_upto_region 1 with (fail)
       rw [dW, fE]
       generalize ((w.alloc (oV t)).alloc zV) = W at *
       have X2 : bW _ _ { t with si := t.si + n } := X.s5 (t.si + n)
       have Y2 := Y.other w.heap.size 5 (.int .u64 (t.si + n)) (by omega)
       have hB2 := hB.setCell (p := ⟨w.heap.size, 5, none⟩) (by simp) (.int .u64 (t.si + n))
       clear X Y hB
       go_upto_region 10 with (fail)
       generalize (W.setCell ⟨w.heap.size, 5, none⟩ (.int .u64 (t.si + n))) = W2 at *
       have Z := bW.row Y2 { t with si := t.si + n }
       have hB3 := aB hB2 (vl { t with si := t.si + n }).toArray (g := w.heap.size + 1) (by omega)
       clear x0 x4 x5 x6 f5 f6
       go_wp2_with (first | (refine bS rfl (.tmp 2) rfl rfl X2 ?_) | (refine dK rfl (.tmp 4) (.tmp 46) rfl rfl (t := { t with si := t.si + n }) rfl Y2 ?_))
       refine bodyPost_ret (pO rfl _ _ _ rfl rfl Z) rfl ⟨rfl, hB3⟩
 . have q0 : (t.fa != 0) = true := by simp [hf]
   have e1 : t.tick n = t := by unfold Wd.tick; rw [if_neg (fun e => hf e.2)]
   have e2 : t.ran n = 0 := by unfold Wd.ran; rw [if_pos hf]
   rw [e1, e2]
   clear hrun HL e1 e2
   go_enter func64, ntmps64
   go_upto_region 1 with (fail)
   rw [dW, fE]
   generalize ((w.alloc (oV t)).alloc zV) = W at *
   have Z := bW.row Y t
   have hB2 := aB hB (vl t).toArray (g := w.heap.size + 1) (by omega)
   go_wp2_with (first | (refine bS rfl (.tmp 2) rfl rfl X ?_) | (refine dK rfl (.tmp 4) (.tmp 10) rfl rfl (t := t) rfl Y ?_))
   refine bodyPost_ret (pO rfl _ _ _ rfl rfl Z) rfl ⟨rfl, hB2⟩
end Go.Proofs.YtpojmmgokgamgaaGreat.B
