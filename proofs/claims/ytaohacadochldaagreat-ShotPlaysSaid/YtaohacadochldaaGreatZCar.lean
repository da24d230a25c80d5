/- A part of the proof of a law of layer 12: ar. -/
import Derived.Test.YtaohacadochldaaGreatZCaq
import Derived.Test.YtaohacadochldaaGreatZCDLay
set_option linter.unusedVariables false
set_option linter.unusedSimpArgs false
set_option maxHeartbeats 12800000
set_option maxRecDepth 100000
namespace Go.Proofs.YtaohacadochldaaGreat.B
open Go.Proofs.Tryz
open Go.ChangeShapes Go.WideShapes Go.RowKit Go.Sort
theorem kB (L : Int -> List Su) (x : Su) (k : Int) (h0 : x.b / 16777216 = k) (h1 : (x.b + (x.s - 1)) / 16777216 = k) (u : Int) : kG L x u = if u = k then L u ++ [x] else L u := by
 unfold kG
 rw [h0, h1]
 by_cases h : u = k
 . rw [if_pos h, if_pos (by omega)]
 . rw [if_neg h, if_neg (by omega)]
theorem pF (B : Bp) (u : Int) : sH B u = if u = 2 then [vC B] else if u = 16 then [kI B, lH B, nA B, qJ B, vD B] else [] := by
 unfold sH
 rw [kB _ (vD B) 16 (show (268763136 : Int) / 16777216 = 16 by decide) (show ((268763136 : Int) + (12 - 1)) / 16777216 = 16 by decide)]
 rw [kB _ (qJ B) 16 (show (268697600 : Int) / 16777216 = 16 by decide) (show ((268697600 : Int) + (36 - 1)) / 16777216 = 16 by decide)]
 rw [kB _ (nA B) 16 (show (268632064 : Int) / 16777216 = 16 by decide) (show ((268632064 : Int) + (16 - 1)) / 16777216 = 16 by decide)]
 rw [kB _ (lH B) 16 (show (268566528 : Int) / 16777216 = 16 by decide) (show ((268566528 : Int) + (20 - 1)) / 16777216 = 16 by decide)]
 rw [kB _ (kI B) 16 (show (268500992 : Int) / 16777216 = 16 by decide) (show ((268500992 : Int) + (256 - 1)) / 16777216 = 16 by decide)]
 rw [kB _ (vC B) 2 (show (33554432 : Int) / 16777216 = 2 by decide) (show ((33554432 : Int) + (49152 - 1)) / 16777216 = 2 by decide)]
 by_cases h2 : u = 2
 . subst h2; simp
 . by_cases h16 : u = 16
   . subst h16; simp
   . simp [h2, h16]
theorem aFz (B : Bp) (a : Int) (h0 : 33554432 <= a) (h1 : a < 33603584) : fF a (sH B (a / 16777216)) = (.agg #[.int .u32 33554432, .int .u32 49152, .iface 110 (kC B.pc)], 0) := by
 rw [show a / 16777216 = 2 by omega, pF]
 rw [if_pos rfl]
 unfold fF
 rw [List.find?_cons, show gG (vC B).b (vC B).s a = true from decide_eq_true (show (33554432 : Int) <= a /\ a - 33554432 < 49152 by omega)]
 rfl
theorem aFy (B : Bp) (a : Int) (h0 : 268500992 <= a) (h1 : a < 268501248) : fF a (sH B (a / 16777216)) = (.agg #[.int .u32 268500992, .int .u32 256, .iface 111 (kC B.pb)], 0) := by
 rw [show a / 16777216 = 16 by omega, pF]
 rw [if_neg (by decide), if_pos rfl]
 unfold fF
 rw [List.find?_cons, show gG (kI B).b (kI B).s a = true from decide_eq_true (show (268500992 : Int) <= a /\ a - 268500992 < 256 by omega)]
 rfl
theorem aF0 (B : Bp) (a : Int) (h0 : 268566528 <= a) (h1 : a < 268566548) : fF a (sH B (a / 16777216)) = (.agg #[.int .u32 268566528, .int .u32 20, .iface 112 (kC B.pd)], 0) := by
 rw [show a / 16777216 = 16 by omega, pF]
 rw [if_neg (by decide), if_pos rfl]
 unfold fF
 rw [List.find?_cons, show gG (kI B).b (kI B).s a = false from decide_eq_false (show ¬ ((268500992 : Int) <= a /\ a - 268500992 < 256) by omega)]
 simp only
 rw [List.find?_cons, show gG (lH B).b (lH B).s a = true from decide_eq_true (show (268566528 : Int) <= a /\ a - 268566528 < 20 by omega)]
 rfl
theorem aF4 (B : Bp) (a : Int) (h0 : 268632064 <= a) (h1 : a < 268632080) : fF a (sH B (a / 16777216)) = (.agg #[.int .u32 268632064, .int .u32 16, .iface 113 (kC B.ps)], 0) := by
 rw [show a / 16777216 = 16 by omega, pF]
 rw [if_neg (by decide), if_pos rfl]
 unfold fF
 rw [List.find?_cons, show gG (kI B).b (kI B).s a = false from decide_eq_false (show ¬ ((268500992 : Int) <= a /\ a - 268500992 < 256) by omega)]
 simp only
 rw [List.find?_cons, show gG (lH B).b (lH B).s a = false from decide_eq_false (show ¬ ((268566528 : Int) <= a /\ a - 268566528 < 20) by omega)]
 simp only
 rw [List.find?_cons, show gG (nA B).b (nA B).s a = true from decide_eq_true (show (268632064 : Int) <= a /\ a - 268632064 < 16 by omega)]
 rfl
theorem aF3 (B : Bp) (a : Int) (h0 : 268697600 <= a) (h1 : a < 268697636) : fF a (sH B (a / 16777216)) = (.agg #[.int .u32 268697600, .int .u32 36, .iface 114 (kC B.pr)], 0) := by
 rw [show a / 16777216 = 16 by omega, pF]
 rw [if_neg (by decide), if_pos rfl]
 unfold fF
 rw [List.find?_cons, show gG (kI B).b (kI B).s a = false from decide_eq_false (show ¬ ((268500992 : Int) <= a /\ a - 268500992 < 256) by omega)]
 simp only
 rw [List.find?_cons, show gG (lH B).b (lH B).s a = false from decide_eq_false (show ¬ ((268566528 : Int) <= a /\ a - 268566528 < 20) by omega)]
 simp only
 rw [List.find?_cons, show gG (nA B).b (nA B).s a = false from decide_eq_false (show ¬ ((268632064 : Int) <= a /\ a - 268632064 < 16) by omega)]
 simp only
 rw [List.find?_cons, show gG (qJ B).b (qJ B).s a = true from decide_eq_true (show (268697600 : Int) <= a /\ a - 268697600 < 36 by omega)]
 rfl
theorem aF1 (B : Bp) (a : Int) (h0 : 268763136 <= a) (h1 : a < 268763148) : fF a (sH B (a / 16777216)) = (.agg #[.int .u32 268763136, .int .u32 12, .iface 115 (kC B.pl)], 0) := by
 rw [show a / 16777216 = 16 by omega, pF]
 rw [if_neg (by decide), if_pos rfl]
 unfold fF
 rw [List.find?_cons, show gG (kI B).b (kI B).s a = false from decide_eq_false (show ¬ ((268500992 : Int) <= a /\ a - 268500992 < 256) by omega)]
 simp only
 rw [List.find?_cons, show gG (lH B).b (lH B).s a = false from decide_eq_false (show ¬ ((268566528 : Int) <= a /\ a - 268566528 < 20) by omega)]
 simp only
 rw [List.find?_cons, show gG (nA B).b (nA B).s a = false from decide_eq_false (show ¬ ((268632064 : Int) <= a /\ a - 268632064 < 16) by omega)]
 simp only
 rw [List.find?_cons, show gG (qJ B).b (qJ B).s a = false from decide_eq_false (show ¬ ((268697600 : Int) <= a /\ a - 268697600 < 36) by omega)]
 simp only
 rw [List.find?_cons, show gG (vD B).b (vD B).s a = true from decide_eq_true (show (268763136 : Int) <= a /\ a - 268763136 < 12 by omega)]
 rfl
theorem aF2 (B : Bp) (a : Int) (h : ¬ (33554432 <= a /\ a < 33603584) /\ ¬ (268500992 <= a /\ a < 268501248) /\ ¬ (268566528 <= a /\ a < 268566548) /\ ¬ (268632064 <= a /\ a < 268632080) /\ ¬ (268697600 <= a /\ a < 268697636) /\ ¬ (268763136 <= a /\ a < 268763148)) : fF a (sH B (a / 16777216)) = (dR, 10) := by
 obtain ⟨n1, n2, n3, n4, n5, n6⟩ := h
 rw [pF]
 by_cases h2 : a / 16777216 = 2
 . rw [if_pos h2]
   unfold fF
   rw [List.find?_cons, show gG (vC B).b (vC B).s a = false from decide_eq_false (show ¬ ((33554432 : Int) <= a /\ a - 33554432 < 49152) by omega)]
   rfl
 . rw [if_neg h2]
   by_cases h16 : a / 16777216 = 16
   . rw [if_pos h16]
     unfold fF
     rw [List.find?_cons, show gG (kI B).b (kI B).s a = false from decide_eq_false (show ¬ ((268500992 : Int) <= a /\ a - 268500992 < 256) by omega)]
     simp only
     rw [List.find?_cons, show gG (lH B).b (lH B).s a = false from decide_eq_false (show ¬ ((268566528 : Int) <= a /\ a - 268566528 < 20) by omega)]
     simp only
     rw [List.find?_cons, show gG (nA B).b (nA B).s a = false from decide_eq_false (show ¬ ((268632064 : Int) <= a /\ a - 268632064 < 16) by omega)]
     simp only
     rw [List.find?_cons, show gG (qJ B).b (qJ B).s a = false from decide_eq_false (show ¬ ((268697600 : Int) <= a /\ a - 268697600 < 36) by omega)]
     simp only
     rw [List.find?_cons, show gG (vD B).b (vD B).s a = false from decide_eq_false (show ¬ ((268763136 : Int) <= a /\ a - 268763136 < 12) by omega)]
     simp only
     rfl
   . rw [if_neg h16]; rfl
theorem aGJ (h m o v : Int) (p : Nat) (w : World) (a : lK w p h m) (o0 : 0 <= o) (o1 : o < 4294967296) :
 Calls prog 305 #[.pointer (some ⟨p, 0, none⟩), .int .u32 o, .int .u32 v] w fun e w' => e = .returned (.int .i64 (oN o)) /\ lK w' p h (if o = 4 then v else m) /\ aF (· = p) w w' := by
 by_cases h4 : o = 4
 . subst h4
   rw [if_pos rfl]
   exact (aL4 h m v p w a).mono (by rintro e w' ⟨rfl, rfl⟩; exact ⟨rfl, a.set1 v, aG _ _ _ _⟩)
 . rw [if_neg h4]
   exact (aGK h m o v p w a o0 o1 h4).mono (by rintro e w' ⟨rfl, rfl⟩; exact ⟨rfl, a, aF.refl _ _⟩)
theorem aGZ {w : World} {B : Bp} {x : Bx} {h v : Int} {c : Prop} [Decidable c] (H : bB w B { x with msk := if c then v else x.msk } h) : bB w B (if c then { x with msk := v } else x) h := by
 by_cases hc : c
 . rw [if_pos hc] at H ⊢; exact H
 . rw [if_neg hc] at H ⊢; exact H
section
variable {w w' : World} {B : Bp} {x : Bx}
theorem aZ.bpNo (H : aZ w B x) : (∀ k, B.dvs k -> k ≠ B.bp) /\ B.mc ≠ B.bp := by
 refine ⟨fun k hk e => H.busApart (.inl rfl) (.inr (.inl (e ▸ hk))), fun e => ?_⟩
 have := pE H.dv.c.map
 rw [e, bT H.bus.cell] at this; cases this
theorem aZ.atBus (H : aZ w B x) (ho : aF (· = B.bp) w w') : bB w' B x (wires B.n B.c x) :=
 H.dv.off ho H.bpNo.1 H.bpNo.2
theorem aZ.atBus2 (H : aZ w B x) (ho : aF (fun k => k = B.bp \/ w.heap.size <= k) w w') : bB w' B x (wires B.n B.c x) :=
 H.dv.off ho (fun k hk h => h.elim (H.bpNo.1 k hk) (fun h => by have := H.dv.lt hk; omega)) (fun h => h.elim H.bpNo.2 (fun h => by have := H.dv.ltm; omega))
theorem lA {w u u' : World} {B : Bp} {y : Bx} {h : Int} (hn : ∀ k, B.dvs k -> k ≠ B.bp) (hm : B.mc ≠ B.bp) (hl : ∀ k, B.dvs k -> k < w.heap.size) (hlm : B.mc < w.heap.size) (H : bB u B y h) (ho : aF (fun k => k = B.bp \/ w.heap.size <= k) u u') : bB u' B y h :=
 H.off ho (fun k hk e => e.elim (hn k hk) (fun e => by have := hl k hk; omega)) (fun e => e.elim hm (fun e => by omega))
theorem aGU {n c : Nat} {x : Bx} {a : Int} (a0 : 0 <= a) (h : Bx.lde n c a ≠ 0) : x.ldv n c a = 0 := by
 unfold Bx.lde at h
 unfold Bx.ldv
 rcases pK a with ⟨_, e⟩ | ⟨_, _, _, e⟩ | ⟨_, _, _, e⟩ | ⟨_, _, _, e⟩ | ⟨_, _, _, e⟩ | ⟨_, _, _, e⟩ | ⟨_, _, _, e⟩ | ⟨_, _, e⟩ <;> rw [e] at h <;> rw [e] <;> simp only at h ⊢
 . exact pS h
 . rename_i h4 h0 h1
   unfold jP at h
   unfold zY
   by_cases hk : jT c (a - 268500992) = 0
   . rw [if_pos hk] at h; rw [if_pos hk]; unfold Tm.val; rw [if_neg h]
   . rw [if_neg hk]
 . exact Wd.val_none (by omega) h
 . unfold iP; rw [if_neg h]
 . unfold Rk.valE; rw [if_neg h]
 . unfold aBC; rw [if_neg h]
theorem aEG (a : Int) (H : aZ w B x) (a0 : 0 <= a) (a1 : a < 4294967296) :
 Calls prog 134 #[.pointer (some ⟨B.bp, 0, none⟩), .int .u32 a] w fun e w' => e = .returned (.tuple #[.int .u32 (x.ldv B.n B.c a), .int .i64 (Bx.lde B.n B.c a)]) /\ Below w.heap.size w w' := by
 have hz : Bx.lde B.n B.c a ≠ 0 -> x.ldv B.n B.c a = 0 := aGU a0
 have hend : ∀ {w'}, aF (fun _ => False) w w' -> Below w.heap.size w w' := fun h => h.below (fun _ _ h => h) (Nat.le_refl _)
 unfold Bx.lde at hz ⊢
 unfold Bx.ldv at hz ⊢
 rcases pK a with ⟨h4, e⟩ | ⟨h4, h0, h1, e⟩ | ⟨h4, h0, h1, e⟩ | ⟨h4, h0, h1, e⟩ | ⟨h4, h0, h1, e⟩ | ⟨h4, h0, h1, e⟩ | ⟨h4, h0, h1, e⟩ | ⟨h4, h, e⟩ <;> rw [e] at hz ⊢ <;> simp only at hz ⊢
 . exact aBv _ a 11 w (by decide) fun w' _ => aBu a _ w' a0 (by simpa using h4)
 . exact (yW B.bp B.bm B.rv B.R B.ks B.pv (sH B) a 33554432 49152 _ _ 110 (kC B.pc) 268 (fun _ => False) (fun _ => True) w a0 a1 (by simpa using h4) H.bus hz (fun _ _ => by unfold kC; kernel_rfl) (enters_of func268 (by kernel_rfl) rfl) (aFz B a h0 h1) (by decide) h0 (fun h => h) (fun _ h => h.elim)
    (fun w' ho => (aNq _ _ _ _ _ B.pc B.mc w' (H.atBus ho).c (by omega) (by omega)).mono fun e w'' h => ⟨h.1, aF.ofBelow h.2, trivial⟩) (fun _ _ _ _ => trivial)).mono fun e w' h => ⟨h.1, hend h.2.1⟩
 . exact (yW B.bp B.bm B.rv B.R B.ks B.pv (sH B) a 268500992 256 _ _ 111 (kC B.pb) 275 (fun _ => False) (fun _ => True) w a0 a1 (by simpa using h4) H.bus hz (fun _ _ => by unfold kC; kernel_rfl) (enters_of func275 (by kernel_rfl) rfl) (aFy B a h0 h1) (by decide) h0 (fun h => h) (fun _ h => h.elim)
    (fun w' ho => (aNh (H.atBus ho).b _ (by omega) (by omega)).mono fun e w'' h => ⟨h.1, h.2 ▸ aF.refl _ _, trivial⟩) (fun _ _ _ _ => trivial)).mono fun e w' h => ⟨h.1, hend h.2.1⟩
 . exact (yW B.bp B.bm B.rv B.R B.ks B.pv (sH B) a 268566528 20 _ _ 112 (kC B.pd) 160 (fun _ => False) (fun _ => True) w a0 a1 (by simpa using h4) H.bus hz (fun _ _ => by unfold kC; kernel_rfl) (enters_of func160 (by kernel_rfl) rfl) (aF0 B a h0 h1) (by decide) h0 (fun h => h) (fun _ h => h.elim)
    (fun w' ho => (aKA x.wd _ B.pd w' H.ok.wd (H.atBus ho).d (by omega) (by omega)).mono fun e w'' h => ⟨h.1, aF.ofBelow h.2, trivial⟩) (fun _ _ _ _ => trivial)).mono fun e w' h => ⟨h.1, hend h.2.1⟩
 . exact (yW B.bp B.bm B.rv B.R B.ks B.pv (sH B) a 268632064 16 _ _ 113 (kC B.ps) 292 (fun _ => False) (fun _ => True) w a0 a1 (by simpa using h4) H.bus hz (fun _ _ => by unfold kC; kernel_rfl) (enters_of func292 (by kernel_rfl) rfl) (aF4 B a h0 h1) (by decide) h0 (fun h => h) (fun _ h => h.elim)
    (fun w' ho => (aMu x.rs _ B.ps w' H.ok.rs (H.atBus ho).s (by omega) (by omega)).mono fun e w'' h => ⟨h.1, aF.ofBelow h.2, trivial⟩) (fun _ _ _ _ => trivial)).mono fun e w' h => ⟨h.1, hend h.2.1⟩
 . exact (yW B.bp B.bm B.rv B.R B.ks B.pv (sH B) a 268697600 36 _ _ 114 (kC B.pr) 166 (fun _ => False) (fun _ => True) w a0 a1 (by simpa using h4) H.bus hz (fun _ _ => by unfold kC; kernel_rfl) (enters_of func166 (by kernel_rfl) rfl) (aF3 B a h0 h1) (by decide) h0 (fun h => h) (fun _ h => h.elim)
    (fun w' ho => (aKE x.rk _ B.pr w' H.ok.rk (H.atBus ho).r (by omega) (by omega)).mono fun e w'' h => ⟨h.1, aF.ofBelow h.2, trivial⟩) (fun _ _ _ _ => trivial)).mono fun e w' h => ⟨h.1, hend h.2.1⟩
 . exact (yW B.bp B.bm B.rv B.R B.ks B.pv (sH B) a 268763136 12 _ _ 115 (kC B.pl) 303 (fun _ => False) (fun _ => True) w a0 a1 (by simpa using h4) H.bus hz (fun _ _ => by unfold kC; kernel_rfl) (enters_of func303 (by kernel_rfl) rfl) (aF1 B a h0 h1) (by decide) h0 (fun h => h) (fun _ h => h.elim)
    (fun w' ho => (aOP _ _ _ B.pl w' (H.atBus ho).l (by omega) (by omega)).mono fun e w'' h => ⟨h.1, aF.ofBelow h.2, trivial⟩) (fun _ _ _ _ => trivial)).mono fun e w' h => ⟨h.1, hend h.2.1⟩
 . exact aBv _ a 10 w (by decide) fun w' hb => aHo a _ _ B.bp B.bm B.rv B.R B.ks B.pv (sH B) w' a0 a1 (by simpa using h4) (H.bus.ofBelow hb) (aF2 B a h)
theorem oY (a v : Int) (H : aZ w B x) (a0 : 0 <= a) (a1 : a < 4294967296) (v0 : 0 <= v) (v1 : v < 4294967296) :
 Calls prog 59 #[.pointer (some ⟨B.bp, 0, none⟩), .int .u32 a, .int .u32 v] w fun e w' => e = .returned (.int .i64 (Bx.ste B.n B.c a)) /\ aF B.dvs w w' /\ bB w' B (x.put B.n B.c a v) (wires B.n B.c x) := by
 have hn := H.bpNo
 have hl : ∀ k, B.dvs k -> k < w.heap.size := fun k hk => H.dv.lt hk
 have hlm := H.dv.ltm
 unfold Bx.ste Bx.put
 rcases pK a with ⟨h4, e⟩ | ⟨h4, h0, h1, e⟩ | ⟨h4, h0, h1, e⟩ | ⟨h4, h0, h1, e⟩ | ⟨h4, h0, h1, e⟩ | ⟨h4, h0, h1, e⟩ | ⟨h4, h0, h1, e⟩ | ⟨h4, h, e⟩ <;> rw [e] <;> simp only
 . exact (zB _ a 11 v w (by decide) fun w' _ => aBu a _ w' a0 (by simpa using h4)).mono fun e w' h => ⟨h.1, aF.ofBelow h.2, H.dv.below h.2⟩
 . exact (sF B.bp B.bm B.rv B.R B.ks B.pv (sH B) a 33554432 49152 v _ 110 (kC B.pc) 269 B.dvs (fun u => bB u B ({ x with D := eT B.n x.D (a - 33554432) v, S := eU B.n x.S (a - 33554432) v }) (wires B.n B.c x)) w a0 a1 (by simpa using h4) H.bus (fun _ _ => by unfold kC; kernel_rfl) (enters_of func269 (by kernel_rfl) rfl) (aFz B a h0 h1) (by decide) h0 (fun h => hn.1 _ h rfl) hl
    (fun w' ho => (aLI _ v _ _ _ _ B.pc B.mc w' (H.atBus2 ho).c (by omega) (by omega) v0 v1).mono fun e w'' h => ⟨h.1, aGt h.2.2, (H.atBus2 ho).turnC h.2.1 h.2.2⟩) (fun u u' hu ho => lA hn.1 hn.2 hl hlm hu ho))
 . exact (sF B.bp B.bm B.rv B.R B.ks B.pv (sH B) a 268500992 256 v _ 111 (kC B.pb) 277 B.dvs (fun u => bB u B ({ x with tm := kL B.c x.tm (a - 268500992) v }) (wires B.n B.c x)) w a0 a1 (by simpa using h4) H.bus (fun _ _ => by unfold kC; kernel_rfl) (enters_of func277 (by kernel_rfl) rfl) (aFy B a h0 h1) (by decide) h0 (fun h => hn.1 _ h rfl) hl
    (fun w' ho => (aK4 (H.atBus2 ho).b _ v (by omega) (by omega) v0 v1).mono fun e w'' h => ⟨h.1, aGs h.2.2, (H.atBus2 ho).turnB h.2.1 h.2.2⟩) (fun u u' hu ho => lA hn.1 hn.2 hl hlm hu ho))
 . exact (sF B.bp B.bm B.rv B.R B.ks B.pv (sH B) a 268566528 20 v _ 112 (kC B.pd) 287 B.dvs (fun u => bB u B ({ x with wd := x.wd.sto (a - 268566528) v }) (wires B.n B.c x)) w a0 a1 (by simpa using h4) H.bus (fun _ _ => by unfold kC; kernel_rfl) (enters_of func287 (by kernel_rfl) rfl) (aF0 B a h0 h1) (by decide) h0 (fun h => hn.1 _ h rfl) hl
    (fun w' ho => (aLU x.wd _ v B.pd w' H.ok.wd (H.atBus2 ho).d (by omega) (by omega) v0 v1).mono fun e w'' h => ⟨h.1, aIt h.2.2, (H.atBus2 ho).turnD h.2.1 h.2.2⟩) (fun u u' hu ho => lA hn.1 hn.2 hl hlm hu ho))
 . exact (sF B.bp B.bm B.rv B.R B.ks B.pv (sH B) a 268632064 16 v _ 113 (kC B.ps) 293 B.dvs (fun u => bB u B ({ x with rs := x.rs.sto (a - 268632064) v }) (wires B.n B.c x)) w a0 a1 (by simpa using h4) H.bus (fun _ _ => by unfold kC; kernel_rfl) (enters_of func293 (by kernel_rfl) rfl) (aF4 B a h0 h1) (by decide) h0 (fun h => hn.1 _ h rfl) hl
    (fun w' ho => (aJE x.rs _ v B.ps w' H.ok.rs (H.atBus2 ho).s (by omega) (by omega) v0 v1).mono fun e w'' h => ⟨h.1, offS h.2.2, (H.atBus2 ho).turnS h.2.1 h.2.2⟩) (fun u u' hu ho => lA hn.1 hn.2 hl hlm hu ho))
 . exact (sF B.bp B.bm B.rv B.R B.ks B.pv (sH B) a 268697600 36 v _ 114 (kC B.pr) 296 B.dvs (fun u => bB u B ({ x with rk := x.rk.sto (a - 268697600) v }) (wires B.n B.c x)) w a0 a1 (by simpa using h4) H.bus (fun _ _ => by unfold kC; kernel_rfl) (enters_of func296 (by kernel_rfl) rfl) (aF3 B a h0 h1) (by decide) h0 (fun h => hn.1 _ h rfl) hl
    (fun w' ho => (aLe x.rk _ v B.pr w' H.ok.rk (H.atBus2 ho).r (by omega) (by omega) v0 v1).mono fun e w'' h => ⟨h.1, aGu h.2.2, (H.atBus2 ho).turnR h.2.1 h.2.2⟩) (fun u u' hu ho => lA hn.1 hn.2 hl hlm hu ho))
 . exact (sF B.bp B.bm B.rv B.R B.ks B.pv (sH B) a 268763136 12 v _ 115 (kC B.pl) 305 B.dvs (fun u => bB u B (if a - 268763136 = 4 then { x with msk := v } else x) (wires B.n B.c x)) w a0 a1 (by simpa using h4) H.bus (fun _ _ => by unfold kC; kernel_rfl) (enters_of func305 (by kernel_rfl) rfl) (aF1 B a h0 h1) (by decide) h0 (fun h => hn.1 _ h rfl) hl
    (fun w' ho => (aGJ _ _ _ v B.pl w' (H.atBus2 ho).l (by omega) (by omega)).mono fun e w'' h => ⟨h.1, uS h.2.2, aGZ ((H.atBus2 ho).turnL h.2.1 h.2.2)⟩) (fun u u' hu ho => lA hn.1 hn.2 hl hlm hu ho))
 . exact (zB _ a 10 v w (by decide) fun w' hb => aHo a _ _ B.bp B.bm B.rv B.R B.ks B.pv (sH B) w' a0 a1 (by simpa using h4) (H.bus.ofBelow hb) (aF2 B a h)).mono fun e w' h => ⟨h.1, aF.ofBelow h.2, H.dv.below h.2⟩
end
end Go.Proofs.YtaohacadochldaaGreat.B
namespace Go.Proofs.YtaohacadochldaaGreat.B
open Go.Proofs.Tryz
open Go.ChangeShapes Go.WideShapes Go.RowKit Go.Sort Go.Shelf
theorem iBd : (prog.info? 121).map (·.size) = some 11 := by kernel_rfl
section
variable {ops : Array Oper} {rest : List Oper} {o : Oper} {a : Act} {w : World} {Q : Exit -> Act -> World -> Prop}
theorem aL8 (hgd : o.guard = none) (x : Operand) (ho : o.op = .load 121 x) {b : Nat} (hx : a.eval x = .pointer (some ⟨b, 0, none⟩)) (vs : List Value) (hl : vs.length = 11) (hg : w.heap[b]? = some (.cells vs.toArray tBd (0, 0)))
 (h : wpList prog ops Q rest (a.put o.dst (.agg vs.toArray)) w) : wpList prog ops Q (o :: rest) a w :=
 aN hgd _ x ho b 0 hx _ vs hg underlying121 rfl (by rw [hl]; exact iBd) (aL _) h
theorem aJO (hgd : o.guard = none) (x y : Operand) (ho : o.op = .store 121 x y) {b : Nat} (hx : a.eval x = .pointer (some ⟨b, 0, none⟩)) (vs us : List Value) (hl : vs.length = 11) (hu : us.length = 11) (h1 : ∀ v ∈ vs, v.oneCell' = true) (hy : a.eval y = .agg vs.toArray) (hg : w.heap[b]? = some (.cells us.toArray tBd (0, 0)))
 (h : wpList prog ops Q rest (a.put o.dst undef) (w.setRow b vs.toArray)) : wpList prog ops Q (o :: rest) a w := by
 refine aJ hgd _ x y ho b 0 hx vs hy hg (by rw [hl]; exact iBd) (by simp [hl, hu]) h1 ?_
 rw [aW _ _ (by simp [hl, hu])]
 exact h
theorem aOq {fn : Func} {p : Tmp} (h : fn.results = #[.cell p 121]) (tmps : Array Value) (w : World) {b : Nat} (vs : List Value) (hl : vs.length = 11) (hp : tmps[p]? = some (.pointer (some ⟨b, 0, none⟩))) (hg : w.heap[b]? = some (.cells vs.toArray tBd (0, 0))) :
 (results fn tmps).run prog w = .ok (.agg vs.toArray) w :=
 aS h tmps w b 0 _ vs hp hg underlying121 rfl (by rw [hl]; exact iBd) (aL _)
end
def Bp.l11 (B : Bp) : List Value := [.pointer (some ⟨B.pc, 0, none⟩), .pointer (some ⟨B.pb, 0, none⟩), .pointer (some ⟨B.pd, 0, none⟩), .pointer (some ⟨B.ps, 0, none⟩), .pointer (some ⟨B.pr, 0, none⟩), .pointer (some ⟨B.pl, 0, none⟩), .int .i64 B.n, .int .i64 B.c, .int .u32 B.div, .pointer (some ⟨B.bp, 0, none⟩), B.ev]
def z11 : List Value := [.pointer none, .pointer none, .pointer none, .pointer none, .pointer none, .pointer none, .int .i64 0, .int .i64 0, .int .u32 0, .pointer none, .slice none 0 0]
theorem aIm (B : Bp) (he : B.ev.oneCell' = true) : ∀ v ∈ B.l11, v.oneCell' = true := by
 intro v hv
 simp only [Bp.l11, List.mem_cons, List.not_mem_nil, or_false] at hv
 rcases hv with rfl | rfl | rfl | rfl | rfl | rfl | rfl | rfl | rfl | rfl | rfl <;> first | rfl | exact he
theorem aCV {w : World} {T : TypeId} {v : Value} {es : List (Int × Int)} (h : gN w T v es) : v.oneCell' = true := by
 rcases gH h with ⟨rfl, _⟩ | ⟨g, cap, rfl, _⟩ <;> rfl
theorem kN (B : Bp) (x : Bx) (w : World) (H : aZ w B x) :
 Calls prog 52 #[.pointer (some ⟨B.b, 0, none⟩)] w fun e w' => e = .returned (.agg #[.pointer (some ⟨B.pc, 0, none⟩), .pointer (some ⟨B.pb, 0, none⟩), .pointer (some ⟨B.pd, 0, none⟩), .pointer (some ⟨B.ps, 0, none⟩), .pointer (some ⟨B.pr, 0, none⟩), .pointer (some ⟨B.pl, 0, none⟩), .int .i64 B.n, .int .i64 B.c, .int .u32 B.div, .pointer (some ⟨B.bp, 0, none⟩), B.ev]) /\ Below w.heap.size w w' := by
 have hg : (w.alloc (.cells #[.pointer none, .pointer none, .pointer none, .pointer none, .pointer none, .pointer none, .int .i64 0, .int .i64 0, .int .u32 0, .pointer none, .slice none 0 0] 121)).heap[B.b]? = some (.cells B.l11.toArray tBd (0, 0)) := (aX w _ (lt_of_block H.cell)).trans H.cell
 have hz : (w.alloc (.cells #[.pointer none, .pointer none, .pointer none, .pointer none, .pointer none, .pointer none, .int .i64 0, .int .i64 0, .int .u32 0, .pointer none, .slice none 0 0] 121)).heap[w.heap.size]? = some (.cells z11.toArray tBd (0, 0)) := aD w _
 have h1 := aIm B (aCV H.ev)
 have hs := aY B.l11.toArray hz
 have hb := aB (aE (aH w) (.cells #[.pointer none, .pointer none, .pointer none, .pointer none, .pointer none, .pointer none, .int .i64 0, .int .i64 0, .int .u32 0, .pointer none, .slice none 0 0] 121)) B.l11.toArray (g := w.heap.size) (Nat.le_refl _)
 go_enter func52, ntmps52
 go_wp2_with (first | (refine aL8 rfl (.tmp 7) rfl rfl B.l11 rfl hg ?_) | (refine aJO rfl (.tmp 2) (.tmp 8) rfl rfl B.l11 z11 rfl rfl h1 rfl hz ?_))
 exact bodyPost_ret (aOq rfl _ _ B.l11 rfl rfl hs) rfl ⟨rfl, hb⟩
theorem fB0 (a0 a1 a2 a3 a4 a5 a6 a7 a8 a9 a10 : Value) (w : World) : (Instr.field 121 (.agg #[a0, a1, a2, a3, a4, a5, a6, a7, a8, a9, a10]) 0).run prog w = .ok (.agg #[a0, a1, a2, a3, a4, a5]) w := by kernel_rfl
theorem fB1 (a0 a1 a2 a3 a4 a5 a6 a7 a8 a9 a10 : Value) (w : World) : (Instr.field 121 (.agg #[a0, a1, a2, a3, a4, a5, a6, a7, a8, a9, a10]) 1).run prog w = .ok (.agg #[a6, a7, a8]) w := by kernel_rfl
theorem fB2 (a0 a1 a2 a3 a4 a5 a6 a7 a8 a9 a10 : Value) (w : World) : (Instr.field 121 (.agg #[a0, a1, a2, a3, a4, a5, a6, a7, a8, a9, a10]) 2).run prog w = .ok a9 w := by kernel_rfl
theorem fB3 (a0 a1 a2 a3 a4 a5 a6 a7 a8 a9 a10 : Value) (w : World) : (Instr.field 121 (.agg #[a0, a1, a2, a3, a4, a5, a6, a7, a8, a9, a10]) 3).run prog w = .ok a10 w := by kernel_rfl
theorem fD0 (a0 a1 a2 a3 a4 a5 : Value) (w : World) : (Instr.field 117 (.agg #[a0, a1, a2, a3, a4, a5]) 0).run prog w = .ok a0 w := by kernel_rfl
theorem fD1 (a0 a1 a2 a3 a4 a5 : Value) (w : World) : (Instr.field 117 (.agg #[a0, a1, a2, a3, a4, a5]) 1).run prog w = .ok a1 w := by kernel_rfl
theorem fD2 (a0 a1 a2 a3 a4 a5 : Value) (w : World) : (Instr.field 117 (.agg #[a0, a1, a2, a3, a4, a5]) 2).run prog w = .ok a2 w := by kernel_rfl
theorem fD4 (a0 a1 a2 a3 a4 a5 : Value) (w : World) : (Instr.field 117 (.agg #[a0, a1, a2, a3, a4, a5]) 4).run prog w = .ok a4 w := by kernel_rfl
theorem fD5 (a0 a1 a2 a3 a4 a5 : Value) (w : World) : (Instr.field 117 (.agg #[a0, a1, a2, a3, a4, a5]) 5).run prog w = .ok a5 w := by kernel_rfl
theorem rD {P : Prop} (h : P := by
 rintro e w2 ⟨rfl, rfl⟩
 go_wp2_with fail
 go_ret
 exact ⟨rfl, HB1.out⟩
 ) : P := h
theorem aFP (B : Bp) (x : Bx) (w : World) (H : aZ w B x) :
 Calls prog 23 #[.pointer (some ⟨B.b, 0, none⟩)] w fun e w' => e = .returned (.int .u64 x.ti) /\ Below w.heap.size w w' := by
 have hf0 := fB0
 have hf1 := fD0
 have HH := Hd H
 have HN := Hd (kN B x w H)
 clear H
 go_enter func23, ntmps23
 go_wp2_with fail
 refine (HN.out).mono ?_
 rintro e w1 ⟨rfl, hb1⟩
 have HH1 := Hd (HH.out.below hb1)
 have HB1 := Hd hb1
 clear hb1
 go_wp2_with fail
 refine (aJ7 _ _ _ _ B.pc B.mc _ HH1.out.dv.c).mono ?_
 exact rD
theorem xT (B : Bp) (x : Bx) (h : Int) (w : World) (H : aZ w B x) :
 Calls prog 22 #[.pointer (some ⟨B.b, 0, none⟩), .int .i64 h] w fun e w' => e = .returned (.int .u64 (oL B.n x.D h)) /\ Below w.heap.size w w' := by
 have hf0 := fB0
 have hf1 := fD0
 have HH := Hd H
 have HN := Hd (kN B x w H)
 clear H
 go_enter func22, ntmps22
 go_wp2_with fail
 refine (HN.out).mono ?_
 rintro e w1 ⟨rfl, hb1⟩
 have HH1 := Hd (HH.out.below hb1)
 have HB1 := Hd hb1
 clear hb1
 go_wp2_with fail
 refine (aFb h _ _ _ _ B.pc B.mc _ HH1.out.dv.c).mono ?_
 exact rD
theorem aFN (B : Bp) (x : Bx) (h : Int) (w : World) (H : aZ w B x) :
 Calls prog 45 #[.pointer (some ⟨B.b, 0, none⟩), .int .i64 h] w fun e w' => e = .returned (.bool (oR x.ti B.n x.D h)) /\ Below w.heap.size w w' := by
 have hf0 := fB0
 have hf1 := fD0
 have HH := Hd H
 have HN := Hd (kN B x w H)
 clear H
 go_enter func45, ntmps45
 go_wp2_with fail
 refine (HN.out).mono ?_
 rintro e w1 ⟨rfl, hb1⟩
 have HH1 := Hd (HH.out.below hb1)
 have HB1 := Hd hb1
 clear hb1
 go_wp2_with fail
 refine (aJ6 _ h _ _ _ B.pc B.mc _ HH1.out.dv.c).mono ?_
 rintro e w2 ⟨rfl, hb2⟩
 go_wp2_with fail
 go_ret
 exact ⟨rfl, tr HB1.out hb2⟩
theorem aK7 (B : Bp) (x : Bx) (w : World) (H : aZ w B x) :
 Calls prog 86 #[.pointer (some ⟨B.b, 0, none⟩)] w fun e w' => e = .returned (.int .u32 (wires B.n B.c x)) /\ Below w.heap.size w w' := by
 have hf0 := fB0
 have hf1 := fD5
 have HH := Hd H
 have HN := Hd (kN B x w H)
 clear H
 go_enter func86, ntmps86
 go_wp2_with fail
 refine (HN.out).mono ?_
 rintro e w1 ⟨rfl, hb1⟩
 have HH1 := Hd (HH.out.below hb1)
 have HB1 := Hd hb1
 clear hb1
 go_wp2_with fail
 refine (aOO _ _ B.pl _ HH1.out.dv.l).mono ?_
 exact rD
theorem aNn (B : Bp) (x : Bx) (w : World) (H : aZ w B x) :
 Calls prog 88 #[.pointer (some ⟨B.b, 0, none⟩)] w fun e w' => e = .returned (.bool (aGz (wires B.n B.c x) x.msk)) /\ Below w.heap.size w w' := by
 have hf0 := fB0
 have hf1 := fD5
 have HH := Hd H
 have HN := Hd (kN B x w H)
 clear H
 go_enter func88, ntmps88
 go_wp2_with fail
 refine (HN.out).mono ?_
 rintro e w1 ⟨rfl, hb1⟩
 have HH1 := Hd (HH.out.below hb1)
 have HB1 := Hd hb1
 clear hb1
 go_wp2_with fail
 refine (aPp _ _ B.pl _ HH1.out.dv.l (dL _ _ _).1 (dL _ _ _).2 HH1.out.ok.m0 HH1.out.ok.m1).mono ?_
 rintro e w2 ⟨rfl, hb2⟩
 go_wp2_with fail
 go_ret
 exact ⟨rfl, tr HB1.out hb2⟩
theorem xH {P : Prop} (h : P := by
 rintro e w2 ⟨rfl, a2, hb2⟩
 have HA := Hd a2
 have HB2 := Hd hb2
 clear a2 hb2
 go_wp2_with fail
 go_ret
 exact ⟨_, rfl, HA.out, tr HB1.out HB2.out⟩
 ) : P := h
theorem aNl (B : Bp) (x : Bx) (w : World) (H : aZ w B x) :
 Calls prog 93 #[.pointer (some ⟨B.b, 0, none⟩)] w fun e w' => ∃ p', e = .returned (.pointer (some ⟨p', 0, none⟩)) /\ eC w' p' x.wd /\ Below w.heap.size w w' := by
 have hf0 := fB0
 have hf1 := fD2
 have HH := Hd H
 have HN := Hd (kN B x w H)
 clear H
 go_enter func93, ntmps93
 go_wp2_with fail
 refine (HN.out).mono ?_
 rintro e w1 ⟨rfl, hb1⟩
 have HH1 := Hd (HH.out.below hb1)
 have HB1 := Hd hb1
 clear hb1
 go_wp2_with fail
 refine (aJ9 _ B.pd _ HH1.out.dv.d).mono ?_
 exact xH
theorem aNo (B : Bp) (x : Bx) (w : World) (H : aZ w B x) :
 Calls prog 95 #[.pointer (some ⟨B.b, 0, none⟩)] w fun e w' => ∃ p', e = .returned (.pointer (some ⟨p', 0, none⟩)) /\ dB w' p' dK x.rk /\ Below w.heap.size w w' := by
 have hf0 := fB0
 have hf1 := fD4
 have HH := Hd H
 have HN := Hd (kN B x w H)
 clear H
 go_enter func95, ntmps95
 go_wp2_with fail
 refine (HN.out).mono ?_
 rintro e w1 ⟨rfl, hb1⟩
 have HH1 := Hd (HH.out.below hb1)
 have HB1 := Hd hb1
 clear hb1
 go_wp2_with fail
 refine (aKC _ B.pr _ HH1.out.dv.r).mono ?_
 exact xH
theorem aK5 (B : Bp) (x : Bx) (w : World) (H : aZ w B x) :
 Calls prog 91 #[.pointer (some ⟨B.b, 0, none⟩)] w fun e w' => ∃ p' g' q', e = .returned (.pointer (some ⟨p', 0, none⟩)) /\ cK w' p' g' B.c q' x.tm /\ Below w.heap.size w w' := by
 have hf0 := fB0
 have hf1 := fD1
 have HH := Hd H
 have HN := Hd (kN B x w H)
 clear H
 go_enter func91, ntmps91
 go_wp2_with fail
 refine (HN.out).mono ?_
 rintro e w1 ⟨rfl, hb1⟩
 have HH1 := Hd (HH.out.below hb1)
 have HB1 := Hd hb1
 clear hb1
 go_wp2_with fail
 refine (aJ3 HH1.out.dv.b).mono ?_
 rintro e w2 ⟨p', g', q', rfl, a2, hb2, _⟩
 have HA := Hd a2
 have HB2 := Hd hb2
 clear a2 hb2
 go_wp2_with fail
 go_ret
 exact ⟨_, _, _, rfl, HA.out, tr HB1.out HB2.out⟩
theorem aF9 : (prog.info? 156).map (fun i => (i.zero, i.size, i.bytes)) = some (some (.agg #[.int .u64 0, .int .i64 0]), 2, 16) := by kernel_rfl
theorem aBc {w : World} {b : Nat} {e : TypeId} {n m : Nat} {v : Value} {xs : List Value} (h : w.ownsRow b e n v m xs) : w.ownsRow 0 e n v m xs := by
 refine ⟨h.1, ?_⟩
 rcases h.2 with h2 | ⟨g, cap, cur, rfl, h3, h4⟩
 . exact .inl h2
 . exact .inr ⟨g, cap, cur, rfl, Nat.zero_le _, h4⟩
theorem aDV (es : List (Int × Int)) : ∀ u ∈ es.flatMap zN, u.oneCell' = true := by
 intro u hu
 obtain ⟨x, _, hx⟩ := List.mem_flatMap.1 hu
 simp [zN] at hx
 rcases hx with rfl | rfl <;> rfl
theorem aIK (v : Value) (es : List (Int × Int)) (w : World) (H : gN w tEv v es) (hl : es.length < 4294967296) :
 Calls prog 148 #[v] w fun e w' => ∃ v', e = .returned v' /\ gN w' tEv v' es /\ Below w.heap.size w w' /\ (∀ k, v'.ownBlock = some k -> w.heap.size <= k) := by
 rcases gH H with ⟨h1, h2⟩ | ⟨g, cap, h1, h2, h3, _⟩
 . subst h1
   have hes : es = [] := List.eq_nil_of_length_eq_zero h2
   subst hes
   have hcon := AnyE.slices_Clone_nil Tryz.cloneEv 0 0 w
   change Calls prog 148 _ _ _ at hcon
   refine hcon.mono ?_
   rintro e w' ⟨rfl, rfl⟩
   exact ⟨_, rfl, aCU _ _, aH _, fun k hk => by cases hk⟩
 . subst h1
   obtain ⟨i0, hi, hz0, hz1, hz2⟩ := info_parts aF9
   have hcon := AnyE.slices_Clone Tryz.cloneEv i0 (.agg #[.int .u64 0, .int .i64 0]) 2 16 hi hz0 hz1 hz2 rfl (by decide) Tryz.sizeOf156 g 0 es.length cap (es.flatMap zN) w (jF _ 2 nY es) (by unfold maxLen; omega) (by omega)
    (fun j u hj => by
      have hjl : j < es.length * 2 := by
       have := (List.getElem?_eq_some_iff.1 hj).1
       rwa [jF zN 2 nY] at this
      rw [Nat.zero_add, World.ownsRow.cellAt H j hjl]; exact hj)
    (aDV es)
   change Calls prog 148 _ _ _ at hcon
   refine hcon.mono ?_
   rintro e w' ⟨v', rfl, hown, hne, hb⟩
   exact ⟨_, rfl, aBc hown, hb, fun k hk => (World.ownsRow.lt hown k hk).1⟩
theorem aAs (B : Bp) (x : Bx) (w : World) (H : aZ w B x) (hl : x.es.length < 4294967296) :
 Calls prog 82 #[.pointer (some ⟨B.b, 0, none⟩)] w fun e w' => ∃ v', e = .returned v' /\ gN w' tEv v' x.es /\ Below w.heap.size w w' /\ (∀ k, v'.ownBlock = some k -> w.heap.size <= k) := by
 have hf0 := fB3
 have HH := Hd H
 have HN := Hd (kN B x w H)
 clear H
 go_enter func82, ntmps82
 go_wp2_with fail
 refine (HN.out).mono ?_
 rintro e w1 ⟨rfl, hb1⟩
 have HH1 := Hd (HH.out.below hb1)
 have HB1 := Hd hb1
 clear hb1
 go_wp2_with fail
 refine (aIK B.ev x.es _ HH1.out.ev hl).mono ?_
 rintro e w2 ⟨v', rfl, h2, hb2, hn⟩
 have HE := Hd h2
 have HB2 := Hd hb2
 have HN2 := Hd hn
 clear h2 hb2 hn
 go_wp2_with fail
 go_ret
 exact ⟨_, rfl, HE.out, tr HB1.out HB2.out, fun k hk => Nat.le_trans HB1.out.size (HN2.out k hk)⟩
theorem aAr (B : Bp) (x : Bx) (w : World) (H : aZ w B x) :
 Calls prog 29 #[.pointer (some ⟨B.b, 0, none⟩)] w fun e w' => e = .returned (.agg #[.int .i64 B.n, .int .i64 B.c, .int .u32 B.div]) /\ Below w.heap.size w w' := by
 have hf0 := fB1
 have HN := Hd (fun w' (h : Below w.heap.size w w') => kN B x w' (H.below h))
 have hb0 := aE (aH w) (.cells #[.int .i64 0, .int .i64 0, .int .u32 0] 75)
 have hX := aD w (.cells #[.int .i64 0, .int .i64 0, .int .u32 0] 75)
 have HX := Hd hX
 have HB0 := Hd hb0
 clear H hb0 hX
 go_enter func29, ntmps29
 go_wp2_with fail
 refine (HN.out _ HB0.out).mono ?_
 rintro e w1 ⟨rfl, hb1⟩
 have hX1 := aC hb1 HX.out (by simp)
 have hbw := tr HB0.out hb1
 have hc0 := aK hX1 0
 have hc1 := aK hX1 1
 have hc2 := aK hX1 2
 have hl := lt_of_block hX1
 have d0 := aA hX1 0
 have d1 := aA hX1 1
 have d2 := aA hX1 2
 simp only [List.getElem?_toArray, List.getElem?_cons_zero, List.getElem?_cons_succ] at d0 d1 d2
 have HX1 := Hd hX1
 have HB1 := Hd hbw
 clear hX1 hb1 hbw
 go_wp2_with fail
 have h1 := aR (aR (aR HX1.out 0 (.int .i64 B.n)) 1 (.int .i64 B.c)) 2 (.int .u32 B.div)
 refine bodyPost_ret (v := .agg #[.int .i64 B.n, .int .i64 B.c, .int .u32 B.div]) ?_ rfl ⟨rfl, ((HB1.out.setCell (p := ⟨w.heap.size, 0, none⟩) (Nat.le_refl _) _).setCell (p := ⟨w.heap.size, 1, none⟩) (Nat.le_refl _) _).setCell (p := ⟨w.heap.size, 2, none⟩) (Nat.le_refl _) _⟩
 exact aS rfl _ _ w.heap.size 0 _ [.int .i64 B.n, .int .i64 B.c, .int .u32 B.div] rfl h1 underlying75 rfl (by kernel_rfl) (aL _)
end Go.Proofs.YtaohacadochldaaGreat.B
