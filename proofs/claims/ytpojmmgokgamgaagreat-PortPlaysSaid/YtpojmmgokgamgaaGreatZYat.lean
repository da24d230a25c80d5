/- A part of the proof of a law of layer 12: at. -/
import Derived.Test.YtpojmmgokgamgaaGreatZYas
import Derived.Test.YtpojmmgokgamgaaGreatZYDLay
set_option linter.unusedVariables false
set_option linter.unusedSimpArgs false
set_option maxHeartbeats 12800000
set_option maxRecDepth 100000
namespace Go.Proofs.YtpojmmgokgamgaaGreat.B
open Go.Proofs.Tryz
open Go.ChangeShapes Go.WideShapes Go.RowKit Go.Sort
theorem jO (L : Int -> List Su) (x : Su) (k : Int) (h0 : x.b / 16777216 = k) (h1 : (x.b + (x.s - 1)) / 16777216 = k) (u : Int) : jU L x u = if u = k then L u ++ [x] else L u := by
 unfold jU
 rw [h0, h1]
 by_cases h : u = k
 . rw [if_pos h, if_pos (by omega)]
 . rw [if_neg h, if_neg (by omega)]
theorem oD (B : Bp) (u : Int) : rE B u = if u = 2 then [tI B] else if u = 16 then [jY B, kL B, mF B, pB B, sG B] else [] := by
 unfold rE
 rw [jO _ (sG B) 16 (show (268763136 : Int) / 16777216 = 16 by decide) (show ((268763136 : Int) + (12 - 1)) / 16777216 = 16 by decide)]
 rw [jO _ (pB B) 16 (show (268697600 : Int) / 16777216 = 16 by decide) (show ((268697600 : Int) + (36 - 1)) / 16777216 = 16 by decide)]
 rw [jO _ (mF B) 16 (show (268632064 : Int) / 16777216 = 16 by decide) (show ((268632064 : Int) + (16 - 1)) / 16777216 = 16 by decide)]
 rw [jO _ (kL B) 16 (show (268566528 : Int) / 16777216 = 16 by decide) (show ((268566528 : Int) + (20 - 1)) / 16777216 = 16 by decide)]
 rw [jO _ (jY B) 16 (show (268500992 : Int) / 16777216 = 16 by decide) (show ((268500992 : Int) + (256 - 1)) / 16777216 = 16 by decide)]
 rw [jO _ (tI B) 2 (show (33554432 : Int) / 16777216 = 2 by decide) (show ((33554432 : Int) + (49152 - 1)) / 16777216 = 2 by decide)]
 by_cases h2 : u = 2
 . subst h2; simp
 . by_cases h16 : u = 16
   . subst h16; simp
   . simp [h2, h16]
theorem aE1 (B : Bp) (a : Int) (h0 : 33554432 <= a) (h1 : a < 33603584) : eO a (rE B (a / 16777216)) = (.agg #[.int .u32 33554432, .int .u32 49152, .iface 69 (jN B.pc)], 0) := by
 rw [show a / 16777216 = 2 by omega, oD]
 rw [if_pos rfl]
 unfold eO
 rw [List.find?_cons, show fO (tI B).b (tI B).s a = true from decide_eq_true (show (33554432 : Int) <= a /\ a - 33554432 < 49152 by omega)]
 rfl
theorem aGg (B : Bp) (a : Int) (h0 : 268500992 <= a) (h1 : a < 268501248) : eO a (rE B (a / 16777216)) = (.agg #[.int .u32 268500992, .int .u32 256, .iface 70 (jN B.pb)], 0) := by
 rw [show a / 16777216 = 16 by omega, oD]
 rw [if_neg (by decide), if_pos rfl]
 unfold eO
 rw [List.find?_cons, show fO (jY B).b (jY B).s a = true from decide_eq_true (show (268500992 : Int) <= a /\ a - 268500992 < 256 by omega)]
 rfl
theorem aHH (B : Bp) (a : Int) (h0 : 268566528 <= a) (h1 : a < 268566548) : eO a (rE B (a / 16777216)) = (.agg #[.int .u32 268566528, .int .u32 20, .iface 71 (jN B.pd)], 0) := by
 rw [show a / 16777216 = 16 by omega, oD]
 rw [if_neg (by decide), if_pos rfl]
 unfold eO
 rw [List.find?_cons, show fO (jY B).b (jY B).s a = false from decide_eq_false (show ¬ ((268500992 : Int) <= a /\ a - 268500992 < 256) by omega)]
 simp only
 rw [List.find?_cons, show fO (kL B).b (kL B).s a = true from decide_eq_true (show (268566528 : Int) <= a /\ a - 268566528 < 20 by omega)]
 rfl
theorem aFT (B : Bp) (a : Int) (h0 : 268632064 <= a) (h1 : a < 268632080) : eO a (rE B (a / 16777216)) = (.agg #[.int .u32 268632064, .int .u32 16, .iface 72 (jN B.ps)], 0) := by
 rw [show a / 16777216 = 16 by omega, oD]
 rw [if_neg (by decide), if_pos rfl]
 unfold eO
 rw [List.find?_cons, show fO (jY B).b (jY B).s a = false from decide_eq_false (show ¬ ((268500992 : Int) <= a /\ a - 268500992 < 256) by omega)]
 simp only
 rw [List.find?_cons, show fO (kL B).b (kL B).s a = false from decide_eq_false (show ¬ ((268566528 : Int) <= a /\ a - 268566528 < 20) by omega)]
 simp only
 rw [List.find?_cons, show fO (mF B).b (mF B).s a = true from decide_eq_true (show (268632064 : Int) <= a /\ a - 268632064 < 16 by omega)]
 rfl
theorem aFr (B : Bp) (a : Int) (h0 : 268697600 <= a) (h1 : a < 268697636) : eO a (rE B (a / 16777216)) = (.agg #[.int .u32 268697600, .int .u32 36, .iface 73 (jN B.pr)], 0) := by
 rw [show a / 16777216 = 16 by omega, oD]
 rw [if_neg (by decide), if_pos rfl]
 unfold eO
 rw [List.find?_cons, show fO (jY B).b (jY B).s a = false from decide_eq_false (show ¬ ((268500992 : Int) <= a /\ a - 268500992 < 256) by omega)]
 simp only
 rw [List.find?_cons, show fO (kL B).b (kL B).s a = false from decide_eq_false (show ¬ ((268566528 : Int) <= a /\ a - 268566528 < 20) by omega)]
 simp only
 rw [List.find?_cons, show fO (mF B).b (mF B).s a = false from decide_eq_false (show ¬ ((268632064 : Int) <= a /\ a - 268632064 < 16) by omega)]
 simp only
 rw [List.find?_cons, show fO (pB B).b (pB B).s a = true from decide_eq_true (show (268697600 : Int) <= a /\ a - 268697600 < 36 by omega)]
 rfl
theorem aFu (B : Bp) (a : Int) (h0 : 268763136 <= a) (h1 : a < 268763148) : eO a (rE B (a / 16777216)) = (.agg #[.int .u32 268763136, .int .u32 12, .iface 74 (jN B.pl)], 0) := by
 rw [show a / 16777216 = 16 by omega, oD]
 rw [if_neg (by decide), if_pos rfl]
 unfold eO
 rw [List.find?_cons, show fO (jY B).b (jY B).s a = false from decide_eq_false (show ¬ ((268500992 : Int) <= a /\ a - 268500992 < 256) by omega)]
 simp only
 rw [List.find?_cons, show fO (kL B).b (kL B).s a = false from decide_eq_false (show ¬ ((268566528 : Int) <= a /\ a - 268566528 < 20) by omega)]
 simp only
 rw [List.find?_cons, show fO (mF B).b (mF B).s a = false from decide_eq_false (show ¬ ((268632064 : Int) <= a /\ a - 268632064 < 16) by omega)]
 simp only
 rw [List.find?_cons, show fO (pB B).b (pB B).s a = false from decide_eq_false (show ¬ ((268697600 : Int) <= a /\ a - 268697600 < 36) by omega)]
 simp only
 rw [List.find?_cons, show fO (sG B).b (sG B).s a = true from decide_eq_true (show (268763136 : Int) <= a /\ a - 268763136 < 12 by omega)]
 rfl
theorem aFS (B : Bp) (a : Int) (h : ¬ (33554432 <= a /\ a < 33603584) /\ ¬ (268500992 <= a /\ a < 268501248) /\ ¬ (268566528 <= a /\ a < 268566548) /\ ¬ (268632064 <= a /\ a < 268632080) /\ ¬ (268697600 <= a /\ a < 268697636) /\ ¬ (268763136 <= a /\ a < 268763148)) : eO a (rE B (a / 16777216)) = (dI, 10) := by
 obtain ⟨n1, n2, n3, n4, n5, n6⟩ := h
 rw [oD]
 by_cases h2 : a / 16777216 = 2
 . rw [if_pos h2]
   unfold eO
   rw [List.find?_cons, show fO (tI B).b (tI B).s a = false from decide_eq_false (show ¬ ((33554432 : Int) <= a /\ a - 33554432 < 49152) by omega)]
   rfl
 . rw [if_neg h2]
   by_cases h16 : a / 16777216 = 16
   . rw [if_pos h16]
     unfold eO
     rw [List.find?_cons, show fO (jY B).b (jY B).s a = false from decide_eq_false (show ¬ ((268500992 : Int) <= a /\ a - 268500992 < 256) by omega)]
     simp only
     rw [List.find?_cons, show fO (kL B).b (kL B).s a = false from decide_eq_false (show ¬ ((268566528 : Int) <= a /\ a - 268566528 < 20) by omega)]
     simp only
     rw [List.find?_cons, show fO (mF B).b (mF B).s a = false from decide_eq_false (show ¬ ((268632064 : Int) <= a /\ a - 268632064 < 16) by omega)]
     simp only
     rw [List.find?_cons, show fO (pB B).b (pB B).s a = false from decide_eq_false (show ¬ ((268697600 : Int) <= a /\ a - 268697600 < 36) by omega)]
     simp only
     rw [List.find?_cons, show fO (sG B).b (sG B).s a = false from decide_eq_false (show ¬ ((268763136 : Int) <= a /\ a - 268763136 < 12) by omega)]
     simp only
     rfl
   . rw [if_neg h16]; rfl
theorem aEu (h m o v : Int) (p : Nat) (w : World) (a : lS w p h m) (o0 : 0 <= o) (o1 : o < 4294967296) :
 Calls prog 292 #[.pointer (some ⟨p, 0, none⟩), .int .u32 o, .int .u32 v] w fun e w' => e = .returned (.int .i64 (nQ o)) /\ lS w' p h (if o = 4 then v else m) /\ aF (· = p) w w' := by
 by_cases h4 : o = 4
 . subst h4
   rw [if_pos rfl]
   exact (aLB h m v p w a).mono (by rintro e w' ⟨rfl, rfl⟩; exact ⟨rfl, a.set1 v, aG _ _ _ _⟩)
 . rw [if_neg h4]
   exact (aFH h m o v p w a o0 o1 h4).mono (by rintro e w' ⟨rfl, rfl⟩; exact ⟨rfl, a, aF.refl _ _⟩)
theorem aFA {w : World} {B : Bp} {x : Bx} {h v : Int} {c : Prop} [Decidable c] (H : aZ w B { x with msk := if c then v else x.msk } h) : aZ w B (if c then { x with msk := v } else x) h := by
 by_cases hc : c
 . rw [if_pos hc] at H ⊢; exact H
 . rw [if_neg hc] at H ⊢; exact H
section
variable {w w' : World} {B : Bp} {x : Bx}
theorem bC.bpNo (H : bC w B x) : (∀ k, B.dvs k -> k ≠ B.bp) /\ B.mc ≠ B.bp := by
 refine ⟨fun k hk e => H.busApart (.inl rfl) (.inr (.inl (e ▸ hk))), fun e => ?_⟩
 have := oH H.dv.c.map
 rw [e, bP H.bus.cell] at this; cases this
theorem bC.atBus (H : bC w B x) (ho : aF (· = B.bp) w w') : aZ w' B x (wires B.n B.c x) :=
 H.dv.off ho H.bpNo.1 H.bpNo.2
theorem bC.atBus2 (H : bC w B x) (ho : aF (fun k => k = B.bp \/ w.heap.size <= k) w w') : aZ w' B x (wires B.n B.c x) :=
 H.dv.off ho (fun k hk h => h.elim (H.bpNo.1 k hk) (fun h => by have := H.dv.lt hk; omega)) (fun h => h.elim H.bpNo.2 (fun h => by have := H.dv.ltm; omega))
theorem kT {w u u' : World} {B : Bp} {y : Bx} {h : Int} (hn : ∀ k, B.dvs k -> k ≠ B.bp) (hm : B.mc ≠ B.bp) (hl : ∀ k, B.dvs k -> k < w.heap.size) (hlm : B.mc < w.heap.size) (H : aZ u B y h) (ho : aF (fun k => k = B.bp \/ w.heap.size <= k) u u') : aZ u' B y h :=
 H.off ho (fun k hk e => e.elim (hn k hk) (fun e => by have := hl k hk; omega)) (fun e => e.elim hm (fun e => by omega))
theorem aGG {n c : Nat} {x : Bx} {a : Int} (a0 : 0 <= a) (h : Bx.lde n c a ≠ 0) : x.ldv n c a = 0 := by
 unfold Bx.lde at h
 unfold Bx.ldv
 rcases nV a with ⟨_, e⟩ | ⟨_, _, _, e⟩ | ⟨_, _, _, e⟩ | ⟨_, _, _, e⟩ | ⟨_, _, _, e⟩ | ⟨_, _, _, e⟩ | ⟨_, _, _, e⟩ | ⟨_, _, e⟩ <;> rw [e] at h <;> rw [e] <;> simp only at h ⊢
 . exact pI h
 . rename_i h4 h0 h1
   unfold jF at h
   unfold yR
   by_cases hk : jG c (a - 268500992) = 0
   . rw [if_pos hk] at h; rw [if_pos hk]; unfold Tm.val; rw [if_neg h]
   . rw [if_neg hk]
 . exact Wd.val_none (by omega) h
 . unfold gP; rw [if_neg h]
 . unfold Rk.valE; rw [if_neg h]
 . unfold aAY; rw [if_neg h]
theorem aDj (a : Int) (H : bC w B x) (a0 : 0 <= a) (a1 : a < 4294967296) :
 Calls prog 87 #[.pointer (some ⟨B.bp, 0, none⟩), .int .u32 a] w fun e w' => e = .returned (.tuple #[.int .u32 (x.ldv B.n B.c a), .int .i64 (Bx.lde B.n B.c a)]) /\ Below w.heap.size w w' := by
 have hz : Bx.lde B.n B.c a ≠ 0 -> x.ldv B.n B.c a = 0 := aGG a0
 have hend : ∀ {w'}, aF (fun _ => False) w w' -> Below w.heap.size w w' := fun h => h.below (fun _ _ h => h) (Nat.le_refl _)
 unfold Bx.lde at hz ⊢
 unfold Bx.ldv at hz ⊢
 rcases nV a with ⟨h4, e⟩ | ⟨h4, h0, h1, e⟩ | ⟨h4, h0, h1, e⟩ | ⟨h4, h0, h1, e⟩ | ⟨h4, h0, h1, e⟩ | ⟨h4, h0, h1, e⟩ | ⟨h4, h0, h1, e⟩ | ⟨h4, h, e⟩ <;> rw [e] at hz ⊢ <;> simp only at hz ⊢
 . exact aAt _ a 11 w (by decide) fun w' _ => aAo a _ w' a0 (by simpa using h4)
 . exact (xF B.bp B.bm B.rv B.R B.ks B.pv (rE B) a 33554432 49152 _ _ 69 (jN B.pc) 255 (fun _ => False) (fun _ => True) w a0 a1 (by simpa using h4) H.bus hz (fun _ _ => by unfold jN; kernel_rfl) (enters_of func255 (by kernel_rfl) rfl) (aE1 B a h0 h1) (by decide) h0 (fun h => h) (fun _ h => h.elim)
    (fun w' ho => (aNb _ _ _ _ _ B.pc B.mc w' (H.atBus ho).c (by omega) (by omega)).mono fun e w'' h => ⟨h.1, aF.ofBelow h.2, trivial⟩) (fun _ _ _ _ => trivial)).mono fun e w' h => ⟨h.1, hend h.2.1⟩
 . exact (xF B.bp B.bm B.rv B.R B.ks B.pv (rE B) a 268500992 256 _ _ 70 (jN B.pb) 262 (fun _ => False) (fun _ => True) w a0 a1 (by simpa using h4) H.bus hz (fun _ _ => by unfold jN; kernel_rfl) (enters_of func262 (by kernel_rfl) rfl) (aGg B a h0 h1) (by decide) h0 (fun h => h) (fun _ h => h.elim)
    (fun w' ho => (aN5 (H.atBus ho).b _ (by omega) (by omega)).mono fun e w'' h => ⟨h.1, h.2 ▸ aF.refl _ _, trivial⟩) (fun _ _ _ _ => trivial)).mono fun e w' h => ⟨h.1, hend h.2.1⟩
 . exact (xF B.bp B.bm B.rv B.R B.ks B.pv (rE B) a 268566528 20 _ _ 71 (jN B.pd) 147 (fun _ => False) (fun _ => True) w a0 a1 (by simpa using h4) H.bus hz (fun _ _ => by unfold jN; kernel_rfl) (enters_of func147 (by kernel_rfl) rfl) (aHH B a h0 h1) (by decide) h0 (fun h => h) (fun _ h => h.elim)
    (fun w' ho => (aJz x.wd _ B.pd w' H.ok.wd (H.atBus ho).d (by omega) (by omega)).mono fun e w'' h => ⟨h.1, aF.ofBelow h.2, trivial⟩) (fun _ _ _ _ => trivial)).mono fun e w' h => ⟨h.1, hend h.2.1⟩
 . exact (xF B.bp B.bm B.rv B.R B.ks B.pv (rE B) a 268632064 16 _ _ 72 (jN B.ps) 279 (fun _ => False) (fun _ => True) w a0 a1 (by simpa using h4) H.bus hz (fun _ _ => by unfold jN; kernel_rfl) (enters_of func279 (by kernel_rfl) rfl) (aFT B a h0 h1) (by decide) h0 (fun h => h) (fun _ h => h.elim)
    (fun w' ho => (aKl x.rs _ B.ps w' H.ok.rs (H.atBus ho).s (by omega) (by omega)).mono fun e w'' h => ⟨h.1, aF.ofBelow h.2, trivial⟩) (fun _ _ _ _ => trivial)).mono fun e w' h => ⟨h.1, hend h.2.1⟩
 . exact (xF B.bp B.bm B.rv B.R B.ks B.pv (rE B) a 268697600 36 _ _ 73 (jN B.pr) 153 (fun _ => False) (fun _ => True) w a0 a1 (by simpa using h4) H.bus hz (fun _ _ => by unfold jN; kernel_rfl) (enters_of func153 (by kernel_rfl) rfl) (aFr B a h0 h1) (by decide) h0 (fun h => h) (fun _ h => h.elim)
    (fun w' ho => (aJQ x.rk _ B.pr w' H.ok.rk (H.atBus ho).r (by omega) (by omega)).mono fun e w'' h => ⟨h.1, aF.ofBelow h.2, trivial⟩) (fun _ _ _ _ => trivial)).mono fun e w' h => ⟨h.1, hend h.2.1⟩
 . exact (xF B.bp B.bm B.rv B.R B.ks B.pv (rE B) a 268763136 12 _ _ 74 (jN B.pl) 290 (fun _ => False) (fun _ => True) w a0 a1 (by simpa using h4) H.bus hz (fun _ _ => by unfold jN; kernel_rfl) (enters_of func290 (by kernel_rfl) rfl) (aFu B a h0 h1) (by decide) h0 (fun h => h) (fun _ h => h.elim)
    (fun w' ho => (aOF _ _ _ B.pl w' (H.atBus ho).l (by omega) (by omega)).mono fun e w'' h => ⟨h.1, aF.ofBelow h.2, trivial⟩) (fun _ _ _ _ => trivial)).mono fun e w' h => ⟨h.1, hend h.2.1⟩
 . exact aAt _ a 10 w (by decide) fun w' hb => aHS a _ _ B.bp B.bm B.rv B.R B.ks B.pv (rE B) w' a0 a1 (by simpa using h4) (H.bus.ofBelow hb) (aFS B a h)
theorem oB (a v : Int) (H : bC w B x) (a0 : 0 <= a) (a1 : a < 4294967296) (v0 : 0 <= v) (v1 : v < 4294967296) :
 Calls prog 88 #[.pointer (some ⟨B.bp, 0, none⟩), .int .u32 a, .int .u32 v] w fun e w' => e = .returned (.int .i64 (Bx.ste B.n B.c a)) /\ aF B.dvs w w' /\ aZ w' B (x.put B.n B.c a v) (wires B.n B.c x) := by
 have hn := H.bpNo
 have hl : ∀ k, B.dvs k -> k < w.heap.size := fun k hk => H.dv.lt hk
 have hlm := H.dv.ltm
 unfold Bx.ste Bx.put
 rcases nV a with ⟨h4, e⟩ | ⟨h4, h0, h1, e⟩ | ⟨h4, h0, h1, e⟩ | ⟨h4, h0, h1, e⟩ | ⟨h4, h0, h1, e⟩ | ⟨h4, h0, h1, e⟩ | ⟨h4, h0, h1, e⟩ | ⟨h4, h, e⟩ <;> rw [e] <;> simp only
 . exact (vS _ a 11 v w (by decide) fun w' _ => aAo a _ w' a0 (by simpa using h4)).mono fun e w' h => ⟨h.1, aF.ofBelow h.2, H.dv.below h.2⟩
 . exact (pX B.bp B.bm B.rv B.R B.ks B.pv (rE B) a 33554432 49152 v _ 69 (jN B.pc) 256 B.dvs (fun u => aZ u B ({ x with D := eV B.n x.D (a - 33554432) v, S := eU B.n x.S (a - 33554432) v }) (wires B.n B.c x)) w a0 a1 (by simpa using h4) H.bus (fun _ _ => by unfold jN; kernel_rfl) (enters_of func256 (by kernel_rfl) rfl) (aE1 B a h0 h1) (by decide) h0 (fun h => hn.1 _ h rfl) hl
    (fun w' ho => (aLD _ v _ _ _ _ B.pc B.mc w' (H.atBus2 ho).c (by omega) (by omega) v0 v1).mono fun e w'' h => ⟨h.1, aGk h.2.2, (H.atBus2 ho).turnC h.2.1 h.2.2⟩) (fun u u' hu ho => kT hn.1 hn.2 hl hlm hu ho))
 . exact (pX B.bp B.bm B.rv B.R B.ks B.pv (rE B) a 268500992 256 v _ 70 (jN B.pb) 264 B.dvs (fun u => aZ u B ({ x with tm := jZ B.c x.tm (a - 268500992) v }) (wires B.n B.c x)) w a0 a1 (by simpa using h4) H.bus (fun _ _ => by unfold jN; kernel_rfl) (enters_of func264 (by kernel_rfl) rfl) (aGg B a h0 h1) (by decide) h0 (fun h => hn.1 _ h rfl) hl
    (fun w' ho => (aL8 (H.atBus2 ho).b _ v (by omega) (by omega) v0 v1).mono fun e w'' h => ⟨h.1, aGO h.2.2, (H.atBus2 ho).turnB h.2.1 h.2.2⟩) (fun u u' hu ho => kT hn.1 hn.2 hl hlm hu ho))
 . exact (pX B.bp B.bm B.rv B.R B.ks B.pv (rE B) a 268566528 20 v _ 71 (jN B.pd) 274 B.dvs (fun u => aZ u B ({ x with wd := x.wd.sto (a - 268566528) v }) (wires B.n B.c x)) w a0 a1 (by simpa using h4) H.bus (fun _ _ => by unfold jN; kernel_rfl) (enters_of func274 (by kernel_rfl) rfl) (aHH B a h0 h1) (by decide) h0 (fun h => hn.1 _ h rfl) hl
    (fun w' ho => (aMP x.wd _ v B.pd w' H.ok.wd (H.atBus2 ho).d (by omega) (by omega) v0 v1).mono fun e w'' h => ⟨h.1, aII h.2.2, (H.atBus2 ho).turnD h.2.1 h.2.2⟩) (fun u u' hu ho => kT hn.1 hn.2 hl hlm hu ho))
 . exact (pX B.bp B.bm B.rv B.R B.ks B.pv (rE B) a 268632064 16 v _ 72 (jN B.ps) 280 B.dvs (fun u => aZ u B ({ x with rs := x.rs.sto (a - 268632064) v }) (wires B.n B.c x)) w a0 a1 (by simpa using h4) H.bus (fun _ _ => by unfold jN; kernel_rfl) (enters_of func280 (by kernel_rfl) rfl) (aFT B a h0 h1) (by decide) h0 (fun h => hn.1 _ h rfl) hl
    (fun w' ho => (aHZ x.rs _ v B.ps w' H.ok.rs (H.atBus2 ho).s (by omega) (by omega) v0 v1).mono fun e w'' h => ⟨h.1, offS h.2.2, (H.atBus2 ho).turnS h.2.1 h.2.2⟩) (fun u u' hu ho => kT hn.1 hn.2 hl hlm hu ho))
 . exact (pX B.bp B.bm B.rv B.R B.ks B.pv (rE B) a 268697600 36 v _ 73 (jN B.pr) 283 B.dvs (fun u => aZ u B ({ x with rk := x.rk.sto (a - 268697600) v }) (wires B.n B.c x)) w a0 a1 (by simpa using h4) H.bus (fun _ _ => by unfold jN; kernel_rfl) (enters_of func283 (by kernel_rfl) rfl) (aFr B a h0 h1) (by decide) h0 (fun h => hn.1 _ h rfl) hl
    (fun w' ho => (aLN x.rk _ v B.pr w' H.ok.rk (H.atBus2 ho).r (by omega) (by omega) v0 v1).mono fun e w'' h => ⟨h.1, aE8 h.2.2, (H.atBus2 ho).turnR h.2.1 h.2.2⟩) (fun u u' hu ho => kT hn.1 hn.2 hl hlm hu ho))
 . exact (pX B.bp B.bm B.rv B.R B.ks B.pv (rE B) a 268763136 12 v _ 74 (jN B.pl) 292 B.dvs (fun u => aZ u B (if a - 268763136 = 4 then { x with msk := v } else x) (wires B.n B.c x)) w a0 a1 (by simpa using h4) H.bus (fun _ _ => by unfold jN; kernel_rfl) (enters_of func292 (by kernel_rfl) rfl) (aFu B a h0 h1) (by decide) h0 (fun h => hn.1 _ h rfl) hl
    (fun w' ho => (aEu _ _ _ v B.pl w' (H.atBus2 ho).l (by omega) (by omega)).mono fun e w'' h => ⟨h.1, sR h.2.2, aFA ((H.atBus2 ho).turnL h.2.1 h.2.2)⟩) (fun u u' hu ho => kT hn.1 hn.2 hl hlm hu ho))
 . exact (vS _ a 10 v w (by decide) fun w' hb => aHS a _ _ B.bp B.bm B.rv B.R B.ks B.pv (rE B) w' a0 a1 (by simpa using h4) (H.bus.ofBelow hb) (aFS B a h)).mono fun e w' h => ⟨h.1, aF.ofBelow h.2, H.dv.below h.2⟩
end
end Go.Proofs.YtpojmmgokgamgaaGreat.B
namespace Go.Proofs.YtpojmmgokgamgaaGreat.B
open Go.Proofs.Tryz
open Go.ChangeShapes Go.WideShapes Go.RowKit Go.Sort Go.Shelf
theorem iBd : (prog.info? 104).map (·.size) = some 11 := by kernel_rfl
section
variable {ops : Array Oper} {rest : List Oper} {o : Oper} {a : Act} {w : World} {Q : Exit -> Act -> World -> Prop}
theorem aMI (hgd : o.guard = none) (x : Operand) (ho : o.op = .load 104 x) {b : Nat} (hx : a.eval x = .pointer (some ⟨b, 0, none⟩)) (vs : List Value) (hl : vs.length = 11) (hg : w.heap[b]? = some (.cells vs.toArray tBd (0, 0)))
 (h : wpList prog ops Q rest (a.put o.dst (.agg vs.toArray)) w) : wpList prog ops Q (o :: rest) a w :=
 aL hgd _ x ho b 0 hx _ vs hg underlying104 rfl (by rw [hl]; exact iBd) (aM _) h
theorem aIq (hgd : o.guard = none) (x y : Operand) (ho : o.op = .store 104 x y) {b : Nat} (hx : a.eval x = .pointer (some ⟨b, 0, none⟩)) (vs us : List Value) (hl : vs.length = 11) (hu : us.length = 11) (h1 : ∀ v ∈ vs, v.oneCell' = true) (hy : a.eval y = .agg vs.toArray) (hg : w.heap[b]? = some (.cells us.toArray tBd (0, 0)))
 (h : wpList prog ops Q rest (a.put o.dst undef) (w.setRow b vs.toArray)) : wpList prog ops Q (o :: rest) a w := by
 refine aH hgd _ x y ho b 0 hx vs hy hg (by rw [hl]; exact iBd) (by simp [hl, hu]) h1 ?_
 rw [aV _ _ (by simp [hl, hu])]
 exact h
theorem aOO {fn : Func} {p : Tmp} (h : fn.results = #[.cell p 104]) (tmps : Array Value) (w : World) {b : Nat} (vs : List Value) (hl : vs.length = 11) (hp : tmps[p]? = some (.pointer (some ⟨b, 0, none⟩))) (hg : w.heap[b]? = some (.cells vs.toArray tBd (0, 0))) :
 (results fn tmps).run prog w = .ok (.agg vs.toArray) w :=
 aU h tmps w b 0 _ vs hp hg underlying104 rfl (by rw [hl]; exact iBd) (aM _)
end
def Bp.l11 (B : Bp) : List Value := [.pointer (some ⟨B.pc, 0, none⟩), .pointer (some ⟨B.pb, 0, none⟩), .pointer (some ⟨B.pd, 0, none⟩), .pointer (some ⟨B.ps, 0, none⟩), .pointer (some ⟨B.pr, 0, none⟩), .pointer (some ⟨B.pl, 0, none⟩), .int .i64 B.n, .int .i64 B.c, .int .u32 B.div, .pointer (some ⟨B.bp, 0, none⟩), B.ev]
def z11 : List Value := [.pointer none, .pointer none, .pointer none, .pointer none, .pointer none, .pointer none, .int .i64 0, .int .i64 0, .int .u32 0, .pointer none, .slice none 0 0]
theorem aHk (B : Bp) (he : B.ev.oneCell' = true) : ∀ v ∈ B.l11, v.oneCell' = true := by
 intro v hv
 simp only [Bp.l11, List.mem_cons, List.not_mem_nil, or_false] at hv
 rcases hv with rfl | rfl | rfl | rfl | rfl | rfl | rfl | rfl | rfl | rfl | rfl <;> first | rfl | exact he
theorem aCS {w : World} {T : TypeId} {v : Value} {es : List (Int × Int)} (h : gC w T v es) : v.oneCell' = true := by
 rcases fR h with ⟨rfl, _⟩ | ⟨g, cap, rfl, _⟩ <;> rfl
theorem kO (B : Bp) (x : Bx) (w : World) (H : bC w B x) :
 Calls prog 44 #[.pointer (some ⟨B.b, 0, none⟩)] w fun e w' => e = .returned (.agg #[.pointer (some ⟨B.pc, 0, none⟩), .pointer (some ⟨B.pb, 0, none⟩), .pointer (some ⟨B.pd, 0, none⟩), .pointer (some ⟨B.ps, 0, none⟩), .pointer (some ⟨B.pr, 0, none⟩), .pointer (some ⟨B.pl, 0, none⟩), .int .i64 B.n, .int .i64 B.c, .int .u32 B.div, .pointer (some ⟨B.bp, 0, none⟩), B.ev]) /\ Below w.heap.size w w' := by
 have hg : (w.alloc (.cells #[.pointer none, .pointer none, .pointer none, .pointer none, .pointer none, .pointer none, .int .i64 0, .int .i64 0, .int .u32 0, .pointer none, .slice none 0 0] 104)).heap[B.b]? = some (.cells B.l11.toArray tBd (0, 0)) := (aX w _ (lt_of_block H.cell)).trans H.cell
 have hz : (w.alloc (.cells #[.pointer none, .pointer none, .pointer none, .pointer none, .pointer none, .pointer none, .int .i64 0, .int .i64 0, .int .u32 0, .pointer none, .slice none 0 0] 104)).heap[w.heap.size]? = some (.cells z11.toArray tBd (0, 0)) := aD w _
 have h1 := aHk B (aCS H.ev)
 have hs := aT B.l11.toArray hz
 have hb := aB (aE (aI w) (.cells #[.pointer none, .pointer none, .pointer none, .pointer none, .pointer none, .pointer none, .int .i64 0, .int .i64 0, .int .u32 0, .pointer none, .slice none 0 0] 104)) B.l11.toArray (g := w.heap.size) (Nat.le_refl _)
 go_enter func44, ntmps44
 go_wp2_with (first | (refine aMI rfl (.tmp 7) rfl rfl B.l11 rfl hg ?_) | (refine aIq rfl (.tmp 2) (.tmp 8) rfl rfl B.l11 z11 rfl rfl h1 rfl hz ?_))
 exact bodyPost_ret (aOO rfl _ _ B.l11 rfl rfl hs) rfl ⟨rfl, hb⟩
theorem fB0 (a0 a1 a2 a3 a4 a5 a6 a7 a8 a9 a10 : Value) (w : World) : (Instr.field 104 (.agg #[a0, a1, a2, a3, a4, a5, a6, a7, a8, a9, a10]) 0).run prog w = .ok (.agg #[a0, a1, a2, a3, a4, a5]) w := by kernel_rfl
theorem fB2 (a0 a1 a2 a3 a4 a5 a6 a7 a8 a9 a10 : Value) (w : World) : (Instr.field 104 (.agg #[a0, a1, a2, a3, a4, a5, a6, a7, a8, a9, a10]) 2).run prog w = .ok a9 w := by kernel_rfl
theorem fB3 (a0 a1 a2 a3 a4 a5 a6 a7 a8 a9 a10 : Value) (w : World) : (Instr.field 104 (.agg #[a0, a1, a2, a3, a4, a5, a6, a7, a8, a9, a10]) 3).run prog w = .ok a10 w := by kernel_rfl
theorem fD0 (a0 a1 a2 a3 a4 a5 : Value) (w : World) : (Instr.field 76 (.agg #[a0, a1, a2, a3, a4, a5]) 0).run prog w = .ok a0 w := by kernel_rfl
theorem fD1 (a0 a1 a2 a3 a4 a5 : Value) (w : World) : (Instr.field 76 (.agg #[a0, a1, a2, a3, a4, a5]) 1).run prog w = .ok a1 w := by kernel_rfl
theorem fD2 (a0 a1 a2 a3 a4 a5 : Value) (w : World) : (Instr.field 76 (.agg #[a0, a1, a2, a3, a4, a5]) 2).run prog w = .ok a2 w := by kernel_rfl
theorem fD4 (a0 a1 a2 a3 a4 a5 : Value) (w : World) : (Instr.field 76 (.agg #[a0, a1, a2, a3, a4, a5]) 4).run prog w = .ok a4 w := by kernel_rfl
theorem fD5 (a0 a1 a2 a3 a4 a5 : Value) (w : World) : (Instr.field 76 (.agg #[a0, a1, a2, a3, a4, a5]) 5).run prog w = .ok a5 w := by kernel_rfl
theorem qJ {P : Prop} (h : P := by
 rintro e w2 ⟨rfl, rfl⟩
 go_wp2_with fail
 go_ret
 exact ⟨rfl, HB1.out⟩
 ) : P := h
theorem yK (B : Bp) (x : Bx) (w : World) (H : bC w B x) :
 Calls prog 20 #[.pointer (some ⟨B.b, 0, none⟩)] w fun e w' => e = .returned (.int .u64 x.ti) /\ Below w.heap.size w w' := by
 have hf0 := fB0
 have hf1 := fD0
 have HH := Hd H
 have HN := Hd (kO B x w H)
 clear H
 go_enter func20, ntmps20
 go_wp2_with fail
 refine (HN.out).mono ?_
 rintro e w1 ⟨rfl, hb1⟩
 have HH1 := Hd (HH.out.below hb1)
 have HB1 := Hd hb1
 clear hb1
 go_wp2_with fail
 refine (aJV _ _ _ _ B.pc B.mc _ HH1.out.dv.c).mono ?_
 exact qJ
theorem aDq (B : Bp) (x : Bx) (h : Int) (w : World) (H : bC w B x) :
 Calls prog 76 #[.pointer (some ⟨B.b, 0, none⟩), .int .i64 h] w fun e w' => e = .returned (.int .u64 (pM B.n x.D h)) /\ Below w.heap.size w w' := by
 have hf0 := fB0
 have hf1 := fD0
 have HH := Hd H
 have HN := Hd (kO B x w H)
 clear H
 go_enter func76, ntmps76
 go_wp2_with fail
 refine (HN.out).mono ?_
 rintro e w1 ⟨rfl, hb1⟩
 have HH1 := Hd (HH.out.below hb1)
 have HB1 := Hd hb1
 clear hb1
 go_wp2_with fail
 refine (aFq h _ _ _ _ B.pc B.mc _ HH1.out.dv.c).mono ?_
 exact qJ
theorem aKn (B : Bp) (x : Bx) (h : Int) (w : World) (H : bC w B x) :
 Calls prog 78 #[.pointer (some ⟨B.b, 0, none⟩), .int .i64 h] w fun e w' => e = .returned (.bool (yJ x.ti B.n x.D h)) /\ Below w.heap.size w w' := by
 have hf0 := fB0
 have hf1 := fD0
 have HH := Hd H
 have HN := Hd (kO B x w H)
 clear H
 go_enter func78, ntmps78
 go_wp2_with fail
 refine (HN.out).mono ?_
 rintro e w1 ⟨rfl, hb1⟩
 have HH1 := Hd (HH.out.below hb1)
 have HB1 := Hd hb1
 clear hb1
 go_wp2_with fail
 refine (aJt _ h _ _ _ B.pc B.mc _ HH1.out.dv.c).mono ?_
 rintro e w2 ⟨rfl, hb2⟩
 go_wp2_with fail
 go_ret
 exact ⟨rfl, tr HB1.out hb2⟩
theorem aME (B : Bp) (x : Bx) (w : World) (H : bC w B x) :
 Calls prog 72 #[.pointer (some ⟨B.b, 0, none⟩)] w fun e w' => e = .returned (.int .u32 (wires B.n B.c x)) /\ Below w.heap.size w w' := by
 have hf0 := fB0
 have hf1 := fD5
 have HH := Hd H
 have HN := Hd (kO B x w H)
 clear H
 go_enter func72, ntmps72
 go_wp2_with fail
 refine (HN.out).mono ?_
 rintro e w1 ⟨rfl, hb1⟩
 have HH1 := Hd (HH.out.below hb1)
 have HB1 := Hd hb1
 clear hb1
 go_wp2_with fail
 refine (aNo _ _ B.pl _ HH1.out.dv.l).mono ?_
 exact qJ
theorem aOH (B : Bp) (x : Bx) (w : World) (H : bC w B x) :
 Calls prog 74 #[.pointer (some ⟨B.b, 0, none⟩)] w fun e w' => e = .returned (.bool (aHK (wires B.n B.c x) x.msk)) /\ Below w.heap.size w w' := by
 have hf0 := fB0
 have hf1 := fD5
 have HH := Hd H
 have HN := Hd (kO B x w H)
 clear H
 go_enter func74, ntmps74
 go_wp2_with fail
 refine (HN.out).mono ?_
 rintro e w1 ⟨rfl, hb1⟩
 have HH1 := Hd (HH.out.below hb1)
 have HB1 := Hd hb1
 clear hb1
 go_wp2_with fail
 refine (aOx _ _ B.pl _ HH1.out.dv.l (dE _ _ _).1 (dE _ _ _).2 HH1.out.ok.m0 HH1.out.ok.m1).mono ?_
 rintro e w2 ⟨rfl, hb2⟩
 go_wp2_with fail
 go_ret
 exact ⟨rfl, tr HB1.out hb2⟩
theorem wJ {P : Prop} (h : P := by
 rintro e w2 ⟨rfl, a2, hb2⟩
 have HA := Hd a2
 have HB2 := Hd hb2
 clear a2 hb2
 go_wp2_with fail
 go_ret
 exact ⟨_, rfl, HA.out, tr HB1.out HB2.out⟩
 ) : P := h
theorem aMz (B : Bp) (x : Bx) (w : World) (H : bC w B x) :
 Calls prog 83 #[.pointer (some ⟨B.b, 0, none⟩)] w fun e w' => ∃ p', e = .returned (.pointer (some ⟨p', 0, none⟩)) /\ dT w' p' x.wd /\ Below w.heap.size w w' := by
 have hf0 := fB0
 have hf1 := fD2
 have HH := Hd H
 have HN := Hd (kO B x w H)
 clear H
 go_enter func83, ntmps83
 go_wp2_with fail
 refine (HN.out).mono ?_
 rintro e w1 ⟨rfl, hb1⟩
 have HH1 := Hd (HH.out.below hb1)
 have HB1 := Hd hb1
 clear hb1
 go_wp2_with fail
 refine (aJn _ B.pd _ HH1.out.dv.d).mono ?_
 exact wJ
theorem aM8 (B : Bp) (x : Bx) (w : World) (H : bC w B x) :
 Calls prog 85 #[.pointer (some ⟨B.b, 0, none⟩)] w fun e w' => ∃ p', e = .returned (.pointer (some ⟨p', 0, none⟩)) /\ cJ w' p' dB x.rk /\ Below w.heap.size w w' := by
 have hf0 := fB0
 have hf1 := fD4
 have HH := Hd H
 have HN := Hd (kO B x w H)
 clear H
 go_enter func85, ntmps85
 go_wp2_with fail
 refine (HN.out).mono ?_
 rintro e w1 ⟨rfl, hb1⟩
 have HH1 := Hd (HH.out.below hb1)
 have HB1 := Hd hb1
 clear hb1
 go_wp2_with fail
 refine (aJ8 _ B.pr _ HH1.out.dv.r).mono ?_
 exact wJ
theorem aLC (B : Bp) (x : Bx) (w : World) (H : bC w B x) :
 Calls prog 81 #[.pointer (some ⟨B.b, 0, none⟩)] w fun e w' => ∃ p' g' q', e = .returned (.pointer (some ⟨p', 0, none⟩)) /\ cI w' p' g' B.c q' x.tm /\ Below w.heap.size w w' := by
 have hf0 := fB0
 have hf1 := fD1
 have HH := Hd H
 have HN := Hd (kO B x w H)
 clear H
 go_enter func81, ntmps81
 go_wp2_with fail
 refine (HN.out).mono ?_
 rintro e w1 ⟨rfl, hb1⟩
 have HH1 := Hd (HH.out.below hb1)
 have HB1 := Hd hb1
 clear hb1
 go_wp2_with fail
 refine (aKA HH1.out.dv.b).mono ?_
 rintro e w2 ⟨p', g', q', rfl, a2, hb2, _⟩
 have HA := Hd a2
 have HB2 := Hd hb2
 clear a2 hb2
 go_wp2_with fail
 go_ret
 exact ⟨_, _, _, rfl, HA.out, tr HB1.out HB2.out⟩
theorem aG2 : (prog.info? 151).map (fun i => (i.zero, i.size, i.bytes)) = some (some (.agg #[.int .u64 0, .int .i64 0]), 2, 16) := by kernel_rfl
theorem aAT {w : World} {b : Nat} {e : TypeId} {n m : Nat} {v : Value} {xs : List Value} (h : w.ownsRow b e n v m xs) : w.ownsRow 0 e n v m xs := by
 refine ⟨h.1, ?_⟩
 rcases h.2 with h2 | ⟨g, cap, cur, rfl, h3, h4⟩
 . exact .inl h2
 . exact .inr ⟨g, cap, cur, rfl, Nat.zero_le _, h4⟩
theorem aDR (es : List (Int × Int)) : ∀ u ∈ es.flatMap yM, u.oneCell' = true := by
 intro u hu
 obtain ⟨x, _, hx⟩ := List.mem_flatMap.1 hu
 simp [yM] at hx
 rcases hx with rfl | rfl <;> rfl
theorem aHo (v : Value) (es : List (Int × Int)) (w : World) (H : gC w tEv v es) (hl : es.length < 4294967296) :
 Calls prog 135 #[v] w fun e w' => ∃ v', e = .returned v' /\ gC w' tEv v' es /\ Below w.heap.size w w' /\ (∀ k, v'.ownBlock = some k -> w.heap.size <= k) := by
 rcases fR H with ⟨h1, h2⟩ | ⟨g, cap, h1, h2, h3, _⟩
 . subst h1
   have hes : es = [] := List.eq_nil_of_length_eq_zero h2
   subst hes
   have hcon := AnyE.slices_Clone_nil Tryz.cloneEv 0 0 w
   change Calls prog 135 _ _ _ at hcon
   refine hcon.mono ?_
   rintro e w' ⟨rfl, rfl⟩
   exact ⟨_, rfl, aCR _ _, aI _, fun k hk => by cases hk⟩
 . subst h1
   obtain ⟨i0, hi, hz0, hz1, hz2⟩ := info_parts aG2
   have hcon := AnyE.slices_Clone Tryz.cloneEv i0 (.agg #[.int .u64 0, .int .i64 0]) 2 16 hi hz0 hz1 hz2 rfl (by decide) Tryz.sizeOf151 g 0 es.length cap (es.flatMap yM) w (iP _ 2 nG es) (by unfold maxLen; omega) (by omega)
    (fun j u hj => by
      have hjl : j < es.length * 2 := by
       have := (List.getElem?_eq_some_iff.1 hj).1
       rwa [iP yM 2 nG] at this
      rw [Nat.zero_add, World.ownsRow.cellAt H j hjl]; exact hj)
    (aDR es)
   change Calls prog 135 _ _ _ at hcon
   refine hcon.mono ?_
   rintro e w' ⟨v', rfl, hown, hne, hb⟩
   exact ⟨_, rfl, aAT hown, hb, fun k hk => (World.ownsRow.lt hown k hk).1⟩
theorem aAd (B : Bp) (x : Bx) (w : World) (H : bC w B x) (hl : x.es.length < 4294967296) :
 Calls prog 70 #[.pointer (some ⟨B.b, 0, none⟩)] w fun e w' => ∃ v', e = .returned v' /\ gC w' tEv v' x.es /\ Below w.heap.size w w' /\ (∀ k, v'.ownBlock = some k -> w.heap.size <= k) := by
 have hf0 := fB3
 have HH := Hd H
 have HN := Hd (kO B x w H)
 clear H
 go_enter func70, ntmps70
 go_wp2_with fail
 refine (HN.out).mono ?_
 rintro e w1 ⟨rfl, hb1⟩
 have HH1 := Hd (HH.out.below hb1)
 have HB1 := Hd hb1
 clear hb1
 go_wp2_with fail
 refine (aHo B.ev x.es _ HH1.out.ev hl).mono ?_
 rintro e w2 ⟨v', rfl, h2, hb2, hn⟩
 have HE := Hd h2
 have HB2 := Hd hb2
 have HN2 := Hd hn
 clear h2 hb2 hn
 go_wp2_with fail
 go_ret
 exact ⟨_, rfl, HE.out, tr HB1.out HB2.out, fun k hk => Nat.le_trans HB1.out.size (HN2.out k hk)⟩
end Go.Proofs.YtpojmmgokgamgaaGreat.B
