/- A part of the proof of a law of layer 12: ar. -/
import Derived.Test.YtaohacadochldaaGreatZNaq
import Derived.Test.YtaohacadochldaaGreatZNDLay
set_option linter.unusedVariables false
set_option linter.unusedSimpArgs false
set_option maxHeartbeats 12800000
set_option maxRecDepth 100000
namespace Go.Proofs.YtaohacadochldaaGreat.B
open Go.Proofs.Tryz
open Go.ChangeShapes Go.WideShapes Go.RowKit Go.Sort
theorem dL (L : Int -> List Su) (x : Su) (k : Int) (h0 : x.b / 16777216 = k) (h1 : (x.b + (x.s - 1)) / 16777216 = k) (u : Int) : dO L x u = if u = k then L u ++ [x] else L u := by
 unfold dO
 rw [h0, h1]
 by_cases h : u = k
 . rw [if_pos h, if_pos (by omega)]
 . rw [if_neg h, if_neg (by omega)]
theorem fZ (B : Bp) (u : Int) : iM B u = if u = 2 then [kA B] else if u = 16 then [dS B, eD B, eY B, gQ B, kB B] else [] := by
 unfold iM
 rw [dL _ (kB B) 16 (show (268763136 : Int) / 16777216 = 16 by decide) (show ((268763136 : Int) + (12 - 1)) / 16777216 = 16 by decide)]
 rw [dL _ (gQ B) 16 (show (268697600 : Int) / 16777216 = 16 by decide) (show ((268697600 : Int) + (36 - 1)) / 16777216 = 16 by decide)]
 rw [dL _ (eY B) 16 (show (268632064 : Int) / 16777216 = 16 by decide) (show ((268632064 : Int) + (16 - 1)) / 16777216 = 16 by decide)]
 rw [dL _ (eD B) 16 (show (268566528 : Int) / 16777216 = 16 by decide) (show ((268566528 : Int) + (20 - 1)) / 16777216 = 16 by decide)]
 rw [dL _ (dS B) 16 (show (268500992 : Int) / 16777216 = 16 by decide) (show ((268500992 : Int) + (256 - 1)) / 16777216 = 16 by decide)]
 rw [dL _ (kA B) 2 (show (33554432 : Int) / 16777216 = 2 by decide) (show ((33554432 : Int) + (49152 - 1)) / 16777216 = 2 by decide)]
 by_cases h2 : u = 2
 . subst h2; simp
 . by_cases h16 : u = 16
   . subst h16; simp
   . simp [h2, h16]
theorem vX (B : Bp) (a : Int) (h0 : 33554432 <= a) (h1 : a < 33603584) : bS a (iM B (a / 16777216)) = (.agg #[.int .u32 33554432, .int .u32 49152, .iface 110 (dM B.pc)], 0) := by
 rw [show a / 16777216 = 2 by omega, fZ]
 rw [if_pos rfl]
 unfold bS
 rw [List.find?_cons, show cE (kA B).b (kA B).s a = true from decide_eq_true (show (33554432 : Int) <= a /\ a - 33554432 < 49152 by omega)]
 rfl
theorem vW (B : Bp) (a : Int) (h0 : 268500992 <= a) (h1 : a < 268501248) : bS a (iM B (a / 16777216)) = (.agg #[.int .u32 268500992, .int .u32 256, .iface 111 (dM B.pb)], 0) := by
 rw [show a / 16777216 = 16 by omega, fZ]
 rw [if_neg (by decide), if_pos rfl]
 unfold bS
 rw [List.find?_cons, show cE (dS B).b (dS B).s a = true from decide_eq_true (show (268500992 : Int) <= a /\ a - 268500992 < 256 by omega)]
 rfl
theorem vY (B : Bp) (a : Int) (h0 : 268566528 <= a) (h1 : a < 268566548) : bS a (iM B (a / 16777216)) = (.agg #[.int .u32 268566528, .int .u32 20, .iface 112 (dM B.pd)], 0) := by
 rw [show a / 16777216 = 16 by omega, fZ]
 rw [if_neg (by decide), if_pos rfl]
 unfold bS
 rw [List.find?_cons, show cE (dS B).b (dS B).s a = false from decide_eq_false (show ¬ ((268500992 : Int) <= a /\ a - 268500992 < 256) by omega)]
 simp only
 rw [List.find?_cons, show cE (eD B).b (eD B).s a = true from decide_eq_true (show (268566528 : Int) <= a /\ a - 268566528 < 20 by omega)]
 rfl
theorem wC (B : Bp) (a : Int) (h0 : 268632064 <= a) (h1 : a < 268632080) : bS a (iM B (a / 16777216)) = (.agg #[.int .u32 268632064, .int .u32 16, .iface 113 (dM B.ps)], 0) := by
 rw [show a / 16777216 = 16 by omega, fZ]
 rw [if_neg (by decide), if_pos rfl]
 unfold bS
 rw [List.find?_cons, show cE (dS B).b (dS B).s a = false from decide_eq_false (show ¬ ((268500992 : Int) <= a /\ a - 268500992 < 256) by omega)]
 simp only
 rw [List.find?_cons, show cE (eD B).b (eD B).s a = false from decide_eq_false (show ¬ ((268566528 : Int) <= a /\ a - 268566528 < 20) by omega)]
 simp only
 rw [List.find?_cons, show cE (eY B).b (eY B).s a = true from decide_eq_true (show (268632064 : Int) <= a /\ a - 268632064 < 16 by omega)]
 rfl
theorem wB (B : Bp) (a : Int) (h0 : 268697600 <= a) (h1 : a < 268697636) : bS a (iM B (a / 16777216)) = (.agg #[.int .u32 268697600, .int .u32 36, .iface 114 (dM B.pr)], 0) := by
 rw [show a / 16777216 = 16 by omega, fZ]
 rw [if_neg (by decide), if_pos rfl]
 unfold bS
 rw [List.find?_cons, show cE (dS B).b (dS B).s a = false from decide_eq_false (show ¬ ((268500992 : Int) <= a /\ a - 268500992 < 256) by omega)]
 simp only
 rw [List.find?_cons, show cE (eD B).b (eD B).s a = false from decide_eq_false (show ¬ ((268566528 : Int) <= a /\ a - 268566528 < 20) by omega)]
 simp only
 rw [List.find?_cons, show cE (eY B).b (eY B).s a = false from decide_eq_false (show ¬ ((268632064 : Int) <= a /\ a - 268632064 < 16) by omega)]
 simp only
 rw [List.find?_cons, show cE (gQ B).b (gQ B).s a = true from decide_eq_true (show (268697600 : Int) <= a /\ a - 268697600 < 36 by omega)]
 rfl
theorem vZ (B : Bp) (a : Int) (h0 : 268763136 <= a) (h1 : a < 268763148) : bS a (iM B (a / 16777216)) = (.agg #[.int .u32 268763136, .int .u32 12, .iface 115 (dM B.pl)], 0) := by
 rw [show a / 16777216 = 16 by omega, fZ]
 rw [if_neg (by decide), if_pos rfl]
 unfold bS
 rw [List.find?_cons, show cE (dS B).b (dS B).s a = false from decide_eq_false (show ¬ ((268500992 : Int) <= a /\ a - 268500992 < 256) by omega)]
 simp only
 rw [List.find?_cons, show cE (eD B).b (eD B).s a = false from decide_eq_false (show ¬ ((268566528 : Int) <= a /\ a - 268566528 < 20) by omega)]
 simp only
 rw [List.find?_cons, show cE (eY B).b (eY B).s a = false from decide_eq_false (show ¬ ((268632064 : Int) <= a /\ a - 268632064 < 16) by omega)]
 simp only
 rw [List.find?_cons, show cE (gQ B).b (gQ B).s a = false from decide_eq_false (show ¬ ((268697600 : Int) <= a /\ a - 268697600 < 36) by omega)]
 simp only
 rw [List.find?_cons, show cE (kB B).b (kB B).s a = true from decide_eq_true (show (268763136 : Int) <= a /\ a - 268763136 < 12 by omega)]
 rfl
theorem wA (B : Bp) (a : Int) (h : ¬ (33554432 <= a /\ a < 33603584) /\ ¬ (268500992 <= a /\ a < 268501248) /\ ¬ (268566528 <= a /\ a < 268566548) /\ ¬ (268632064 <= a /\ a < 268632080) /\ ¬ (268697600 <= a /\ a < 268697636) /\ ¬ (268763136 <= a /\ a < 268763148)) : bS a (iM B (a / 16777216)) = (bC, 10) := by
 obtain ⟨n1, n2, n3, n4, n5, n6⟩ := h
 rw [fZ]
 by_cases h2 : a / 16777216 = 2
 . rw [if_pos h2]
   unfold bS
   rw [List.find?_cons, show cE (kA B).b (kA B).s a = false from decide_eq_false (show ¬ ((33554432 : Int) <= a /\ a - 33554432 < 49152) by omega)]
   rfl
 . rw [if_neg h2]
   by_cases h16 : a / 16777216 = 16
   . rw [if_pos h16]
     unfold bS
     rw [List.find?_cons, show cE (dS B).b (dS B).s a = false from decide_eq_false (show ¬ ((268500992 : Int) <= a /\ a - 268500992 < 256) by omega)]
     simp only
     rw [List.find?_cons, show cE (eD B).b (eD B).s a = false from decide_eq_false (show ¬ ((268566528 : Int) <= a /\ a - 268566528 < 20) by omega)]
     simp only
     rw [List.find?_cons, show cE (eY B).b (eY B).s a = false from decide_eq_false (show ¬ ((268632064 : Int) <= a /\ a - 268632064 < 16) by omega)]
     simp only
     rw [List.find?_cons, show cE (gQ B).b (gQ B).s a = false from decide_eq_false (show ¬ ((268697600 : Int) <= a /\ a - 268697600 < 36) by omega)]
     simp only
     rw [List.find?_cons, show cE (kB B).b (kB B).s a = false from decide_eq_false (show ¬ ((268763136 : Int) <= a /\ a - 268763136 < 12) by omega)]
     simp only
     rfl
   . rw [if_neg h16]; rfl
theorem wL (h m o v : Int) (p : Nat) (w : World) (a : eO w p h m) (o0 : 0 <= o) (o1 : o < 4294967296) :
 Calls prog 305 #[.pointer (some ⟨p, 0, none⟩), .int .u32 o, .int .u32 v] w fun e w' => e = .returned (.int .i64 (pG o)) /\ eO w' p h (if o = 4 then v else m) /\ aD (· = p) w w' := by
 by_cases h4 : o = 4
 . subst h4
   rw [if_pos rfl]
   exact (aBb h m v p w a).mono (by rintro e w' ⟨rfl, rfl⟩; exact ⟨rfl, a.set1 v, aG _ _ _ _⟩)
 . rw [if_neg h4]
   exact (wM h m o v p w a o0 o1 h4).mono (by rintro e w' ⟨rfl, rfl⟩; exact ⟨rfl, a, aD.refl _ _⟩)
theorem wV {w : World} {B : Bp} {x : Bx} {h v : Int} {c : Prop} [Decidable c] (H : aL w B { x with msk := if c then v else x.msk } h) : aL w B (if c then { x with msk := v } else x) h := by
 by_cases hc : c
 . rw [if_pos hc] at H ⊢; exact H
 . rw [if_neg hc] at H ⊢; exact H
section
variable {w w' : World} {B : Bp} {x : Bx}
theorem aS.bpNo (H : aS w B x) : (∀ k, B.dvs k -> k ≠ B.bp) /\ B.mc ≠ B.bp := by
 refine ⟨fun k hk e => H.busApart (.inl rfl) (.inr (.inl (e ▸ hk))), fun e => ?_⟩
 have := fY H.dv.c.map
 rw [e, bA H.bus.cell] at this; cases this
theorem aS.atBus (H : aS w B x) (ho : aD (· = B.bp) w w') : aL w' B x (wires B.n B.c x) :=
 H.dv.off ho H.bpNo.1 H.bpNo.2
theorem aS.atBus2 (H : aS w B x) (ho : aD (fun k => k = B.bp \/ w.heap.size <= k) w w') : aL w' B x (wires B.n B.c x) :=
 H.dv.off ho (fun k hk h => h.elim (H.bpNo.1 k hk) (fun h => by have := H.dv.lt hk; omega)) (fun h => h.elim H.bpNo.2 (fun h => by have := H.dv.ltm; omega))
theorem eA {w u u' : World} {B : Bp} {y : Bx} {h : Int} (hn : ∀ k, B.dvs k -> k ≠ B.bp) (hm : B.mc ≠ B.bp) (hl : ∀ k, B.dvs k -> k < w.heap.size) (hlm : B.mc < w.heap.size) (H : aL u B y h) (ho : aD (fun k => k = B.bp \/ w.heap.size <= k) u u') : aL u' B y h :=
 H.off ho (fun k hk e => e.elim (hn k hk) (fun e => by have := hl k hk; omega)) (fun e => e.elim hm (fun e => by omega))
theorem wU {n c : Nat} {x : Bx} {a : Int} (a0 : 0 <= a) (h : Bx.lde n c a ≠ 0) : x.ldv n c a = 0 := by
 unfold Bx.lde at h
 unfold Bx.ldv
 rcases rH a with ⟨_, e⟩ | ⟨_, _, _, e⟩ | ⟨_, _, _, e⟩ | ⟨_, _, _, e⟩ | ⟨_, _, _, e⟩ | ⟨_, _, _, e⟩ | ⟨_, _, _, e⟩ | ⟨_, _, e⟩ <;> rw [e] at h <;> rw [e] <;> simp only at h ⊢
 . exact mT h
 . rename_i h4 h0 h1
   unfold rR at h
   unfold zX
   by_cases hk : eH c (a - 268500992) = 0
   . rw [if_pos hk] at h; rw [if_pos hk]; unfold Tm.val; rw [if_neg h]
   . rw [if_neg hk]
 . exact Wd.val_none (by omega) h
 . unfold jZ; rw [if_neg h]
 . unfold Rk.valE; rw [if_neg h]
 . unfold wN; rw [if_neg h]
theorem sO (a : Int) (H : aS w B x) (a0 : 0 <= a) (a1 : a < 4294967296) :
 Calls prog 134 #[.pointer (some ⟨B.bp, 0, none⟩), .int .u32 a] w fun e w' => e = .returned (.tuple #[.int .u32 (x.ldv B.n B.c a), .int .i64 (Bx.lde B.n B.c a)]) /\ Below w.heap.size w w' := by
 have hz : Bx.lde B.n B.c a ≠ 0 -> x.ldv B.n B.c a = 0 := wU a0
 have hend : ∀ {w'}, aD (fun _ => False) w w' -> Below w.heap.size w w' := fun h => h.below (fun _ _ h => h) (Nat.le_refl _)
 unfold Bx.lde at hz ⊢
 unfold Bx.ldv at hz ⊢
 rcases rH a with ⟨h4, e⟩ | ⟨h4, h0, h1, e⟩ | ⟨h4, h0, h1, e⟩ | ⟨h4, h0, h1, e⟩ | ⟨h4, h0, h1, e⟩ | ⟨h4, h0, h1, e⟩ | ⟨h4, h0, h1, e⟩ | ⟨h4, h, e⟩ <;> rw [e] at hz ⊢ <;> simp only at hz ⊢
 . exact pS _ a 11 w (by decide) fun w' _ => pR a _ w' a0 (by simpa using h4)
 . exact (mK B.bp B.bm B.rv B.R B.ks B.pv (iM B) a 33554432 49152 _ _ 110 (dM B.pc) 268 (fun _ => False) (fun _ => True) w a0 a1 (by simpa using h4) H.bus hz (fun _ _ => by unfold dM; kernel_rfl) (enters_of func268 (by kernel_rfl) rfl) (vX B a h0 h1) (by decide) h0 (fun h => h) (fun _ h => h.elim)
    (fun w' ho => (aCZ _ _ _ _ _ B.pc B.mc w' (H.atBus ho).c (by omega) (by omega)).mono fun e w'' h => ⟨h.1, aD.ofBelow h.2, trivial⟩) (fun _ _ _ _ => trivial)).mono fun e w' h => ⟨h.1, hend h.2.1⟩
 . exact (mK B.bp B.bm B.rv B.R B.ks B.pv (iM B) a 268500992 256 _ _ 111 (dM B.pb) 275 (fun _ => False) (fun _ => True) w a0 a1 (by simpa using h4) H.bus hz (fun _ _ => by unfold dM; kernel_rfl) (enters_of func275 (by kernel_rfl) rfl) (vW B a h0 h1) (by decide) h0 (fun h => h) (fun _ h => h.elim)
    (fun w' ho => (aCU (H.atBus ho).b _ (by omega) (by omega)).mono fun e w'' h => ⟨h.1, h.2 ▸ aD.refl _ _, trivial⟩) (fun _ _ _ _ => trivial)).mono fun e w' h => ⟨h.1, hend h.2.1⟩
 . exact (mK B.bp B.bm B.rv B.R B.ks B.pv (iM B) a 268566528 20 _ _ 112 (dM B.pd) 160 (fun _ => False) (fun _ => True) w a0 a1 (by simpa using h4) H.bus hz (fun _ _ => by unfold dM; kernel_rfl) (enters_of func160 (by kernel_rfl) rfl) (vY B a h0 h1) (by decide) h0 (fun h => h) (fun _ h => h.elim)
    (fun w' ho => (aCh x.wd _ B.pd w' H.ok.wd (H.atBus ho).d (by omega) (by omega)).mono fun e w'' h => ⟨h.1, aD.ofBelow h.2, trivial⟩) (fun _ _ _ _ => trivial)).mono fun e w' h => ⟨h.1, hend h.2.1⟩
 . exact (mK B.bp B.bm B.rv B.R B.ks B.pv (iM B) a 268632064 16 _ _ 113 (dM B.ps) 292 (fun _ => False) (fun _ => True) w a0 a1 (by simpa using h4) H.bus hz (fun _ _ => by unfold dM; kernel_rfl) (enters_of func292 (by kernel_rfl) rfl) (wC B a h0 h1) (by decide) h0 (fun h => h) (fun _ h => h.elim)
    (fun w' ho => (aB0 x.rs _ B.ps w' H.ok.rs (H.atBus ho).s (by omega) (by omega)).mono fun e w'' h => ⟨h.1, aD.ofBelow h.2, trivial⟩) (fun _ _ _ _ => trivial)).mono fun e w' h => ⟨h.1, hend h.2.1⟩
 . exact (mK B.bp B.bm B.rv B.R B.ks B.pv (iM B) a 268697600 36 _ _ 114 (dM B.pr) 166 (fun _ => False) (fun _ => True) w a0 a1 (by simpa using h4) H.bus hz (fun _ _ => by unfold dM; kernel_rfl) (enters_of func166 (by kernel_rfl) rfl) (wB B a h0 h1) (by decide) h0 (fun h => h) (fun _ h => h.elim)
    (fun w' ho => (aCm x.rk _ B.pr w' H.ok.rk (H.atBus ho).r (by omega) (by omega)).mono fun e w'' h => ⟨h.1, aD.ofBelow h.2, trivial⟩) (fun _ _ _ _ => trivial)).mono fun e w' h => ⟨h.1, hend h.2.1⟩
 . exact (mK B.bp B.bm B.rv B.R B.ks B.pv (iM B) a 268763136 12 _ _ 115 (dM B.pl) 303 (fun _ => False) (fun _ => True) w a0 a1 (by simpa using h4) H.bus hz (fun _ _ => by unfold dM; kernel_rfl) (enters_of func303 (by kernel_rfl) rfl) (vZ B a h0 h1) (by decide) h0 (fun h => h) (fun _ h => h.elim)
    (fun w' ho => (aCu _ _ _ B.pl w' (H.atBus ho).l (by omega) (by omega)).mono fun e w'' h => ⟨h.1, aD.ofBelow h.2, trivial⟩) (fun _ _ _ _ => trivial)).mono fun e w' h => ⟨h.1, hend h.2.1⟩
 . exact pS _ a 10 w (by decide) fun w' hb => yR a _ _ B.bp B.bm B.rv B.R B.ks B.pv (iM B) w' a0 a1 (by simpa using h4) (H.bus.ofBelow hb) (wA B a h)
theorem fV (a v : Int) (H : aS w B x) (a0 : 0 <= a) (a1 : a < 4294967296) (v0 : 0 <= v) (v1 : v < 4294967296) :
 Calls prog 59 #[.pointer (some ⟨B.bp, 0, none⟩), .int .u32 a, .int .u32 v] w fun e w' => e = .returned (.int .i64 (Bx.ste B.n B.c a)) /\ aD B.dvs w w' /\ aL w' B (x.put B.n B.c a v) (wires B.n B.c x) := by
 have hn := H.bpNo
 have hl : ∀ k, B.dvs k -> k < w.heap.size := fun k hk => H.dv.lt hk
 have hlm := H.dv.ltm
 unfold Bx.ste Bx.put
 rcases rH a with ⟨h4, e⟩ | ⟨h4, h0, h1, e⟩ | ⟨h4, h0, h1, e⟩ | ⟨h4, h0, h1, e⟩ | ⟨h4, h0, h1, e⟩ | ⟨h4, h0, h1, e⟩ | ⟨h4, h0, h1, e⟩ | ⟨h4, h, e⟩ <;> rw [e] <;> simp only
 . exact (mO _ a 11 v w (by decide) fun w' _ => pR a _ w' a0 (by simpa using h4)).mono fun e w' h => ⟨h.1, aD.ofBelow h.2, H.dv.below h.2⟩
 . exact (iK B.bp B.bm B.rv B.R B.ks B.pv (iM B) a 33554432 49152 v _ 110 (dM B.pc) 269 B.dvs (fun u => aL u B ({ x with D := dE B.n x.D (a - 33554432) v, S := dF B.n x.S (a - 33554432) v }) (wires B.n B.c x)) w a0 a1 (by simpa using h4) H.bus (fun _ _ => by unfold dM; kernel_rfl) (enters_of func269 (by kernel_rfl) rfl) (vX B a h0 h1) (by decide) h0 (fun h => hn.1 _ h rfl) hl
    (fun w' ho => (aBC _ v _ _ _ _ B.pc B.mc w' (H.atBus2 ho).c (by omega) (by omega) v0 v1).mono fun e w'' h => ⟨h.1, xH h.2.2, (H.atBus2 ho).turnC h.2.1 h.2.2⟩) (fun u u' hu ho => eA hn.1 hn.2 hl hlm hu ho))
 . exact (iK B.bp B.bm B.rv B.R B.ks B.pv (iM B) a 268500992 256 v _ 111 (dM B.pb) 277 B.dvs (fun u => aL u B ({ x with tm := nC B.c x.tm (a - 268500992) v }) (wires B.n B.c x)) w a0 a1 (by simpa using h4) H.bus (fun _ _ => by unfold dM; kernel_rfl) (enters_of func277 (by kernel_rfl) rfl) (vW B a h0 h1) (by decide) h0 (fun h => hn.1 _ h rfl) hl
    (fun w' ho => (aA2 (H.atBus2 ho).b _ v (by omega) (by omega) v0 v1).mono fun e w'' h => ⟨h.1, xG h.2.2, (H.atBus2 ho).turnB h.2.1 h.2.2⟩) (fun u u' hu ho => eA hn.1 hn.2 hl hlm hu ho))
 . exact (iK B.bp B.bm B.rv B.R B.ks B.pv (iM B) a 268566528 20 v _ 112 (dM B.pd) 287 B.dvs (fun u => aL u B ({ x with wd := x.wd.sto (a - 268566528) v }) (wires B.n B.c x)) w a0 a1 (by simpa using h4) H.bus (fun _ _ => by unfold dM; kernel_rfl) (enters_of func287 (by kernel_rfl) rfl) (vY B a h0 h1) (by decide) h0 (fun h => hn.1 _ h rfl) hl
    (fun w' ho => (aBJ x.wd _ v B.pd w' H.ok.wd (H.atBus2 ho).d (by omega) (by omega) v0 v1).mono fun e w'' h => ⟨h.1, aAD h.2.2, (H.atBus2 ho).turnD h.2.1 h.2.2⟩) (fun u u' hu ho => eA hn.1 hn.2 hl hlm hu ho))
 . exact (iK B.bp B.bm B.rv B.R B.ks B.pv (iM B) a 268632064 16 v _ 113 (dM B.ps) 293 B.dvs (fun u => aL u B ({ x with rs := x.rs.sto (a - 268632064) v }) (wires B.n B.c x)) w a0 a1 (by simpa using h4) H.bus (fun _ _ => by unfold dM; kernel_rfl) (enters_of func293 (by kernel_rfl) rfl) (wC B a h0 h1) (by decide) h0 (fun h => hn.1 _ h rfl) hl
    (fun w' ho => (aAP x.rs _ v B.ps w' H.ok.rs (H.atBus2 ho).s (by omega) (by omega) v0 v1).mono fun e w'' h => ⟨h.1, aC3 h.2.2, (H.atBus2 ho).turnS h.2.1 h.2.2⟩) (fun u u' hu ho => eA hn.1 hn.2 hl hlm hu ho))
 . exact (iK B.bp B.bm B.rv B.R B.ks B.pv (iM B) a 268697600 36 v _ 114 (dM B.pr) 296 B.dvs (fun u => aL u B ({ x with rk := x.rk.sto (a - 268697600) v }) (wires B.n B.c x)) w a0 a1 (by simpa using h4) H.bus (fun _ _ => by unfold dM; kernel_rfl) (enters_of func296 (by kernel_rfl) rfl) (wB B a h0 h1) (by decide) h0 (fun h => hn.1 _ h rfl) hl
    (fun w' ho => (aBP x.rk _ v B.pr w' H.ok.rk (H.atBus2 ho).r (by omega) (by omega) v0 v1).mono fun e w'' h => ⟨h.1, xI h.2.2, (H.atBus2 ho).turnR h.2.1 h.2.2⟩) (fun u u' hu ho => eA hn.1 hn.2 hl hlm hu ho))
 . exact (iK B.bp B.bm B.rv B.R B.ks B.pv (iM B) a 268763136 12 v _ 115 (dM B.pl) 305 B.dvs (fun u => aL u B (if a - 268763136 = 4 then { x with msk := v } else x) (wires B.n B.c x)) w a0 a1 (by simpa using h4) H.bus (fun _ _ => by unfold dM; kernel_rfl) (enters_of func305 (by kernel_rfl) rfl) (vZ B a h0 h1) (by decide) h0 (fun h => hn.1 _ h rfl) hl
    (fun w' ho => (wL _ _ _ v B.pl w' (H.atBus2 ho).l (by omega) (by omega)).mono fun e w'' h => ⟨h.1, jT h.2.2, wV ((H.atBus2 ho).turnL h.2.1 h.2.2)⟩) (fun u u' hu ho => eA hn.1 hn.2 hl hlm hu ho))
 . exact (mO _ a 10 v w (by decide) fun w' hb => yR a _ _ B.bp B.bm B.rv B.R B.ks B.pv (iM B) w' a0 a1 (by simpa using h4) (H.bus.ofBelow hb) (wA B a h)).mono fun e w' h => ⟨h.1, aD.ofBelow h.2, H.dv.below h.2⟩
end
end Go.Proofs.YtaohacadochldaaGreat.B
namespace Go.Proofs.YtaohacadochldaaGreat.B
open Go.Proofs.Tryz
open Go.ChangeShapes Go.WideShapes Go.RowKit Go.Sort Go.Shelf
theorem iBd : (prog.info? 121).map (·.size) = some 11 := by kernel_rfl
section
variable {ops : Array Oper} {rest : List Oper} {o : Oper} {a : Act} {w : World} {Q : Exit -> Act -> World -> Prop}
theorem aBd (hgd : o.guard = none) (x : Operand) (ho : o.op = .load 121 x) {b : Nat} (hx : a.eval x = .pointer (some ⟨b, 0, none⟩)) (vs : List Value) (hl : vs.length = 11) (hg : w.heap[b]? = some (.cells vs.toArray yO (0, 0)))
 (h : wpList prog ops Q rest (a.put o.dst (.agg vs.toArray)) w) : wpList prog ops Q (o :: rest) a w :=
 cA hgd _ x ho b 0 hx _ vs hg underlying121 rfl (by rw [hl]; exact iBd) (bK _) h
theorem aAX (hgd : o.guard = none) (x y : Operand) (ho : o.op = .store 121 x y) {b : Nat} (hx : a.eval x = .pointer (some ⟨b, 0, none⟩)) (vs us : List Value) (hl : vs.length = 11) (hu : us.length = 11) (h1 : ∀ v ∈ vs, v.oneCell' = true) (hy : a.eval y = .agg vs.toArray) (hg : w.heap[b]? = some (.cells us.toArray yO (0, 0)))
 (h : wpList prog ops Q rest (a.put o.dst undef) (w.setRow b vs.toArray)) : wpList prog ops Q (o :: rest) a w := by
 refine aW hgd _ x y ho b 0 hx vs hy hg (by rw [hl]; exact iBd) (by simp [hl, hu]) h1 ?_
 rw [cJ _ _ (by simp [hl, hu])]
 exact h
theorem aDB {fn : Func} {p : Tmp} (h : fn.results = #[.cell p 121]) (tmps : Array Value) (w : World) {b : Nat} (vs : List Value) (hl : vs.length = 11) (hp : tmps[p]? = some (.pointer (some ⟨b, 0, none⟩))) (hg : w.heap[b]? = some (.cells vs.toArray yO (0, 0))) :
 (results fn tmps).run prog w = .ok (.agg vs.toArray) w :=
 bL h tmps w b 0 _ vs hp hg underlying121 rfl (by rw [hl]; exact iBd) (bK _)
end
def Bp.l11 (B : Bp) : List Value := [.pointer (some ⟨B.pc, 0, none⟩), .pointer (some ⟨B.pb, 0, none⟩), .pointer (some ⟨B.pd, 0, none⟩), .pointer (some ⟨B.ps, 0, none⟩), .pointer (some ⟨B.pr, 0, none⟩), .pointer (some ⟨B.pl, 0, none⟩), .int .i64 B.n, .int .i64 B.c, .int .u32 B.div, .pointer (some ⟨B.bp, 0, none⟩), B.ev]
def z11 : List Value := [.pointer none, .pointer none, .pointer none, .pointer none, .pointer none, .pointer none, .int .i64 0, .int .i64 0, .int .u32 0, .pointer none, .slice none 0 0]
theorem aAA (B : Bp) (he : B.ev.oneCell' = true) : ∀ v ∈ B.l11, v.oneCell' = true := by
 intro v hv
 simp only [Bp.l11, List.mem_cons, List.not_mem_nil, or_false] at hv
 rcases hv with rfl | rfl | rfl | rfl | rfl | rfl | rfl | rfl | rfl | rfl | rfl <;> first | rfl | exact he
theorem aBV {w : World} {T : TypeId} {v : Value} {es : List (Int × Int)} (h : fN w T v es) : v.oneCell' = true := by
 rcases eX h with ⟨rfl, _⟩ | ⟨g, cap, rfl, _⟩ <;> rfl
theorem oB (B : Bp) (x : Bx) (w : World) (H : aS w B x) :
 Calls prog 52 #[.pointer (some ⟨B.b, 0, none⟩)] w fun e w' => e = .returned (.agg #[.pointer (some ⟨B.pc, 0, none⟩), .pointer (some ⟨B.pb, 0, none⟩), .pointer (some ⟨B.pd, 0, none⟩), .pointer (some ⟨B.ps, 0, none⟩), .pointer (some ⟨B.pr, 0, none⟩), .pointer (some ⟨B.pl, 0, none⟩), .int .i64 B.n, .int .i64 B.c, .int .u32 B.div, .pointer (some ⟨B.bp, 0, none⟩), B.ev]) /\ Below w.heap.size w w' := by
 have hg : (w.alloc (.cells #[.pointer none, .pointer none, .pointer none, .pointer none, .pointer none, .pointer none, .int .i64 0, .int .i64 0, .int .u32 0, .pointer none, .slice none 0 0] 121)).heap[B.b]? = some (.cells B.l11.toArray yO (0, 0)) := (aJ w _ (lt_of_block H.cell)).trans H.cell
 have hz : (w.alloc (.cells #[.pointer none, .pointer none, .pointer none, .pointer none, .pointer none, .pointer none, .int .i64 0, .int .i64 0, .int .u32 0, .pointer none, .slice none 0 0] 121)).heap[w.heap.size]? = some (.cells z11.toArray yO (0, 0)) := aF w _
 have h1 := aAA B (aBV H.ev)
 have hs := dJ B.l11.toArray hz
 have hb := aM (aO (aT w) (.cells #[.pointer none, .pointer none, .pointer none, .pointer none, .pointer none, .pointer none, .int .i64 0, .int .i64 0, .int .u32 0, .pointer none, .slice none 0 0] 121)) B.l11.toArray (g := w.heap.size) (Nat.le_refl _)
 go_enter func52, ntmps52
 go_wp2_with (first | (refine aBd rfl (.tmp 7) rfl rfl B.l11 rfl hg ?_) | (refine aAX rfl (.tmp 2) (.tmp 8) rfl rfl B.l11 z11 rfl rfl h1 rfl hz ?_))
 exact bodyPost_ret (aDB rfl _ _ B.l11 rfl rfl hs) rfl ⟨rfl, hb⟩
theorem fB0 (a0 a1 a2 a3 a4 a5 a6 a7 a8 a9 a10 : Value) (w : World) : (Instr.field 121 (.agg #[a0, a1, a2, a3, a4, a5, a6, a7, a8, a9, a10]) 0).run prog w = .ok (.agg #[a0, a1, a2, a3, a4, a5]) w := by kernel_rfl
theorem fB2 (a0 a1 a2 a3 a4 a5 a6 a7 a8 a9 a10 : Value) (w : World) : (Instr.field 121 (.agg #[a0, a1, a2, a3, a4, a5, a6, a7, a8, a9, a10]) 2).run prog w = .ok a9 w := by kernel_rfl
theorem fD0 (a0 a1 a2 a3 a4 a5 : Value) (w : World) : (Instr.field 117 (.agg #[a0, a1, a2, a3, a4, a5]) 0).run prog w = .ok a0 w := by kernel_rfl
theorem sP (B : Bp) (x : Bx) (h : Int) (w : World) (H : aS w B x) :
 Calls prog 22 #[.pointer (some ⟨B.b, 0, none⟩), .int .i64 h] w fun e w' => e = .returned (.int .u64 (oF B.n x.D h)) /\ Below w.heap.size w w' := by
 have hf0 := fB0
 have hf1 := fD0
 have HH := Hd H
 have HN := Hd (oB B x w H)
 clear H
 go_enter func22, ntmps22
 go_wp2_with fail
 refine (HN.out).mono ?_
 rintro e w1 ⟨rfl, hb1⟩
 have HH1 := Hd (HH.out.below hb1)
 have HB1 := Hd hb1
 clear hb1
 go_wp2_with fail
 refine (vB h _ _ _ _ B.pc B.mc _ HH1.out.dv.c).mono ?_
 rintro e w2 ⟨rfl, rfl⟩
 go_wp2_with fail
 go_ret
 exact ⟨rfl, HB1.out⟩
theorem aBX : (prog.info? 156).map (fun i => (i.zero, i.size, i.bytes)) = some (some (.agg #[.int .u64 0, .int .i64 0]), 2, 16) := by kernel_rfl
end Go.Proofs.YtaohacadochldaaGreat.B
