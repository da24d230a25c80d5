/- Several texts in one: A board's bus: what it looks up; words loaded and stored. A board as it is, and what is told of it. A board's resets, told; its config. -/
import Derived.Test.YtpojmmgokgamgaaGreatZVao
import Derived.Test.YtpojmmgokgamgaaGreatZVap
import Derived.Test.YtpojmmgokgamgaaGreatZVaq
import Derived.Test.YtpojmmgokgamgaaGreatZVDLay
set_option linter.unusedVariables false
set_option linter.unusedSimpArgs false
set_option maxRecDepth 100000
namespace Go.Proofs.YtpojmmgokgamgaaGreat.B
open Go.ChangeShapes Go.WideShapes Go.RowKit Go.Sort
theorem lpAll_one (L : Int -> List Su) (x : Su) (k : Int) (h0 : x.b / 16777216 = k) (h1 : (x.b + (x.s - 1)) / 16777216 = k) (u : Int) : lpAll L x u = if u = k then L u ++ [x] else L u := by
 unfold lpAll
 rw [h0, h1]
 by_cases h : u = k
 . rw [if_pos h, if_pos (by omega)]
 . rw [if_neg h, if_neg (by omega)]
theorem lpB_at (B : Bp) (u : Int) : LpB B u = if u = 2 then [seatC B] else if u = 16 then [seatB B, seatD B, seatS B, seatR B, seatL B] else [] := by
 unfold LpB
 rw [lpAll_one _ (seatL B) 16 (show (268763136 : Int) / 16777216 = 16 by decide) (show ((268763136 : Int) + (12 - 1)) / 16777216 = 16 by decide)]
 rw [lpAll_one _ (seatR B) 16 (show (268697600 : Int) / 16777216 = 16 by decide) (show ((268697600 : Int) + (36 - 1)) / 16777216 = 16 by decide)]
 rw [lpAll_one _ (seatS B) 16 (show (268632064 : Int) / 16777216 = 16 by decide) (show ((268632064 : Int) + (16 - 1)) / 16777216 = 16 by decide)]
 rw [lpAll_one _ (seatD B) 16 (show (268566528 : Int) / 16777216 = 16 by decide) (show ((268566528 : Int) + (20 - 1)) / 16777216 = 16 by decide)]
 rw [lpAll_one _ (seatB B) 16 (show (268500992 : Int) / 16777216 = 16 by decide) (show ((268500992 : Int) + (256 - 1)) / 16777216 = 16 by decide)]
 rw [lpAll_one _ (seatC B) 2 (show (33554432 : Int) / 16777216 = 2 by decide) (show ((33554432 : Int) + (49152 - 1)) / 16777216 = 2 by decide)]
 by_cases h2 : u = 2
 . subst h2; simp
 . by_cases h16 : u = 16
   . subst h16; simp
   . simp [h2, h16]
theorem fnd_cl (B : Bp) (a : Int) (h0 : 33554432 <= a) (h1 : a < 33603584) : findU a (LpB B (a / 16777216)) = (.agg #[.int .u32 33554432, .int .u32 49152, .iface 69 (ptr B.pc)], 0) := by
 rw [show a / 16777216 = 2 by omega, lpB_at]
 rw [if_pos rfl]
 unfold findU
 rw [List.find?_cons, show hasB (seatC B).b (seatC B).s a = true from decide_eq_true (show (33554432 : Int) <= a /\ a - 33554432 < 49152 by omega)]
 rfl
theorem fnd_bk (B : Bp) (a : Int) (h0 : 268500992 <= a) (h1 : a < 268501248) : findU a (LpB B (a / 16777216)) = (.agg #[.int .u32 268500992, .int .u32 256, .iface 70 (ptr B.pb)], 0) := by
 rw [show a / 16777216 = 16 by omega, lpB_at]
 rw [if_neg (by decide), if_pos rfl]
 unfold findU
 rw [List.find?_cons, show hasB (seatB B).b (seatB B).s a = true from decide_eq_true (show (268500992 : Int) <= a /\ a - 268500992 < 256 by omega)]
 rfl
theorem fnd_dg (B : Bp) (a : Int) (h0 : 268566528 <= a) (h1 : a < 268566548) : findU a (LpB B (a / 16777216)) = (.agg #[.int .u32 268566528, .int .u32 20, .iface 71 (ptr B.pd)], 0) := by
 rw [show a / 16777216 = 16 by omega, lpB_at]
 rw [if_neg (by decide), if_pos rfl]
 unfold findU
 rw [List.find?_cons, show hasB (seatB B).b (seatB B).s a = false from decide_eq_false (show ¬ ((268500992 : Int) <= a /\ a - 268500992 < 256) by omega)]
 simp only
 rw [List.find?_cons, show hasB (seatD B).b (seatD B).s a = true from decide_eq_true (show (268566528 : Int) <= a /\ a - 268566528 < 20 by omega)]
 rfl
theorem fnd_rs (B : Bp) (a : Int) (h0 : 268632064 <= a) (h1 : a < 268632080) : findU a (LpB B (a / 16777216)) = (.agg #[.int .u32 268632064, .int .u32 16, .iface 72 (ptr B.ps)], 0) := by
 rw [show a / 16777216 = 16 by omega, lpB_at]
 rw [if_neg (by decide), if_pos rfl]
 unfold findU
 rw [List.find?_cons, show hasB (seatB B).b (seatB B).s a = false from decide_eq_false (show ¬ ((268500992 : Int) <= a /\ a - 268500992 < 256) by omega)]
 simp only
 rw [List.find?_cons, show hasB (seatD B).b (seatD B).s a = false from decide_eq_false (show ¬ ((268566528 : Int) <= a /\ a - 268566528 < 20) by omega)]
 simp only
 rw [List.find?_cons, show hasB (seatS B).b (seatS B).s a = true from decide_eq_true (show (268632064 : Int) <= a /\ a - 268632064 < 16 by omega)]
 rfl
theorem fnd_rk (B : Bp) (a : Int) (h0 : 268697600 <= a) (h1 : a < 268697636) : findU a (LpB B (a / 16777216)) = (.agg #[.int .u32 268697600, .int .u32 36, .iface 73 (ptr B.pr)], 0) := by
 rw [show a / 16777216 = 16 by omega, lpB_at]
 rw [if_neg (by decide), if_pos rfl]
 unfold findU
 rw [List.find?_cons, show hasB (seatB B).b (seatB B).s a = false from decide_eq_false (show ¬ ((268500992 : Int) <= a /\ a - 268500992 < 256) by omega)]
 simp only
 rw [List.find?_cons, show hasB (seatD B).b (seatD B).s a = false from decide_eq_false (show ¬ ((268566528 : Int) <= a /\ a - 268566528 < 20) by omega)]
 simp only
 rw [List.find?_cons, show hasB (seatS B).b (seatS B).s a = false from decide_eq_false (show ¬ ((268632064 : Int) <= a /\ a - 268632064 < 16) by omega)]
 simp only
 rw [List.find?_cons, show hasB (seatR B).b (seatR B).s a = true from decide_eq_true (show (268697600 : Int) <= a /\ a - 268697600 < 36 by omega)]
 rfl
theorem fnd_ln (B : Bp) (a : Int) (h0 : 268763136 <= a) (h1 : a < 268763148) : findU a (LpB B (a / 16777216)) = (.agg #[.int .u32 268763136, .int .u32 12, .iface 74 (ptr B.pl)], 0) := by
 rw [show a / 16777216 = 16 by omega, lpB_at]
 rw [if_neg (by decide), if_pos rfl]
 unfold findU
 rw [List.find?_cons, show hasB (seatB B).b (seatB B).s a = false from decide_eq_false (show ¬ ((268500992 : Int) <= a /\ a - 268500992 < 256) by omega)]
 simp only
 rw [List.find?_cons, show hasB (seatD B).b (seatD B).s a = false from decide_eq_false (show ¬ ((268566528 : Int) <= a /\ a - 268566528 < 20) by omega)]
 simp only
 rw [List.find?_cons, show hasB (seatS B).b (seatS B).s a = false from decide_eq_false (show ¬ ((268632064 : Int) <= a /\ a - 268632064 < 16) by omega)]
 simp only
 rw [List.find?_cons, show hasB (seatR B).b (seatR B).s a = false from decide_eq_false (show ¬ ((268697600 : Int) <= a /\ a - 268697600 < 36) by omega)]
 simp only
 rw [List.find?_cons, show hasB (seatL B).b (seatL B).s a = true from decide_eq_true (show (268763136 : Int) <= a /\ a - 268763136 < 12 by omega)]
 rfl
theorem fnd_no (B : Bp) (a : Int) (h : ¬ (33554432 <= a /\ a < 33603584) /\ ¬ (268500992 <= a /\ a < 268501248) /\ ¬ (268566528 <= a /\ a < 268566548) /\ ¬ (268632064 <= a /\ a < 268632080) /\ ¬ (268697600 <= a /\ a < 268697636) /\ ¬ (268763136 <= a /\ a < 268763148)) : findU a (LpB B (a / 16777216)) = (zeroSeatV, 10) := by
 obtain ⟨n1, n2, n3, n4, n5, n6⟩ := h
 rw [lpB_at]
 by_cases h2 : a / 16777216 = 2
 . rw [if_pos h2]
   unfold findU
   rw [List.find?_cons, show hasB (seatC B).b (seatC B).s a = false from decide_eq_false (show ¬ ((33554432 : Int) <= a /\ a - 33554432 < 49152) by omega)]
   rfl
 . rw [if_neg h2]
   by_cases h16 : a / 16777216 = 16
   . rw [if_pos h16]
     unfold findU
     rw [List.find?_cons, show hasB (seatB B).b (seatB B).s a = false from decide_eq_false (show ¬ ((268500992 : Int) <= a /\ a - 268500992 < 256) by omega)]
     simp only
     rw [List.find?_cons, show hasB (seatD B).b (seatD B).s a = false from decide_eq_false (show ¬ ((268566528 : Int) <= a /\ a - 268566528 < 20) by omega)]
     simp only
     rw [List.find?_cons, show hasB (seatS B).b (seatS B).s a = false from decide_eq_false (show ¬ ((268632064 : Int) <= a /\ a - 268632064 < 16) by omega)]
     simp only
     rw [List.find?_cons, show hasB (seatR B).b (seatR B).s a = false from decide_eq_false (show ¬ ((268697600 : Int) <= a /\ a - 268697600 < 36) by omega)]
     simp only
     rw [List.find?_cons, show hasB (seatL B).b (seatL B).s a = false from decide_eq_false (show ¬ ((268763136 : Int) <= a /\ a - 268763136 < 12) by omega)]
     simp only
     rfl
   . rw [if_neg h16]; rfl
theorem lStoreAt (h m o v : Int) (p : Nat) (w : World) (a : LAt w p h m) (o0 : 0 <= o) (o1 : o < 4294967296) :
 Calls Tryz.prog 292 #[.pointer (some ⟨p, 0, none⟩), .int .u32 o, .int .u32 v] w fun e w' => e = .returned (.int .i64 (sErr o)) /\ LAt w' p h (if o = 4 then v else m) /\ Off (· = p) w w' := by
 by_cases h4 : o = 4
 . subst h4
   rw [if_pos rfl]
   exact (lStore h m v p w a).mono (by rintro e w' ⟨rfl, rfl⟩; exact ⟨rfl, a.set1 v, off_set _ _ _ _⟩)
 . rw [if_neg h4]
   exact (lStoreNo h m o v p w a o0 o1 h4).mono (by rintro e w' ⟨rfl, rfl⟩; exact ⟨rfl, a, Off.refl _ _⟩)
theorem lines_to {w : World} {B : Bp} {x : Bx} {h v : Int} {c : Prop} [Decidable c] (H : DvAt w B { x with msk := if c then v else x.msk } h) : DvAt w B (if c then { x with msk := v } else x) h := by
 by_cases hc : c
 . rw [if_pos hc] at H ⊢; exact H
 . rw [if_neg hc] at H ⊢; exact H
section
variable {w w' : World} {B : Bp} {x : Bx}
theorem BdAt.bpNo (H : BdAt w B x) : (∀ k, B.dvs k -> k ≠ B.bp) /\ B.mc ≠ B.bp := by
 refine ⟨fun k hk e => H.busApart (.inl rfl) (.inr (.inl (e ▸ hk))), fun e => ?_⟩
 have := kd_map H.dv.c.map
 rw [e, kd_of H.bus.cell] at this; cases this
theorem BdAt.atBus (H : BdAt w B x) (ho : Off (· = B.bp) w w') : DvAt w' B x (wires B.n B.c x) :=
 H.dv.off ho H.bpNo.1 H.bpNo.2
theorem BdAt.atBus2 (H : BdAt w B x) (ho : Off (fun k => k = B.bp \/ w.heap.size <= k) w w') : DvAt w' B x (wires B.n B.c x) :=
 H.dv.off ho (fun k hk h => h.elim (H.bpNo.1 k hk) (fun h => by have := H.dv.lt hk; omega)) (fun h => h.elim H.bpNo.2 (fun h => by have := H.dv.ltm; omega))
theorem dv_stays {w u u' : World} {B : Bp} {y : Bx} {h : Int} (hn : ∀ k, B.dvs k -> k ≠ B.bp) (hm : B.mc ≠ B.bp) (hl : ∀ k, B.dvs k -> k < w.heap.size) (hlm : B.mc < w.heap.size) (H : DvAt u B y h) (ho : Off (fun k => k = B.bp \/ w.heap.size <= k) u u') : DvAt u' B y h :=
 H.off ho (fun k hk e => e.elim (hn k hk) (fun e => by have := hl k hk; omega)) (fun e => e.elim hm (fun e => by omega))
theorem lde_zero {n c : Nat} {x : Bx} {a : Int} (a0 : 0 <= a) (h : Bx.lde n c a ≠ 0) : x.ldv n c a = 0 := by
 unfold Bx.lde at h
 unfold Bx.ldv
 rcases wh_all a with ⟨_, e⟩ | ⟨_, _, _, e⟩ | ⟨_, _, _, e⟩ | ⟨_, _, _, e⟩ | ⟨_, _, _, e⟩ | ⟨_, _, _, e⟩ | ⟨_, _, _, e⟩ | ⟨_, _, e⟩ <;> rw [e] at h <;> rw [e] <;> simp only at h ⊢
 . exact err_val h
 . rename_i h4 h0 h1
   unfold kLErr at h
   unfold kVal
   by_cases hk : kErr c (a - 268500992) = 0
   . rw [if_pos hk] at h; rw [if_pos hk]; unfold Tm.val; rw [if_neg h]
   . rw [if_neg hk]
 . exact Wd.val_none (by omega) h
 . unfold sVal9; rw [if_neg h]
 . unfold Rk.valE; rw [if_neg h]
 . unfold lVal; rw [if_neg h]
theorem bdBusLoad (a : Int) (H : BdAt w B x) (a0 : 0 <= a) (a1 : a < 4294967296) :
 Calls Tryz.prog 87 #[.pointer (some ⟨B.bp, 0, none⟩), .int .u32 a] w fun e w' => e = .returned (.tuple #[.int .u32 (x.ldv B.n B.c a), .int .i64 (Bx.lde B.n B.c a)]) /\ Below w.heap.size w w' := by
 have hz : Bx.lde B.n B.c a ≠ 0 -> x.ldv B.n B.c a = 0 := lde_zero a0
 have hend : ∀ {w'}, Off (fun _ => False) w w' -> Below w.heap.size w w' := fun h => h.below (fun _ _ h => h) (Nat.le_refl _)
 unfold Bx.lde at hz ⊢
 unfold Bx.ldv at hz ⊢
 rcases wh_all a with ⟨h4, e⟩ | ⟨h4, h0, h1, e⟩ | ⟨h4, h0, h1, e⟩ | ⟨h4, h0, h1, e⟩ | ⟨h4, h0, h1, e⟩ | ⟨h4, h0, h1, e⟩ | ⟨h4, h0, h1, e⟩ | ⟨h4, h, e⟩ <;> rw [e] at hz ⊢ <;> simp only at hz ⊢
 . exact zLoadErr _ a 11 w (by decide) fun w' _ => zFindBad a _ w' a0 (by simpa using h4)
 . exact (uLoad B.bp B.bm B.rv B.R B.ks B.pv (LpB B) a 33554432 49152 _ _ 69 (ptr B.pc) 255 (fun _ => False) (fun _ => True) w a0 a1 (by simpa using h4) H.bus hz (fun _ _ => by unfold ptr; kernel_rfl) (enters_of Tryz.func255 (by kernel_rfl) rfl) (fnd_cl B a h0 h1) (by decide) h0 (fun h => h) (fun _ h => h.elim)
    (fun w' ho => (cLoad _ _ _ _ _ B.pc B.mc w' (H.atBus ho).c (by omega) (by omega)).mono fun e w'' h => ⟨h.1, Off.ofBelow h.2, trivial⟩) (fun _ _ _ _ => trivial)).mono fun e w' h => ⟨h.1, hend h.2.1⟩
 . exact (uLoad B.bp B.bm B.rv B.R B.ks B.pv (LpB B) a 268500992 256 _ _ 70 (ptr B.pb) 262 (fun _ => False) (fun _ => True) w a0 a1 (by simpa using h4) H.bus hz (fun _ _ => by unfold ptr; kernel_rfl) (enters_of Tryz.func262 (by kernel_rfl) rfl) (fnd_bk B a h0 h1) (by decide) h0 (fun h => h) (fun _ h => h.elim)
    (fun w' ho => (bLoad (H.atBus ho).b _ (by omega) (by omega)).mono fun e w'' h => ⟨h.1, h.2 ▸ Off.refl _ _, trivial⟩) (fun _ _ _ _ => trivial)).mono fun e w' h => ⟨h.1, hend h.2.1⟩
 . exact (uLoad B.bp B.bm B.rv B.R B.ks B.pv (LpB B) a 268566528 20 _ _ 71 (ptr B.pd) 147 (fun _ => False) (fun _ => True) w a0 a1 (by simpa using h4) H.bus hz (fun _ _ => by unfold ptr; kernel_rfl) (enters_of Tryz.func147 (by kernel_rfl) rfl) (fnd_dg B a h0 h1) (by decide) h0 (fun h => h) (fun _ h => h.elim)
    (fun w' ho => (dLoad x.wd _ B.pd w' H.ok.wd (H.atBus ho).d (by omega) (by omega)).mono fun e w'' h => ⟨h.1, Off.ofBelow h.2, trivial⟩) (fun _ _ _ _ => trivial)).mono fun e w' h => ⟨h.1, hend h.2.1⟩
 . exact (uLoad B.bp B.bm B.rv B.R B.ks B.pv (LpB B) a 268632064 16 _ _ 72 (ptr B.ps) 279 (fun _ => False) (fun _ => True) w a0 a1 (by simpa using h4) H.bus hz (fun _ _ => by unfold ptr; kernel_rfl) (enters_of Tryz.func279 (by kernel_rfl) rfl) (fnd_rs B a h0 h1) (by decide) h0 (fun h => h) (fun _ h => h.elim)
    (fun w' ho => (rsLoad x.rs _ B.ps w' H.ok.rs (H.atBus ho).s (by omega) (by omega)).mono fun e w'' h => ⟨h.1, Off.ofBelow h.2, trivial⟩) (fun _ _ _ _ => trivial)).mono fun e w' h => ⟨h.1, hend h.2.1⟩
 . exact (uLoad B.bp B.bm B.rv B.R B.ks B.pv (LpB B) a 268697600 36 _ _ 73 (ptr B.pr) 153 (fun _ => False) (fun _ => True) w a0 a1 (by simpa using h4) H.bus hz (fun _ _ => by unfold ptr; kernel_rfl) (enters_of Tryz.func153 (by kernel_rfl) rfl) (fnd_rk B a h0 h1) (by decide) h0 (fun h => h) (fun _ h => h.elim)
    (fun w' ho => (eLoad x.rk _ B.pr w' H.ok.rk (H.atBus ho).r (by omega) (by omega)).mono fun e w'' h => ⟨h.1, Off.ofBelow h.2, trivial⟩) (fun _ _ _ _ => trivial)).mono fun e w' h => ⟨h.1, hend h.2.1⟩
 . exact (uLoad B.bp B.bm B.rv B.R B.ks B.pv (LpB B) a 268763136 12 _ _ 74 (ptr B.pl) 290 (fun _ => False) (fun _ => True) w a0 a1 (by simpa using h4) H.bus hz (fun _ _ => by unfold ptr; kernel_rfl) (enters_of Tryz.func290 (by kernel_rfl) rfl) (fnd_ln B a h0 h1) (by decide) h0 (fun h => h) (fun _ h => h.elim)
    (fun w' ho => (lLoad _ _ _ B.pl w' (H.atBus ho).l (by omega) (by omega)).mono fun e w'' h => ⟨h.1, Off.ofBelow h.2, trivial⟩) (fun _ _ _ _ => trivial)).mono fun e w' h => ⟨h.1, hend h.2.1⟩
 . exact zLoadErr _ a 10 w (by decide) fun w' hb => uFind a _ _ B.bp B.bm B.rv B.R B.ks B.pv (LpB B) w' a0 a1 (by simpa using h4) (H.bus.ofBelow hb) (fnd_no B a h)
theorem bdBusStore (a v : Int) (H : BdAt w B x) (a0 : 0 <= a) (a1 : a < 4294967296) (v0 : 0 <= v) (v1 : v < 4294967296) :
 Calls Tryz.prog 88 #[.pointer (some ⟨B.bp, 0, none⟩), .int .u32 a, .int .u32 v] w fun e w' => e = .returned (.int .i64 (Bx.ste B.n B.c a)) /\ Off B.dvs w w' /\ DvAt w' B (x.put B.n B.c a v) (wires B.n B.c x) := by
 have hn := H.bpNo
 have hl : ∀ k, B.dvs k -> k < w.heap.size := fun k hk => H.dv.lt hk
 have hlm := H.dv.ltm
 unfold Bx.ste Bx.put
 rcases wh_all a with ⟨h4, e⟩ | ⟨h4, h0, h1, e⟩ | ⟨h4, h0, h1, e⟩ | ⟨h4, h0, h1, e⟩ | ⟨h4, h0, h1, e⟩ | ⟨h4, h0, h1, e⟩ | ⟨h4, h0, h1, e⟩ | ⟨h4, h, e⟩ <;> rw [e] <;> simp only
 . exact (zStoreErr _ a 11 v w (by decide) fun w' _ => zFindBad a _ w' a0 (by simpa using h4)).mono fun e w' h => ⟨h.1, Off.ofBelow h.2, H.dv.below h.2⟩
 . exact (uStore B.bp B.bm B.rv B.R B.ks B.pv (LpB B) a 33554432 49152 v _ 69 (ptr B.pc) 256 B.dvs (fun u => DvAt u B ({ x with D := cPutD B.n x.D (a - 33554432) v, S := cPutS B.n x.S (a - 33554432) v }) (wires B.n B.c x)) w a0 a1 (by simpa using h4) H.bus (fun _ _ => by unfold ptr; kernel_rfl) (enters_of Tryz.func256 (by kernel_rfl) rfl) (fnd_cl B a h0 h1) (by decide) h0 (fun h => hn.1 _ h rfl) hl
    (fun w' ho => (cStore _ v _ _ _ _ B.pc B.mc w' (H.atBus2 ho).c (by omega) (by omega) v0 v1).mono fun e w'' h => ⟨h.1, offC h.2.2, (H.atBus2 ho).turnC h.2.1 h.2.2⟩) (fun u u' hu ho => dv_stays hn.1 hn.2 hl hlm hu ho))
 . exact (uStore B.bp B.bm B.rv B.R B.ks B.pv (LpB B) a 268500992 256 v _ 70 (ptr B.pb) 264 B.dvs (fun u => DvAt u B ({ x with tm := kSto B.c x.tm (a - 268500992) v }) (wires B.n B.c x)) w a0 a1 (by simpa using h4) H.bus (fun _ _ => by unfold ptr; kernel_rfl) (enters_of Tryz.func264 (by kernel_rfl) rfl) (fnd_bk B a h0 h1) (by decide) h0 (fun h => hn.1 _ h rfl) hl
    (fun w' ho => (bStore (H.atBus2 ho).b _ v (by omega) (by omega) v0 v1).mono fun e w'' h => ⟨h.1, offB h.2.2, (H.atBus2 ho).turnB h.2.1 h.2.2⟩) (fun u u' hu ho => dv_stays hn.1 hn.2 hl hlm hu ho))
 . exact (uStore B.bp B.bm B.rv B.R B.ks B.pv (LpB B) a 268566528 20 v _ 71 (ptr B.pd) 274 B.dvs (fun u => DvAt u B ({ x with wd := x.wd.sto (a - 268566528) v }) (wires B.n B.c x)) w a0 a1 (by simpa using h4) H.bus (fun _ _ => by unfold ptr; kernel_rfl) (enters_of Tryz.func274 (by kernel_rfl) rfl) (fnd_dg B a h0 h1) (by decide) h0 (fun h => hn.1 _ h rfl) hl
    (fun w' ho => (dStore x.wd _ v B.pd w' H.ok.wd (H.atBus2 ho).d (by omega) (by omega) v0 v1).mono fun e w'' h => ⟨h.1, offD h.2.2, (H.atBus2 ho).turnD h.2.1 h.2.2⟩) (fun u u' hu ho => dv_stays hn.1 hn.2 hl hlm hu ho))
 . exact (uStore B.bp B.bm B.rv B.R B.ks B.pv (LpB B) a 268632064 16 v _ 72 (ptr B.ps) 280 B.dvs (fun u => DvAt u B ({ x with rs := x.rs.sto (a - 268632064) v }) (wires B.n B.c x)) w a0 a1 (by simpa using h4) H.bus (fun _ _ => by unfold ptr; kernel_rfl) (enters_of Tryz.func280 (by kernel_rfl) rfl) (fnd_rs B a h0 h1) (by decide) h0 (fun h => hn.1 _ h rfl) hl
    (fun w' ho => (rsStore x.rs _ v B.ps w' H.ok.rs (H.atBus2 ho).s (by omega) (by omega) v0 v1).mono fun e w'' h => ⟨h.1, offS h.2.2, (H.atBus2 ho).turnS h.2.1 h.2.2⟩) (fun u u' hu ho => dv_stays hn.1 hn.2 hl hlm hu ho))
 . exact (uStore B.bp B.bm B.rv B.R B.ks B.pv (LpB B) a 268697600 36 v _ 73 (ptr B.pr) 283 B.dvs (fun u => DvAt u B ({ x with rk := x.rk.sto (a - 268697600) v }) (wires B.n B.c x)) w a0 a1 (by simpa using h4) H.bus (fun _ _ => by unfold ptr; kernel_rfl) (enters_of Tryz.func283 (by kernel_rfl) rfl) (fnd_rk B a h0 h1) (by decide) h0 (fun h => hn.1 _ h rfl) hl
    (fun w' ho => (eStore x.rk _ v B.pr w' H.ok.rk (H.atBus2 ho).r (by omega) (by omega) v0 v1).mono fun e w'' h => ⟨h.1, offR h.2.2, (H.atBus2 ho).turnR h.2.1 h.2.2⟩) (fun u u' hu ho => dv_stays hn.1 hn.2 hl hlm hu ho))
 . exact (uStore B.bp B.bm B.rv B.R B.ks B.pv (LpB B) a 268763136 12 v _ 74 (ptr B.pl) 292 B.dvs (fun u => DvAt u B (if a - 268763136 = 4 then { x with msk := v } else x) (wires B.n B.c x)) w a0 a1 (by simpa using h4) H.bus (fun _ _ => by unfold ptr; kernel_rfl) (enters_of Tryz.func292 (by kernel_rfl) rfl) (fnd_ln B a h0 h1) (by decide) h0 (fun h => hn.1 _ h rfl) hl
    (fun w' ho => (lStoreAt _ _ _ v B.pl w' (H.atBus2 ho).l (by omega) (by omega)).mono fun e w'' h => ⟨h.1, offL h.2.2, lines_to ((H.atBus2 ho).turnL h.2.1 h.2.2)⟩) (fun u u' hu ho => dv_stays hn.1 hn.2 hl hlm hu ho))
 . exact (zStoreErr _ a 10 v w (by decide) fun w' hb => uFind a _ _ B.bp B.bm B.rv B.R B.ks B.pv (LpB B) w' a0 a1 (by simpa using h4) (H.bus.ofBelow hb) (fnd_no B a h)).mono fun e w' h => ⟨h.1, Off.ofBelow h.2, H.dv.below h.2⟩
end
end Go.Proofs.YtpojmmgokgamgaaGreat.B
namespace Go.Proofs.YtpojmmgokgamgaaGreat.B
open Go.ChangeShapes Go.WideShapes Go.RowKit Go.Sort Go.Shelf
theorem iBd : (Tryz.prog.info? 104).map (·.size) = some 11 := by kernel_rfl
section
variable {ops : Array Oper} {rest : List Oper} {o : Oper} {a : Act} {w : World} {Q : Exit -> Act -> World -> Prop}
theorem loadBd (hgd : o.guard = none) (x : Operand) (ho : o.op = .load 104 x) {b : Nat} (hx : a.eval x = .pointer (some ⟨b, 0, none⟩)) (vs : List Value) (hl : vs.length = 11) (hg : w.heap[b]? = some (.cells vs.toArray tBd (0, 0)))
 (h : wpList Tryz.prog ops Q rest (a.put o.dst (.agg vs.toArray)) w) : wpList Tryz.prog ops Q (o :: rest) a w :=
 wpList_load_part hgd _ x ho b 0 hx _ vs hg Tryz.underlying104 rfl (by rw [hl]; exact iBd) (part_all _) h
theorem storeBd (hgd : o.guard = none) (x y : Operand) (ho : o.op = .store 104 x y) {b : Nat} (hx : a.eval x = .pointer (some ⟨b, 0, none⟩)) (vs us : List Value) (hl : vs.length = 11) (hu : us.length = 11) (h1 : ∀ v ∈ vs, v.oneCell' = true) (hy : a.eval y = .agg vs.toArray) (hg : w.heap[b]? = some (.cells us.toArray tBd (0, 0)))
 (h : wpList Tryz.prog ops Q rest (a.put o.dst undef) (w.setRow b vs.toArray)) : wpList Tryz.prog ops Q (o :: rest) a w := by
 refine wpList_store_part hgd _ x y ho b 0 hx vs hy hg (by rw [hl]; exact iBd) (by simp [hl, hu]) h1 ?_
 rw [spliced_all _ _ (by simp [hl, hu])]
 exact h
theorem resBd {fn : Func} {p : Tmp} (h : fn.results = #[.cell p 104]) (tmps : Array Value) (w : World) {b : Nat} (vs : List Value) (hl : vs.length = 11) (hp : tmps[p]? = some (.pointer (some ⟨b, 0, none⟩))) (hg : w.heap[b]? = some (.cells vs.toArray tBd (0, 0))) :
 (results fn tmps).run Tryz.prog w = .ok (.agg vs.toArray) w :=
 results_cell_one h tmps w b 0 _ vs hp hg Tryz.underlying104 rfl (by rw [hl]; exact iBd) (part_all _)
end
def Bp.l11 (B : Bp) : List Value := [.pointer (some ⟨B.pc, 0, none⟩), .pointer (some ⟨B.pb, 0, none⟩), .pointer (some ⟨B.pd, 0, none⟩), .pointer (some ⟨B.ps, 0, none⟩), .pointer (some ⟨B.pr, 0, none⟩), .pointer (some ⟨B.pl, 0, none⟩), .int .i64 B.n, .int .i64 B.c, .int .u32 B.div, .pointer (some ⟨B.bp, 0, none⟩), B.ev]
def z11 : List Value := [.pointer none, .pointer none, .pointer none, .pointer none, .pointer none, .pointer none, .int .i64 0, .int .i64 0, .int .u32 0, .pointer none, .slice none 0 0]
theorem l11_one (B : Bp) (he : B.ev.oneCell' = true) : ∀ v ∈ B.l11, v.oneCell' = true := by
 intro v hv
 simp only [Bp.l11, List.mem_cons, List.not_mem_nil, or_false] at hv
 rcases hv with rfl | rfl | rfl | rfl | rfl | rfl | rfl | rfl | rfl | rfl | rfl <;> first | rfl | exact he
theorem ev_one {w : World} {T : TypeId} {v : Value} {es : List (Int × Int)} (h : EvAt w T v es) : v.oneCell' = true := by
 rcases row_form h with ⟨rfl, _⟩ | ⟨g, cap, rfl, _⟩ <;> rfl
theorem bdNow (B : Bp) (x : Bx) (w : World) (H : BdAt w B x) :
 Calls Tryz.prog 44 #[.pointer (some ⟨B.b, 0, none⟩)] w fun e w' => e = .returned (.agg #[.pointer (some ⟨B.pc, 0, none⟩), .pointer (some ⟨B.pb, 0, none⟩), .pointer (some ⟨B.pd, 0, none⟩), .pointer (some ⟨B.ps, 0, none⟩), .pointer (some ⟨B.pr, 0, none⟩), .pointer (some ⟨B.pl, 0, none⟩), .int .i64 B.n, .int .i64 B.c, .int .u32 B.div, .pointer (some ⟨B.bp, 0, none⟩), B.ev]) /\ Below w.heap.size w w' := by
 have hg : (w.alloc (.cells #[.pointer none, .pointer none, .pointer none, .pointer none, .pointer none, .pointer none, .int .i64 0, .int .i64 0, .int .u32 0, .pointer none, .slice none 0 0] 104)).heap[B.b]? = some (.cells B.l11.toArray tBd (0, 0)) := (blk_old w _ (lt_of_block H.cell)).trans H.cell
 have hz : (w.alloc (.cells #[.pointer none, .pointer none, .pointer none, .pointer none, .pointer none, .pointer none, .int .i64 0, .int .i64 0, .int .u32 0, .pointer none, .slice none 0 0] 104)).heap[w.heap.size]? = some (.cells z11.toArray tBd (0, 0)) := blk_new w _
 have h1 := l11_one B (ev_one H.ev)
 have hs := row_set B.l11.toArray hz
 have hb := below_setRow (trA (tr0 w) (.cells #[.pointer none, .pointer none, .pointer none, .pointer none, .pointer none, .pointer none, .int .i64 0, .int .i64 0, .int .u32 0, .pointer none, .slice none 0 0] 104)) B.l11.toArray (g := w.heap.size) (Nat.le_refl _)
 go_enter Tryz.func44, Tryz.ntmps44
 go_wp2_with (first | (refine loadBd rfl (.tmp 7) rfl rfl B.l11 rfl hg ?_) | (refine storeBd rfl (.tmp 2) (.tmp 8) rfl rfl B.l11 z11 rfl rfl h1 rfl hz ?_))
 exact bodyPost_ret (resBd rfl _ _ B.l11 rfl rfl hs) rfl ⟨rfl, hb⟩
theorem fB0 (a0 a1 a2 a3 a4 a5 a6 a7 a8 a9 a10 : Value) (w : World) : (Instr.field 104 (.agg #[a0, a1, a2, a3, a4, a5, a6, a7, a8, a9, a10]) 0).run Tryz.prog w = .ok (.agg #[a0, a1, a2, a3, a4, a5]) w := by kernel_rfl
theorem fB2 (a0 a1 a2 a3 a4 a5 a6 a7 a8 a9 a10 : Value) (w : World) : (Instr.field 104 (.agg #[a0, a1, a2, a3, a4, a5, a6, a7, a8, a9, a10]) 2).run Tryz.prog w = .ok a9 w := by kernel_rfl
theorem fD0 (a0 a1 a2 a3 a4 a5 : Value) (w : World) : (Instr.field 76 (.agg #[a0, a1, a2, a3, a4, a5]) 0).run Tryz.prog w = .ok a0 w := by kernel_rfl
theorem bdTime (B : Bp) (x : Bx) (w : World) (H : BdAt w B x) :
 Calls Tryz.prog 20 #[.pointer (some ⟨B.b, 0, none⟩)] w fun e w' => e = .returned (.int .u64 x.ti) /\ Below w.heap.size w w' := by
 have hf0 := fB0
 have hf1 := fD0
 have HH := Hd H
 have HN := Hd (bdNow B x w H)
 clear H
 go_enter Tryz.func20, Tryz.ntmps20
 go_wp2_with fail
 refine (HN.out).mono ?_
 rintro e w1 ⟨rfl, hb1⟩
 have HH1 := Hd (HH.out.below hb1)
 have HB1 := Hd hb1
 clear hb1
 go_wp2_with fail
 refine (cTime _ _ _ _ B.pc B.mc _ HH1.out.dv.c).mono ?_
 rintro e w2 ⟨rfl, rfl⟩
 go_wp2_with fail
 go_ret
 exact ⟨rfl, HB1.out⟩
theorem infoEv : (Tryz.prog.info? 151).map (fun i => (i.zero, i.size, i.bytes)) = some (some (.agg #[.int .u64 0, .int .i64 0]), 2, 16) := by kernel_rfl
end Go.Proofs.YtpojmmgokgamgaaGreat.B
