/- A part of the proof of a law of layer 12: ao. -/
import Derived.Test.YtealhichdbimlaaGreatZNan
import Derived.Test.YtealhichdbimlaaGreatZNDLay
set_option linter.unusedVariables false
set_option linter.unusedSimpArgs false
set_option maxHeartbeats 12800000
set_option maxRecDepth 100000
namespace Go.Proofs.YtealhichdbimlaaGreat.B
open Go.Proofs.Tryz
open Go.ChangeShapes Go.WideShapes Go.RowKit Go.Sort
theorem cY (L : Int -> List Su) (x : Su) (k : Int) (h0 : x.b / 16777216 = k) (h1 : (x.b + (x.s - 1)) / 16777216 = k) (u : Int) : dC L x u = if u = k then L u ++ [x] else L u := by
 unfold dC
 rw [h0, h1]
 by_cases h : u = k
 . rw [if_pos h, if_pos (by omega)]
 . rw [if_neg h, if_neg (by omega)]
theorem fA (B : Bp) (u : Int) : jY B u = if u = 2 then [hJ B] else if u = 16 then [dG B, dP B, eG B, fP B, iA B] else [] := by
 unfold jY
 rw [cY _ (iA B) 16 (show (268763136 : Int) / 16777216 = 16 by decide) (show ((268763136 : Int) + (12 - 1)) / 16777216 = 16 by decide)]
 rw [cY _ (fP B) 16 (show (268697600 : Int) / 16777216 = 16 by decide) (show ((268697600 : Int) + (36 - 1)) / 16777216 = 16 by decide)]
 rw [cY _ (eG B) 16 (show (268632064 : Int) / 16777216 = 16 by decide) (show ((268632064 : Int) + (16 - 1)) / 16777216 = 16 by decide)]
 rw [cY _ (dP B) 16 (show (268566528 : Int) / 16777216 = 16 by decide) (show ((268566528 : Int) + (20 - 1)) / 16777216 = 16 by decide)]
 rw [cY _ (dG B) 16 (show (268500992 : Int) / 16777216 = 16 by decide) (show ((268500992 : Int) + (256 - 1)) / 16777216 = 16 by decide)]
 rw [cY _ (hJ B) 2 (show (33554432 : Int) / 16777216 = 2 by decide) (show ((33554432 : Int) + (49152 - 1)) / 16777216 = 2 by decide)]
 by_cases h2 : u = 2
 . subst h2; simp
 . by_cases h16 : u = 16
   . subst h16; simp
   . simp [h2, h16]
theorem yT (B : Bp) (a : Int) (h0 : 33554432 <= a) (h1 : a < 33603584) : bQ a (jY B (a / 16777216)) = (.agg #[.int .u32 33554432, .int .u32 49152, .iface 98 (eB B.pc)], 0) := by
 rw [show a / 16777216 = 2 by omega, fA]
 rw [if_pos rfl]
 unfold bQ
 rw [List.find?_cons, show bW (hJ B).b (hJ B).s a = true from decide_eq_true (show (33554432 : Int) <= a /\ a - 33554432 < 49152 by omega)]
 rfl
theorem yS (B : Bp) (a : Int) (h0 : 268500992 <= a) (h1 : a < 268501248) : bQ a (jY B (a / 16777216)) = (.agg #[.int .u32 268500992, .int .u32 256, .iface 99 (eB B.pb)], 0) := by
 rw [show a / 16777216 = 16 by omega, fA]
 rw [if_neg (by decide), if_pos rfl]
 unfold bQ
 rw [List.find?_cons, show bW (dG B).b (dG B).s a = true from decide_eq_true (show (268500992 : Int) <= a /\ a - 268500992 < 256 by omega)]
 rfl
theorem yU (B : Bp) (a : Int) (h0 : 268566528 <= a) (h1 : a < 268566548) : bQ a (jY B (a / 16777216)) = (.agg #[.int .u32 268566528, .int .u32 20, .iface 100 (eB B.pd)], 0) := by
 rw [show a / 16777216 = 16 by omega, fA]
 rw [if_neg (by decide), if_pos rfl]
 unfold bQ
 rw [List.find?_cons, show bW (dG B).b (dG B).s a = false from decide_eq_false (show ¬ ((268500992 : Int) <= a /\ a - 268500992 < 256) by omega)]
 simp only
 rw [List.find?_cons, show bW (dP B).b (dP B).s a = true from decide_eq_true (show (268566528 : Int) <= a /\ a - 268566528 < 20 by omega)]
 rfl
theorem yY (B : Bp) (a : Int) (h0 : 268632064 <= a) (h1 : a < 268632080) : bQ a (jY B (a / 16777216)) = (.agg #[.int .u32 268632064, .int .u32 16, .iface 101 (eB B.ps)], 0) := by
 rw [show a / 16777216 = 16 by omega, fA]
 rw [if_neg (by decide), if_pos rfl]
 unfold bQ
 rw [List.find?_cons, show bW (dG B).b (dG B).s a = false from decide_eq_false (show ¬ ((268500992 : Int) <= a /\ a - 268500992 < 256) by omega)]
 simp only
 rw [List.find?_cons, show bW (dP B).b (dP B).s a = false from decide_eq_false (show ¬ ((268566528 : Int) <= a /\ a - 268566528 < 20) by omega)]
 simp only
 rw [List.find?_cons, show bW (eG B).b (eG B).s a = true from decide_eq_true (show (268632064 : Int) <= a /\ a - 268632064 < 16 by omega)]
 rfl
theorem yX (B : Bp) (a : Int) (h0 : 268697600 <= a) (h1 : a < 268697636) : bQ a (jY B (a / 16777216)) = (.agg #[.int .u32 268697600, .int .u32 36, .iface 102 (eB B.pr)], 0) := by
 rw [show a / 16777216 = 16 by omega, fA]
 rw [if_neg (by decide), if_pos rfl]
 unfold bQ
 rw [List.find?_cons, show bW (dG B).b (dG B).s a = false from decide_eq_false (show ¬ ((268500992 : Int) <= a /\ a - 268500992 < 256) by omega)]
 simp only
 rw [List.find?_cons, show bW (dP B).b (dP B).s a = false from decide_eq_false (show ¬ ((268566528 : Int) <= a /\ a - 268566528 < 20) by omega)]
 simp only
 rw [List.find?_cons, show bW (eG B).b (eG B).s a = false from decide_eq_false (show ¬ ((268632064 : Int) <= a /\ a - 268632064 < 16) by omega)]
 simp only
 rw [List.find?_cons, show bW (fP B).b (fP B).s a = true from decide_eq_true (show (268697600 : Int) <= a /\ a - 268697600 < 36 by omega)]
 rfl
theorem yV (B : Bp) (a : Int) (h0 : 268763136 <= a) (h1 : a < 268763148) : bQ a (jY B (a / 16777216)) = (.agg #[.int .u32 268763136, .int .u32 12, .iface 103 (eB B.pl)], 0) := by
 rw [show a / 16777216 = 16 by omega, fA]
 rw [if_neg (by decide), if_pos rfl]
 unfold bQ
 rw [List.find?_cons, show bW (dG B).b (dG B).s a = false from decide_eq_false (show ¬ ((268500992 : Int) <= a /\ a - 268500992 < 256) by omega)]
 simp only
 rw [List.find?_cons, show bW (dP B).b (dP B).s a = false from decide_eq_false (show ¬ ((268566528 : Int) <= a /\ a - 268566528 < 20) by omega)]
 simp only
 rw [List.find?_cons, show bW (eG B).b (eG B).s a = false from decide_eq_false (show ¬ ((268632064 : Int) <= a /\ a - 268632064 < 16) by omega)]
 simp only
 rw [List.find?_cons, show bW (fP B).b (fP B).s a = false from decide_eq_false (show ¬ ((268697600 : Int) <= a /\ a - 268697600 < 36) by omega)]
 simp only
 rw [List.find?_cons, show bW (iA B).b (iA B).s a = true from decide_eq_true (show (268763136 : Int) <= a /\ a - 268763136 < 12 by omega)]
 rfl
theorem yW (B : Bp) (a : Int) (h : ¬ (33554432 <= a /\ a < 33603584) /\ ¬ (268500992 <= a /\ a < 268501248) /\ ¬ (268566528 <= a /\ a < 268566548) /\ ¬ (268632064 <= a /\ a < 268632080) /\ ¬ (268697600 <= a /\ a < 268697636) /\ ¬ (268763136 <= a /\ a < 268763148)) : bQ a (jY B (a / 16777216)) = (aZ, 10) := by
 obtain ⟨n1, n2, n3, n4, n5, n6⟩ := h
 rw [fA]
 by_cases h2 : a / 16777216 = 2
 . rw [if_pos h2]
   unfold bQ
   rw [List.find?_cons, show bW (hJ B).b (hJ B).s a = false from decide_eq_false (show ¬ ((33554432 : Int) <= a /\ a - 33554432 < 49152) by omega)]
   rfl
 . rw [if_neg h2]
   by_cases h16 : a / 16777216 = 16
   . rw [if_pos h16]
     unfold bQ
     rw [List.find?_cons, show bW (dG B).b (dG B).s a = false from decide_eq_false (show ¬ ((268500992 : Int) <= a /\ a - 268500992 < 256) by omega)]
     simp only
     rw [List.find?_cons, show bW (dP B).b (dP B).s a = false from decide_eq_false (show ¬ ((268566528 : Int) <= a /\ a - 268566528 < 20) by omega)]
     simp only
     rw [List.find?_cons, show bW (eG B).b (eG B).s a = false from decide_eq_false (show ¬ ((268632064 : Int) <= a /\ a - 268632064 < 16) by omega)]
     simp only
     rw [List.find?_cons, show bW (fP B).b (fP B).s a = false from decide_eq_false (show ¬ ((268697600 : Int) <= a /\ a - 268697600 < 36) by omega)]
     simp only
     rw [List.find?_cons, show bW (iA B).b (iA B).s a = false from decide_eq_false (show ¬ ((268763136 : Int) <= a /\ a - 268763136 < 12) by omega)]
     simp only
     rfl
   . rw [if_neg h16]; rfl
section
variable {w w' : World} {B : Bp} {x : Bx}
theorem aU.bpNo (H : aU w B x) : (∀ k, B.dvs k -> k ≠ B.bp) /\ B.mc ≠ B.bp := by
 refine ⟨fun k hk e => H.busApart (.inl rfl) (.inr (.inl (e ▸ hk))), fun e => ?_⟩
 have := eZ H.dv.c.map
 rw [e, aX H.bus.cell] at this; cases this
theorem aU.atBus (H : aU w B x) (ho : aE (· = B.bp) w w') : aN w' B x (wires B.n B.c x) :=
 H.dv.off ho H.bpNo.1 H.bpNo.2
theorem sF {n c : Nat} {x : Bx} {a : Int} (a0 : 0 <= a) (h : Bx.lde n c a ≠ 0) : x.ldv n c a = 0 := by
 unfold Bx.lde at h
 unfold Bx.ldv
 rcases uJ a with ⟨_, e⟩ | ⟨_, _, _, e⟩ | ⟨_, _, _, e⟩ | ⟨_, _, _, e⟩ | ⟨_, _, _, e⟩ | ⟨_, _, _, e⟩ | ⟨_, _, _, e⟩ | ⟨_, _, e⟩ <;> rw [e] at h <;> rw [e] <;> simp only at h ⊢
 . exact kC h
 . rename_i h4 h0 h1
   unfold nV at h
   unfold vI
   by_cases hk : eY c (a - 268500992) = 0
   . rw [if_pos hk] at h; rw [if_pos hk]; unfold Tm.val; rw [if_neg h]
   . rw [if_neg hk]
 . exact Wd.val_none (by omega) h
 . unfold hI; rw [if_neg h]
 . unfold Rk.valE; rw [if_neg h]
 . unfold rX; rw [if_neg h]
theorem oR (a : Int) (H : aU w B x) (a0 : 0 <= a) (a1 : a < 4294967296) :
 Calls prog 130 #[.pointer (some ⟨B.bp, 0, none⟩), .int .u32 a] w fun e w' => e = .returned (.tuple #[.int .u32 (x.ldv B.n B.c a), .int .i64 (Bx.lde B.n B.c a)]) /\ Below w.heap.size w w' := by
 have hz : Bx.lde B.n B.c a ≠ 0 -> x.ldv B.n B.c a = 0 := sF a0
 have hend : ∀ {w'}, aE (fun _ => False) w w' -> Below w.heap.size w w' := fun h => h.below (fun _ _ h => h) (Nat.le_refl _)
 unfold Bx.lde at hz ⊢
 unfold Bx.ldv at hz ⊢
 rcases uJ a with ⟨h4, e⟩ | ⟨h4, h0, h1, e⟩ | ⟨h4, h0, h1, e⟩ | ⟨h4, h0, h1, e⟩ | ⟨h4, h0, h1, e⟩ | ⟨h4, h0, h1, e⟩ | ⟨h4, h0, h1, e⟩ | ⟨h4, h, e⟩ <;> rw [e] at hz ⊢ <;> simp only at hz ⊢
 . exact mE _ a 11 w (by decide) fun w' _ => uM a _ w' a0 (by simpa using h4)
 . exact (jW B.bp B.bm B.rv B.R B.ks B.pv (jY B) a 33554432 49152 _ _ 98 (eB B.pc) 269 (fun _ => False) (fun _ => True) w a0 a1 (by simpa using h4) H.bus hz (fun _ _ => by unfold eB; kernel_rfl) (enters_of func269 (by kernel_rfl) rfl) (yT B a h0 h1) (by decide) h0 (fun h => h) (fun _ h => h.elim)
    (fun w' ho => (aAy _ _ _ _ _ B.pc B.mc w' (H.atBus ho).c (by omega) (by omega)).mono fun e w'' h => ⟨h.1, aE.ofBelow h.2, trivial⟩) (fun _ _ _ _ => trivial)).mono fun e w' h => ⟨h.1, hend h.2.1⟩
 . exact (jW B.bp B.bm B.rv B.R B.ks B.pv (jY B) a 268500992 256 _ _ 99 (eB B.pb) 274 (fun _ => False) (fun _ => True) w a0 a1 (by simpa using h4) H.bus hz (fun _ _ => by unfold eB; kernel_rfl) (enters_of func274 (by kernel_rfl) rfl) (yS B a h0 h1) (by decide) h0 (fun h => h) (fun _ h => h.elim)
    (fun w' ho => (aAr (H.atBus ho).b _ (by omega) (by omega)).mono fun e w'' h => ⟨h.1, h.2 ▸ aE.refl _ _, trivial⟩) (fun _ _ _ _ => trivial)).mono fun e w' h => ⟨h.1, hend h.2.1⟩
 . exact (jW B.bp B.bm B.rv B.R B.ks B.pv (jY B) a 268566528 20 _ _ 100 (eB B.pd) 143 (fun _ => False) (fun _ => True) w a0 a1 (by simpa using h4) H.bus hz (fun _ _ => by unfold eB; kernel_rfl) (enters_of func143 (by kernel_rfl) rfl) (yU B a h0 h1) (by decide) h0 (fun h => h) (fun _ h => h.elim)
    (fun w' ho => (aA5 x.wd _ B.pd w' H.ok.wd (H.atBus ho).d (by omega) (by omega)).mono fun e w'' h => ⟨h.1, aE.ofBelow h.2, trivial⟩) (fun _ _ _ _ => trivial)).mono fun e w' h => ⟨h.1, hend h.2.1⟩
 . exact (jW B.bp B.bm B.rv B.R B.ks B.pv (jY B) a 268632064 16 _ _ 101 (eB B.ps) 291 (fun _ => False) (fun _ => True) w a0 a1 (by simpa using h4) H.bus hz (fun _ _ => by unfold eB; kernel_rfl) (enters_of func291 (by kernel_rfl) rfl) (yY B a h0 h1) (by decide) h0 (fun h => h) (fun _ h => h.elim)
    (fun w' ho => (aAK x.rs _ B.ps w' H.ok.rs (H.atBus ho).s (by omega) (by omega)).mono fun e w'' h => ⟨h.1, aE.ofBelow h.2, trivial⟩) (fun _ _ _ _ => trivial)).mono fun e w' h => ⟨h.1, hend h.2.1⟩
 . exact (jW B.bp B.bm B.rv B.R B.ks B.pv (jY B) a 268697600 36 _ _ 102 (eB B.pr) 150 (fun _ => False) (fun _ => True) w a0 a1 (by simpa using h4) H.bus hz (fun _ _ => by unfold eB; kernel_rfl) (enters_of func150 (by kernel_rfl) rfl) (yX B a h0 h1) (by decide) h0 (fun h => h) (fun _ h => h.elim)
    (fun w' ho => (aA9 x.rk _ B.pr w' H.ok.rk (H.atBus ho).r (by omega) (by omega)).mono fun e w'' h => ⟨h.1, aE.ofBelow h.2, trivial⟩) (fun _ _ _ _ => trivial)).mono fun e w' h => ⟨h.1, hend h.2.1⟩
 . exact (jW B.bp B.bm B.rv B.R B.ks B.pv (jY B) a 268763136 12 _ _ 103 (eB B.pl) 302 (fun _ => False) (fun _ => True) w a0 a1 (by simpa using h4) H.bus hz (fun _ _ => by unfold eB; kernel_rfl) (enters_of func302 (by kernel_rfl) rfl) (yV B a h0 h1) (by decide) h0 (fun h => h) (fun _ h => h.elim)
    (fun w' ho => (aBJ _ _ _ B.pl w' (H.atBus ho).l (by omega) (by omega)).mono fun e w'' h => ⟨h.1, aE.ofBelow h.2, trivial⟩) (fun _ _ _ _ => trivial)).mono fun e w' h => ⟨h.1, hend h.2.1⟩
 . exact mE _ a 10 w (by decide) fun w' hb => xI a _ _ B.bp B.bm B.rv B.R B.ks B.pv (jY B) w' a0 a1 (by simpa using h4) (H.bus.ofBelow hb) (yW B a h)
end
end Go.Proofs.YtealhichdbimlaaGreat.B
namespace Go.Proofs.YtealhichdbimlaaGreat.B
open Go.Proofs.Tryz
open Go.ChangeShapes Go.WideShapes Go.RowKit Go.Sort Go.Shelf
theorem iBd : (prog.info? 109).map (·.size) = some 11 := by kernel_rfl
section
variable {ops : Array Oper} {rest : List Oper} {o : Oper} {a : Act} {w : World} {Q : Exit -> Act -> World -> Prop}
theorem zM (hgd : o.guard = none) (x : Operand) (ho : o.op = .load 109 x) {b : Nat} (hx : a.eval x = .pointer (some ⟨b, 0, none⟩)) (vs : List Value) (hl : vs.length = 11) (hg : w.heap[b]? = some (.cells vs.toArray uB (0, 0)))
 (h : wpList prog ops Q rest (a.put o.dst (.agg vs.toArray)) w) : wpList prog ops Q (o :: rest) a w :=
 bJ hgd _ x ho b 0 hx _ vs hg underlying109 rfl (by rw [hl]; exact iBd) (bB _) h
theorem wI (hgd : o.guard = none) (x y : Operand) (ho : o.op = .store 109 x y) {b : Nat} (hx : a.eval x = .pointer (some ⟨b, 0, none⟩)) (vs us : List Value) (hl : vs.length = 11) (hu : us.length = 11) (h1 : ∀ v ∈ vs, v.oneCell' = true) (hy : a.eval y = .agg vs.toArray) (hg : w.heap[b]? = some (.cells us.toArray uB (0, 0)))
 (h : wpList prog ops Q rest (a.put o.dst undef) (w.setRow b vs.toArray)) : wpList prog ops Q (o :: rest) a w := by
 refine aT hgd _ x y ho b 0 hx vs hy hg (by rw [hl]; exact iBd) (by simp [hl, hu]) h1 ?_
 rw [bR _ _ (by simp [hl, hu])]
 exact h
theorem aBb {fn : Func} {p : Tmp} (h : fn.results = #[.cell p 109]) (tmps : Array Value) (w : World) {b : Nat} (vs : List Value) (hl : vs.length = 11) (hp : tmps[p]? = some (.pointer (some ⟨b, 0, none⟩))) (hg : w.heap[b]? = some (.cells vs.toArray uB (0, 0))) :
 (results fn tmps).run prog w = .ok (.agg vs.toArray) w :=
 bH h tmps w b 0 _ vs hp hg underlying109 rfl (by rw [hl]; exact iBd) (bB _)
end
def Bp.l11 (B : Bp) : List Value := [.pointer (some ⟨B.pc, 0, none⟩), .pointer (some ⟨B.pb, 0, none⟩), .pointer (some ⟨B.pd, 0, none⟩), .pointer (some ⟨B.ps, 0, none⟩), .pointer (some ⟨B.pr, 0, none⟩), .pointer (some ⟨B.pl, 0, none⟩), .int .i64 B.n, .int .i64 B.c, .int .u32 B.div, .pointer (some ⟨B.bp, 0, none⟩), B.ev]
def z11 : List Value := [.pointer none, .pointer none, .pointer none, .pointer none, .pointer none, .pointer none, .int .i64 0, .int .i64 0, .int .u32 0, .pointer none, .slice none 0 0]
theorem vK (B : Bp) (he : B.ev.oneCell' = true) : ∀ v ∈ B.l11, v.oneCell' = true := by
 intro v hv
 simp only [Bp.l11, List.mem_cons, List.not_mem_nil, or_false] at hv
 rcases hv with rfl | rfl | rfl | rfl | rfl | rfl | rfl | rfl | rfl | rfl | rfl <;> first | rfl | exact he
theorem yR {w : World} {T : TypeId} {v : Value} {es : List (Int × Int)} (h : eR w T v es) : v.oneCell' = true := by
 rcases eF h with ⟨rfl, _⟩ | ⟨g, cap, rfl, _⟩ <;> rfl
theorem aAv (B : Bp) (x : Bx) (w : World) (H : aU w B x) :
 Calls prog 44 #[.pointer (some ⟨B.b, 0, none⟩)] w fun e w' => e = .returned (.agg #[.pointer (some ⟨B.pc, 0, none⟩), .pointer (some ⟨B.pb, 0, none⟩), .pointer (some ⟨B.pd, 0, none⟩), .pointer (some ⟨B.ps, 0, none⟩), .pointer (some ⟨B.pr, 0, none⟩), .pointer (some ⟨B.pl, 0, none⟩), .int .i64 B.n, .int .i64 B.c, .int .u32 B.div, .pointer (some ⟨B.bp, 0, none⟩), B.ev]) /\ Below w.heap.size w w' := by
 have hg : (w.alloc (.cells #[.pointer none, .pointer none, .pointer none, .pointer none, .pointer none, .pointer none, .int .i64 0, .int .i64 0, .int .u32 0, .pointer none, .slice none 0 0] 109)).heap[B.b]? = some (.cells B.l11.toArray uB (0, 0)) := (aH w _ (lt_of_block H.cell)).trans H.cell
 have hz : (w.alloc (.cells #[.pointer none, .pointer none, .pointer none, .pointer none, .pointer none, .pointer none, .int .i64 0, .int .i64 0, .int .u32 0, .pointer none, .slice none 0 0] 109)).heap[w.heap.size]? = some (.cells z11.toArray uB (0, 0)) := aD w _
 have h1 := vK B (yR H.ev)
 have hs := cL B.l11.toArray hz
 have hb := aR (aO (aV w) (.cells #[.pointer none, .pointer none, .pointer none, .pointer none, .pointer none, .pointer none, .int .i64 0, .int .i64 0, .int .u32 0, .pointer none, .slice none 0 0] 109)) B.l11.toArray (g := w.heap.size) (Nat.le_refl _)
 go_enter func44, ntmps44
 go_wp2_with (first | (refine zM rfl (.tmp 7) rfl rfl B.l11 rfl hg ?_) | (refine wI rfl (.tmp 2) (.tmp 8) rfl rfl B.l11 z11 rfl rfl h1 rfl hz ?_))
 exact bodyPost_ret (aBb rfl _ _ B.l11 rfl rfl hs) rfl ⟨rfl, hb⟩
theorem fB2 (a0 a1 a2 a3 a4 a5 a6 a7 a8 a9 a10 : Value) (w : World) : (Instr.field 109 (.agg #[a0, a1, a2, a3, a4, a5, a6, a7, a8, a9, a10]) 2).run prog w = .ok a9 w := by kernel_rfl
theorem zC : (prog.info? 148).map (fun i => (i.zero, i.size, i.bytes)) = some (some (.agg #[.int .u64 0, .int .i64 0]), 2, 16) := by kernel_rfl
end Go.Proofs.YtealhichdbimlaaGreat.B
