/- A part of the proof of a law of layer 12: ah. -/
import Derived.Test.YtealhichdbimlaaGreatZNag
set_option linter.unusedVariables false
set_option linter.unusedSimpArgs false
set_option maxHeartbeats 12800000
set_option maxRecDepth 100000
namespace Go.Proofs.YtealhichdbimlaaGreat.B
open Go.Proofs.Tryz
open Go.ChangeShapes Go.WideShapes Go.RowKit Go.Sort
structure Bx where
 ti : Int
 D : Nat -> Int
 S : Nat -> Int
 tm : Nat -> Tm
 wd : Wd
 rs : Rs
 rk : Rk
 msk : Int
 es : List (Int × Int)
structure Bx.ok (n c : Nat) (x : Bx) : Prop where
 n0 : 1 <= n
 n8 : n <= 8
 c0 : 1 <= c
 c8 : c <= 8
 t0 : 0 <= x.ti
 t1 : x.ti < 18446744073709551616
 d : uR x.D
 s : uS x.S
 tm : ∀ i, i < c -> (x.tm i).ok
 wd : x.wd.ok
 rs : x.rs.ok
 rk : x.rk.ok
 m0 : 0 <= x.msk
 m1 : x.msk < 4294967296
def Bx.still (x : Bx) : Prop := x.wd.fa = 0 /\ x.rs.qs = false
def fH (n c : Nat) (x : Bx) (i : Nat) : Bool :=
 if i < 8 then decide (i < n) && decide (x.D i <= x.ti) else if i < 16 then decide (i - 8 < c) && ((x.tm (i - 8)).st && (x.tm (i - 8)).iq) else if i = 16 then x.rk.st else if i < 24 then false else decide (i - 24 < n) && (x.S (i - 24) == 1)
def wires (n c : Nat) (x : Bx) : Int := ob (fH n c x) 32
theorem bU (n c : Nat) (x : Bx) : 0 <= wires n c x /\ wires n c x < 4294967296 := eP _ _ (Nat.le_refl _)
theorem xT (f : Nat -> Bool) (i : Nat) : dZ (ob f 32) i = (decide (i < 32) && f i) := eW f i
theorem gA (n c : Nat) (x : Bx) (i : Nat) (h : i < 32) : dZ (wires n c x) i = fH n c x i := by unfold wires; rw [xT, decide_eq_true h, Bool.true_and]
theorem qK (f : Nat -> Bool) (c : Nat) (hc : c <= 8) (i : Nat) (hi : i < 32) : dZ (put 0 8 8 (ob f c)) i = (decide (8 <= i) && (decide (i - 8 < c) && f (i - 8))) := by
 unfold put
 rw [if_pos (by decide)]
 show dZ ((bN (dL 0 8 8 (ob f c)) 32 : Nat) : Int) i = _
 rw [eW, decide_eq_true hi, Bool.true_and]
 unfold dL
 rw [show (8 : Int).toNat = 8 from rfl, show (0 : Int).toNat = 0 from rfl, Nat.zero_testBit]
 unfold ob
 rw [Int.toNat_natCast, cE]
 by_cases h8 : 8 <= i
 . rw [decide_eq_true h8, Bool.true_and]
   by_cases h16 : i - 8 < 8
   . rw [if_pos ⟨h8, h16⟩]
   . rw [if_neg (fun h => h16 h.2), decide_eq_false (by omega), Bool.false_and]
 . rw [if_neg (fun h => h8 h.1), decide_eq_false h8, Bool.false_and]
theorem mD (c : Nat) (x : Bx) (hc : c <= 8) (b : Bool) (hb : x.rk.st = b) : put (put 0 8 8 (ob (fun i => (x.tm i).st && (x.tm i).iq) c)) 16 1 (tk b) = wires 0 c x := by
 have h0 := cK 0 8 8 (ob (fun i => (x.tm i).st && (x.tm i).iq) c) (by decide) (by decide)
 have h1 := cK _ 16 1 (tk b) h0.1 h0.2
 have h2 := bU 0 c x
 refine jS h1.1 h1.2 h2.1 h2.2 fun i hi => ?_
 have e := eD (put 0 8 8 (ob (fun i => (x.tm i).st && (x.tm i).iq) c)) 16 b (by decide) h0.1 i hi
 rw [show ((16 : Nat) : Int) = 16 from rfl] at e
 rw [e, gA _ _ _ _ hi, qK _ c hc i hi]
 unfold fH
 subst hb
 by_cases h : i = 16
 . subst h; simp
 . rw [if_neg h]
   by_cases a : i < 8
   . rw [if_pos a, decide_eq_false (by omega)]; simp
   . rw [if_neg a, decide_eq_true (show 8 <= i by omega), Bool.true_and]
     by_cases b : i < 16
     . rw [if_pos b]
     . rw [if_neg b, if_neg h, decide_eq_false (by omega)]; simp
theorem nO (k c : Nat) (x : Bx) (hk : k < 8) (a b : Bool) (ha : decide (x.D k <= x.ti) = a) (hb : (x.S k == 1) = b) : put (put (wires k c x) (k : Int) 1 (tk a)) ((24 + k : Nat) : Int) 1 (tk b) = wires (k + 1) c x := by
 have h := bU k c x
 have h0 := cK _ (k : Int) 1 (tk a) h.1 h.2
 have h1 := cK _ ((24 + k : Nat) : Int) 1 (tk b) h0.1 h0.2
 have h2 := bU (k + 1) c x
 refine jS h1.1 h1.2 h2.1 h2.2 fun i hi => ?_
 rw [eD _ (24 + k) b (by omega) h0.1 i hi, eD _ k a (by omega) h.1 i hi, gA _ _ _ _ hi, gA _ _ _ _ hi]
 unfold fH
 subst ha hb
 by_cases e : i = 24 + k
 . subst e
   rw [if_pos rfl, if_neg (by omega), if_neg (by omega), if_neg (by omega), if_neg (by omega), show 24 + k - 24 = k by omega, decide_eq_true (Nat.lt_succ_self k), Bool.true_and]
 . rw [if_neg e]
   by_cases f : i = k
   . subst f
     rw [if_pos rfl, if_pos hk, decide_eq_true (Nat.lt_succ_self i), Bool.true_and]
   . rw [if_neg f]
     by_cases a : i < 8
     . rw [if_pos a, if_pos a]
       congr 1
       by_cases g : i < k
       . rw [decide_eq_true g, decide_eq_true (by omega)]
       . rw [decide_eq_false g, decide_eq_false (by omega)]
     . rw [if_neg a, if_neg a]
       by_cases b : i < 16
       . rw [if_pos b, if_pos b]
       . rw [if_neg b, if_neg b]
         by_cases c : i = 16
         . rw [if_pos c, if_pos c]
         . rw [if_neg c, if_neg c]
           by_cases d : i < 24
           . rw [if_pos d, if_pos d]
           . rw [if_neg d, if_neg d]
             congr 1
             by_cases g : i - 24 < k
             . rw [decide_eq_true g, decide_eq_true (by omega)]
             . rw [decide_eq_false g, decide_eq_false (by omega)]
structure Bx.like (c : Nat) (x y : Bx) : Prop where
 ti : x.ti = y.ti
 D : x.D = y.D
 S : x.S = y.S
 tm : ∀ i, i < c -> x.tm i = y.tm i
 wd : x.wd = y.wd
 rs : x.rs = y.rs
 rk : x.rk = y.rk
 msk : x.msk = y.msk
 es : x.es = y.es
theorem Bx.like.refl (c : Nat) (x : Bx) : Bx.like c x x := ⟨rfl, rfl, rfl, fun _ _ => rfl, rfl, rfl, rfl, rfl, rfl⟩
theorem Bx.like.symm {c : Nat} {x y : Bx} (h : Bx.like c x y) : Bx.like c y x := ⟨h.ti.symm, h.D.symm, h.S.symm, fun i hi => (h.tm i hi).symm, h.wd.symm, h.rs.symm, h.rk.symm, h.msk.symm, h.es.symm⟩
theorem Bx.like.trans {c : Nat} {x y z : Bx} (h : Bx.like c x y) (k : Bx.like c y z) : Bx.like c x z := ⟨h.ti.trans k.ti, h.D.trans k.D, h.S.trans k.S, fun i hi => (h.tm i hi).trans (k.tm i hi), h.wd.trans k.wd, h.rs.trans k.rs, h.rk.trans k.rk, h.msk.trans k.msk, h.es.trans k.es⟩
theorem Bx.like.ok {n c : Nat} {x y : Bx} (h : Bx.like c x y) (o : x.ok n c) : y.ok n c :=
 ⟨o.n0, o.n8, o.c0, o.c8, h.ti ▸ o.t0, h.ti ▸ o.t1, h.D ▸ o.d, h.S ▸ o.s, fun i hi => h.tm i hi ▸ o.tm i hi, h.wd ▸ o.wd, h.rs ▸ o.rs, h.rk ▸ o.rk, h.msk ▸ o.m0, h.msk ▸ o.m1⟩
theorem Bx.like.still {c : Nat} {x y : Bx} (h : Bx.like c x y) (o : x.still) : y.still := ⟨h.wd ▸ o.1, h.rs ▸ o.2⟩
theorem Bx.like.fH {n c : Nat} {x y : Bx} (h : Bx.like c x y) (i : Nat) : fH n c x i = fH n c y i := by
 unfold B.fH
 rw [h.D, h.ti, h.S, h.rk]
 by_cases a : i < 8
 . rw [if_pos a, if_pos a]
 . rw [if_neg a, if_neg a]
   by_cases b : i < 16
   . rw [if_pos b, if_pos b]
     by_cases g : i - 8 < c
     . rw [h.tm _ g]
     . rw [decide_eq_false g, Bool.false_and, Bool.false_and]
   . rw [if_neg b, if_neg b]
theorem Bx.like.wires {n c : Nat} {x y : Bx} (h : Bx.like c x y) : wires n c x = wires n c y := sT _ _ 32 fun i _ => h.fH i
def Bx.on (x : Bx) (k : Int) : Bx := { x with ti := dS x.ti k, tm := fun i => (x.tm i).tick k, rk := x.rk.tick k }
def Bx.later (x : Bx) (N : Int) : Bx := { x.on (x.wd.ran N) with wd := x.wd.tick N }
def Bx.rst (x : Bx) (cause : Int) : Bx := ⟨x.ti, zT, mG, fun _ => tz, wz, x.rs.ltc cause, x.rk.zero, 0, x.es ++ [(x.ti, cause)]⟩
def Bx.tick (x : Bx) (N : Int) : Bx :=
 if (x.later N).wd.fa = 0 then x.later N else { (x.later N).rst (x.later N).wd.fa with ti := dS (x.later N).ti (N - x.wd.ran N), rk := (x.later N).rk.zero.tick (N - x.wd.ran N) }
theorem dD {t : Wd} (h : t.ok) (hf : t.fa = 0) {N : Int} (n0 : 0 <= N) : 0 <= t.ran N /\ t.ran N <= N := by
 unfold Wd.ran
 rw [if_neg (by simpa using hf)]
 have := h.s1
 split
 . split <;> omega
 . omega
theorem vZ {t : Wd} (hf : t.fa = 0) {N : Int} (h : (t.tick N).fa = 0) : t.ran N = N := by
 unfold Wd.ran Wd.tick at *
 rw [if_neg (by simpa using hf)]
 split
 . rename_i he
   split
   . rename_i hs
     rw [if_pos ⟨he, hf⟩, if_pos hs] at h
     exact absurd h (show ¬ (2 : Int) = 0 by decide)
   . rfl
 . rfl
theorem dX {t : Wd} (hf : t.fa = 0) {N : Int} (h : (t.tick N).fa ≠ 0) : (t.tick N).fa = 2 := by
 unfold Wd.tick at *
 split at h
 . rename_i he
   split at h
   . rename_i hs; rw [if_pos he, if_pos hs]
   . exact absurd hf h
 . exact absurd hf h
theorem kH : iK 2 := .inl rfl
theorem jI {a : Int} (h0 : 0 <= a) (h1 : a < 18446744073709551616) : dS a 0 = a := by unfold dS; split <;> omega
theorem Rk.tick_zero {t : Rk} (h : t.ok) : t.tick 0 = t := by
 have e : t.adv 0 = t := by
  have := h.r0; have := h.r1; have := h.s1
  obtain ⟨d, r, s, sec, al, ah, en, st⟩ := t
  simp only at *
  unfold Rk.adv
  simp only [Int.add_zero]
  rw [Int.ediv_eq_zero_of_lt (by omega) (by omega), Int.emod_eq_of_lt (by omega) (by omega), Int.add_zero, Int.min_eq_left (by unfold sQ; omega)]
 unfold Rk.tick Rk.behind
 rw [e]
 cases t.met <;> rfl
theorem Wd.tick_zero {t : Wd} (h : t.ok) : t.tick 0 = t := by
 unfold Wd.tick
 split
 . rename_i he
   have := h.run he.1 he.2
   rw [if_neg (by omega)]
   simp
 . rfl
theorem wM (N : Int) : tz.tick N = tz := Tm.tick_off rfl N
theorem wR (N : Int) : wz.tick N = wz := rfl
theorem uK (N : Int) : wz.ran N = N := rfl
section
variable {n c : Nat} {x : Bx}
theorem Bx.on_ok (h : x.ok n c) {k : Int} (k0 : 0 <= k) (k1 : k < 18446744073709551616) : (x.on k).ok n c :=
 ⟨h.n0, h.n8, h.c0, h.c8, (dI h.t0 h.t1 k0 k1).1, (dI h.t0 h.t1 k0 k1).2, h.d, h.s, fun i hi => Tm.tick_ok (h.tm i hi) k0, h.wd, h.rs, Rk.tick_ok h.rk k0, h.m0, h.m1⟩
theorem Bx.later_ok (h : x.ok n c) (hf : x.wd.fa = 0) {N : Int} (n0 : 0 <= N) (n1 : N < 18446744073709551616) : (x.later N).ok n c := by
 have hb := dD h.wd hf n0
 have o := Bx.on_ok h hb.1 (Int.lt_of_le_of_lt hb.2 n1)
 exact ⟨o.n0, o.n8, o.c0, o.c8, o.t0, o.t1, o.d, o.s, o.tm, Wd.tick_ok h.wd n0, o.rs, o.rk, o.m0, o.m1⟩
theorem Bx.rst_ok (h : x.ok n c) (cause : Int) : (x.rst cause).ok n c :=
 ⟨h.n0, h.n8, h.c0, h.c8, h.t0, h.t1, nE, kN, fun _ _ => oM, xK, Rs.ltc_ok h.rs cause, Rk.zero_ok h.rk, Int.le_refl _, (by show (0 : Int) < 4294967296; decide)⟩
theorem nA {t : Rs} {cause : Int} (h : iK cause) : (t.ltc cause).qs = false := by unfold Rs.ltc; rw [if_pos h]; rfl
theorem Bx.rst_still {cause : Int} (hc : iK cause) : (x.rst cause).still := ⟨rfl, nA hc⟩
theorem Bx.tick_no {N : Int} (h : (x.later N).wd.fa = 0) : x.tick N = x.later N := by unfold Bx.tick; rw [if_pos h]
theorem Bx.tick_yes {N : Int} (h : (x.later N).wd.fa ≠ 0) : x.tick N = { (x.later N).rst (x.later N).wd.fa with ti := dS (x.later N).ti (N - x.wd.ran N), rk := (x.later N).rk.zero.tick (N - x.wd.ran N) } := by unfold Bx.tick; rw [if_neg h]
theorem Bx.tick_ok (h : x.ok n c) (hs : x.still) {N : Int} (n0 : 0 <= N) (n1 : N < 18446744073709551616) : (x.tick N).ok n c /\ (x.tick N).still := by
 have hl := Bx.later_ok h hs.1 n0 n1
 have hb := dD h.wd hs.1 n0
 by_cases hf : (x.later N).wd.fa = 0
 . rw [Bx.tick_no hf]; exact ⟨hl, hf, hs.2⟩
 . rw [Bx.tick_yes hf]
   have o := Bx.rst_ok hl (x.later N).wd.fa
   have a := dI hl.t0 hl.t1 (show 0 <= N - x.wd.ran N by omega) (show N - x.wd.ran N < 18446744073709551616 by omega)
   exact ⟨⟨o.n0, o.n8, o.c0, o.c8, a.1, a.2, o.d, o.s, o.tm, o.wd, o.rs, Rk.tick_ok (Rk.zero_ok hl.rk) (by omega), o.m0, o.m1⟩, rfl, nA (by
    have e : (x.later N).wd.fa = 2 := dX hs.1 hf
    rw [e]; exact kH)⟩
theorem Bx.rst_later (x : Bx) (cause N : Int) : (x.rst cause).later N = { x.rst cause with ti := dS x.ti N, rk := x.rk.zero.tick N } := by
 unfold Bx.later Bx.on Bx.rst
 simp only [uK, wR, wM]
theorem Bx.later_zero (h : x.ok n c) (hf : x.wd.fa = 0) : Bx.like c x (x.later 0) := by
 have e : x.wd.ran 0 = 0 := by have := dD h.wd hf (Int.le_refl 0); omega
 refine ⟨?_, rfl, rfl, fun i hi => ?_, ?_, rfl, ?_, rfl, rfl⟩
 . show x.ti = dS x.ti (x.wd.ran 0); rw [e, jI h.t0 h.t1]
 . show x.tm i = (x.tm i).tick (x.wd.ran 0); rw [e, Tm.tick_zero (h.tm i hi)]
 . show x.wd = x.wd.tick 0; rw [Wd.tick_zero h.wd]
 . show x.rk = x.rk.tick (x.wd.ran 0); rw [e, Rk.tick_zero h.rk]
theorem Bx.tick_zero (h : x.ok n c) (hs : x.still) : Bx.like c x (x.tick 0) := by
 have l := Bx.later_zero h hs.1
 rw [Bx.tick_no (l.wd ▸ hs.1)]; exact l
end
def dl (t : Wd) : List Value := [.bool t.en, .bool t.lk, .int .i64 t.fa, .int .u32 t.cl, .int .u32 t.tot, .int .u64 t.si, .bool t.ar]
abbrev tD : TypeId := 226
def bV (w : World) (b : Nat) (t : Wd) : Prop := w.heap[b]? = some (.cells (dl t).toArray tD (0, 0))
section
variable {w w' : World} {b : Nat} {t : Wd}
theorem bV.lt (h : bV w b t) : b < w.heap.size := lt_of_block h
theorem bV.below (h : bV w b t) (hb : Below w.heap.size w w') : bV w' b t := aB hb h h.lt
theorem bV.off {S : Nat -> Prop} (h : bV w b t) (ho : aE S w w') (hs : ¬ S b) : bV w' b t := ho.at h hs
theorem bV.free (h : bV w b t) (j : Nat) : w.frozen? ⟨b, j, none⟩ = false := aG h j
theorem bV.c0 (h : bV w b t) : w.cell? ⟨b, 0, none⟩ = some (.bool t.en) := by rw [aA h 0]; rfl
theorem bV.c1 (h : bV w b t) : w.cell? ⟨b, 1, none⟩ = some (.bool t.lk) := by rw [aA h 1]; rfl
theorem bV.c2 (h : bV w b t) : w.cell? ⟨b, 2, none⟩ = some (.int .i64 t.fa) := by rw [aA h 2]; rfl
theorem bV.c3 (h : bV w b t) : w.cell? ⟨b, 3, none⟩ = some (.int .u32 t.cl) := by rw [aA h 3]; rfl
theorem bV.c4 (h : bV w b t) : w.cell? ⟨b, 4, none⟩ = some (.int .u32 t.tot) := by rw [aA h 4]; rfl
theorem bV.c5 (h : bV w b t) : w.cell? ⟨b, 5, none⟩ = some (.int .u64 t.si) := by rw [aA h 5]; rfl
theorem bV.c6 (h : bV w b t) : w.cell? ⟨b, 6, none⟩ = some (.bool t.ar) := by rw [aA h 6]; rfl
theorem bV.set (h : bV w b t) (j : Nat) (x : Value) {s : Wd} (he : (dl t).set j x = dl s) : bV (w.setCell ⟨b, j, none⟩ x) b s := by
 unfold bV; rw [aK h, <- he]; simp
theorem bV.s0 (h : bV w b t) (x : Bool) : bV (w.setCell ⟨b, 0, none⟩ (.bool x)) b { t with en := x } := h.set _ _ rfl
theorem bV.s1 (h : bV w b t) (x : Bool) : bV (w.setCell ⟨b, 1, none⟩ (.bool x)) b { t with lk := x } := h.set _ _ rfl
theorem bV.s2 (h : bV w b t) (x : Int) : bV (w.setCell ⟨b, 2, none⟩ (.int .i64 x)) b { t with fa := x } := h.set _ _ rfl
theorem bV.s3 (h : bV w b t) (x : Int) : bV (w.setCell ⟨b, 3, none⟩ (.int .u32 x)) b { t with cl := x } := h.set _ _ rfl
theorem bV.s4 (h : bV w b t) (x : Int) : bV (w.setCell ⟨b, 4, none⟩ (.int .u32 x)) b { t with tot := x } := h.set _ _ rfl
theorem bV.s5 (h : bV w b t) (x : Int) : bV (w.setCell ⟨b, 5, none⟩ (.int .u64 x)) b { t with si := x } := h.set _ _ rfl
theorem bV.s6 (h : bV w b t) (x : Bool) : bV (w.setCell ⟨b, 6, none⟩ (.bool x)) b { t with ar := x } := h.set _ _ rfl
theorem bV.elseRow (h : bV w b t) (g : Nat) (cs : Array Value) (hne : b ≠ g) : bV (w.setRow g cs) b t := dE g cs h hne
end
theorem aB9 (w : World) : Calls prog 106 #[] w fun e w' => e = .returned (.pointer (some ⟨w.heap.size, 0, none⟩)) /\ w' = w.alloc (.cells (dl wz).toArray tD (0, 0)) := by
 go_enter func106, ntmps106
 exact aL
theorem rD (t : Wd) (p : Nat) (w : World) (a : bV w p t) : Calls prog 91 #[.pointer (some ⟨p, 0, none⟩)] w fun e w' => e = .returned (.int .i64 t.fa) /\ w = w' := by
 have x := a.c2
 go_enter func91, ntmps91
 exact aL
theorem rC (t : Wd) (p : Nat) (w : World) (a : bV w p t) : Calls prog 144 #[.pointer (some ⟨p, 0, none⟩)] w fun e w' => e = .returned (.bool t.en) /\ w = w' := by
 have x := a.c0
 go_enter func144, ntmps144
 go_wp2_with fail
 go_ret
 exact ⟨bI (by simp), rfl⟩
def oS (t : Wd) : Obj := .cells #[.bool t.en, .bool t.lk, .int .i64 t.fa] 224 (0, 0)
theorem aA6 (t : Wd) (w : World) : Calls prog 206 #[.agg #[.bool t.en, .bool t.lk, .int .i64 t.fa]] w fun e w' => e = .returned (.bool (decide (t.en = true /\ t.fa = 0))) /\ Below w.heap.size w w' := by
 have hb := aO (aV w) (oS t)
 by_cases hf : t.fa = 0
 . have q : (t.fa == 0) = true := by simpa using hf
   obtain ⟨en, hen⟩ : ∃ b, t.en = b := ⟨_, rfl⟩
   rw [hen]
   cases en
   all_goals
    rw [hf]
    have hb := aO (aV w) (.cells #[.bool t.en, .bool t.lk, .int .i64 t.fa] 224 (0, 0))
    rw [hf, hen] at hb
    go_enter func206, ntmps206
    go_wp2_with fail
    go_ret
    exact ⟨bI (by simp), hb⟩
 . have q : (t.fa == 0) = false := by simpa using hf
   have hd : decide (t.en = true /\ t.fa = 0) = false := by simp [hf]
   rw [hd]
   clear hf hd
   obtain ⟨en, hen⟩ : ∃ b, t.en = b := ⟨_, rfl⟩
   unfold oS at hb
   rw [hen] at hb ⊢
   cases en
   all_goals
    go_enter func206, ntmps206
    go_wp2_with fail
    go_ret
    exact ⟨rfl, hb⟩
theorem aAD : put 0 0 1 1 = 1 := by decide +kernel
theorem vW : put 0 1 1 1 = 2 := by decide +kernel
theorem vX : put 1 1 1 1 = 3 := by decide +kernel
theorem rB (t : Wd) (w : World) : Calls prog 205 #[.agg #[.bool t.en, .bool t.lk, .int .i64 t.fa]] w fun e w' => e = .returned (.int .u32 (tk t.en + 2 * tk t.lk)) /\ Below w.heap.size w w' := by
 have hb := aO (aV w) (oS t)
 unfold oS at hb
 obtain ⟨en, hen⟩ : ∃ b, t.en = b := ⟨_, rfl⟩
 obtain ⟨lk, hlk⟩ : ∃ b, t.lk = b := ⟨_, rfl⟩
 have P1 := Hd (fun w => by have := wV 0 0 1 1 w (by omega) (by omega) (by omega) (by omega) (by omega) (by omega); rw [aAD] at this; exact this)
 have P2 := Hd (fun w => by have := wV 0 1 1 1 w (by omega) (by omega) (by omega) (by omega) (by omega) (by omega); rw [vW] at this; exact this)
 have P3 := Hd (fun w => by have := wV 1 1 1 1 w (by omega) (by omega) (by omega) (by omega) (by omega) (by omega); rw [vX] at this; exact this)
 rw [hen, hlk] at hb ⊢
 cases en <;> cases lk
 . go_enter func205, ntmps205
   exact bX
 . go_enter func205, ntmps205
   go_wp2_with fail
   refine (P2.out _).mono ?_
   rintro e w' ⟨rfl, rfl⟩
   exact bX
 . go_enter func205, ntmps205
   go_wp2_with fail
   refine (P1.out _).mono ?_
   rintro e w' ⟨rfl, rfl⟩
   exact bX
 . go_enter func205, ntmps205
   go_wp2_with fail
   refine (P1.out _).mono ?_
   rintro e w' ⟨rfl, rfl⟩
   go_wp2_with fail
   refine (P3.out _).mono ?_
   rintro e w' ⟨rfl, rfl⟩
   exact bX
theorem uI {o : Int} (h : (o % 4 != 0) = true) : eH o = 11 := by unfold eH; rw [if_pos (by simpa using h)]
theorem uH {o : Int} (h : (o % 4 != 0) = false) (k : 20 <= o) : eH o = 10 := by unfold eH; rw [if_neg (by simpa using h), if_neg (by omega)]
theorem wP {o : Int} (h : (o % 4 != 0) = false) (k : o < 20) : eH o = 0 := by
 unfold eH; have : o % 4 = 0 := by simpa using h
 rw [if_neg (by simpa using h), if_pos (by omega)]
theorem pV {o : Int} (o0 : 0 <= o) (h : eH o = 0) : o = 0 \/ o = 4 \/ o = 8 \/ o = 12 \/ o = 16 := by
 unfold eH at h
 split at h
 . cases h
 . split at h
   . rename_i h1 h2
     have : o % 4 = 0 := by simpa using h1
     omega
   . cases h
theorem mR (x : Option Addr) (o : Int) (w : World) (o0 : 0 <= o) (o1 : o < 4294967296) (e : Int) (he : (if x = none then 10 else eH o) = e) :
 Calls prog 204 #[.pointer x, .int .u32 o] w fun e' w' => e' = .returned (.int .i64 e) /\ w = w' := by
 cases x with
 | none =>
   rw [if_pos rfl] at he; subst he
   go_enter func204, ntmps204
   go_wp2_with fail
   go_ret
   exact ⟨rfl, rfl⟩
 | some x =>
   rw [if_neg (by simp)] at he
   cases h4 : (o % 4 != 0)
   . by_cases h8 : 20 <= o
     . rw [uH h4 h8] at he; subst he
       go_enter func204, ntmps204
       go_wp2_with fail
       go_ret
       exact ⟨rfl, rfl⟩
     . rw [wP h4 (by omega)] at he; subst he
       go_enter func204, ntmps204
       go_wp2_with fail
       go_ret
       exact ⟨rfl, rfl⟩
   . rw [uI h4] at he; subst he
     go_enter func204, ntmps204
     go_wp2_with fail
     go_ret
     exact ⟨rfl, rfl⟩
theorem sL {a : Int} (h0 : 0 <= a) (h1 : a < 4294967296) : lo a = a := by unfold lo; omega
theorem Wd.val_none {t : Wd} {o : Int} (o0 : 0 <= o) (h : eH o ≠ 0) : t.val o = 0 := by
 unfold Wd.val
 rw [if_neg (fun e => h (by rw [e]; rfl)), if_neg (fun e => h (by rw [e]; rfl)), if_neg (fun e => h (by rw [e]; rfl)), if_neg (fun e => h (by rw [e]; rfl))]
theorem eJ {P : Prop} (h : P := by
 rintro e w1 ⟨rfl, hb⟩
 go_wp2_with fail
 go_ret2
 exact ⟨rfl, hb⟩
 ) : P := h
theorem aA5 (t : Wd) (o : Int) (p : Nat) (w : World) (h : t.ok) (a : bV w p t) (o0 : 0 <= o) (o1 : o < 4294967296) :
 Calls prog 143 #[.pointer (some ⟨p, 0, none⟩), .int .u32 o] w fun e w' => e = .returned (.tuple #[.int .u32 (t.val o), .int .i64 (eH o)]) /\ Below w.heap.size w w' := by
 have x0 := a.c0
 have x1 := a.c1
 have x2 := a.c2
 have x3 := a.c3
 have x4 := a.c4
 have x5 := a.c5
 have s0 := h.s0
 have s1 : t.si < 4294967296 := by have := h.s1; have := h.t1; omega
 have hL := Hd (fun w => by have := Lo t.si w s0 (by omega); rw [sL s0 s1] at this; exact this)
 have hC := Hd (fun w => rB t w)
 clear a h
 by_cases he : eH o = 0
 . rcases pV o0 he with rfl | rfl | rfl | rfl | rfl
   . go_enter func143, ntmps143
     go_wp2_with (go_at_call 204; refine (mR _ _ _ (by omega) (by omega) 0 (by rfl)).mono ?_; rintro e w' ⟨rfl, rfl⟩)
     refine (hC.out _).mono ?_
     exact eJ
   all_goals
    go_enter func143, ntmps143
    go_wp2_with (first | (go_at_call 204; refine (mR _ _ _ (by omega) (by omega) 0 (by rfl)).mono ?_; rintro e w' ⟨rfl, rfl⟩) | (go_at_call 163; refine (hL.out _).mono ?_; rintro e w' ⟨rfl, rfl⟩))
    go_ret2
    exact ⟨rfl, aV w⟩
 . rw [Wd.val_none o0 he]
   have hc : (if (some (⟨p, 0, none⟩ : Addr)) = none then 10 else eH o) = eH o := by rw [if_neg (by simp)]
   have hn : (eH o == 0) = false := by simpa using he
   have hn2 : (eH o != 0) = true := by simpa using he
   go_enter func143, ntmps143
   go_wp2_with fail
   refine (mR _ _ _ o0 o1 _ hc).mono ?_
   rintro e w' ⟨rfl, rfl⟩
   go_wp2_with fail
   go_ret2
   exact ⟨rfl, aV w⟩
theorem sU (w : World) (p : Nat) (cs : Array Value) : aE (· = p) w (w.setRow p cs) := ⟨rfl, rfl, rfl, by simp, fun k _ hs => setRow_other w p k cs hs⟩
def k8 (d r s : Int) (sec : Int) (al ah : Int) (en st : Bool) : List Value := [.int .u32 d, .int .u32 r, .int .u32 s, .int .u64 sec, .int .u32 al, .int .u32 ah, .bool en, .bool st]
def kl (t : Rk) : List Value := k8 t.div t.rest t.set t.sec t.al t.ah t.en t.st
abbrev tK : TypeId := 38
def cA (w : World) (b : Nat) (t : Rk) : Prop := w.heap[b]? = some (.cells (kl t).toArray tK (0, 0))
section
variable {w w' : World} {b : Nat} {t : Rk}
theorem cA.lt (h : cA w b t) : b < w.heap.size := lt_of_block h
theorem cA.below (h : cA w b t) (hb : Below w.heap.size w w') : cA w' b t := aB hb h h.lt
theorem cA.off {S : Nat -> Prop} (h : cA w b t) (ho : aE S w w') (hs : ¬ S b) : cA w' b t := ho.at h hs
theorem cA.free (h : cA w b t) (j : Nat) : w.frozen? ⟨b, j, none⟩ = false := aG h j
theorem cA.c0 (h : cA w b t) : w.cell? ⟨b, 0, none⟩ = some (.int .u32 t.div) := by rw [aA h 0]; rfl
theorem cA.c1 (h : cA w b t) : w.cell? ⟨b, 1, none⟩ = some (.int .u32 t.rest) := by rw [aA h 1]; rfl
theorem cA.c2 (h : cA w b t) : w.cell? ⟨b, 2, none⟩ = some (.int .u32 t.set) := by rw [aA h 2]; rfl
theorem cA.c3 (h : cA w b t) : w.cell? ⟨b, 3, none⟩ = some (.int .u64 t.sec) := by rw [aA h 3]; rfl
theorem cA.c4 (h : cA w b t) : w.cell? ⟨b, 4, none⟩ = some (.int .u32 t.al) := by rw [aA h 4]; rfl
theorem cA.c5 (h : cA w b t) : w.cell? ⟨b, 5, none⟩ = some (.int .u32 t.ah) := by rw [aA h 5]; rfl
theorem cA.c6 (h : cA w b t) : w.cell? ⟨b, 6, none⟩ = some (.bool t.en) := by rw [aA h 6]; rfl
theorem cA.put (h : cA w b t) (j : Nat) (x : Value) {s : Rk} (he : (kl t).set j x = kl s) : cA (w.setCell ⟨b, j, none⟩ x) b s := by
 unfold cA; rw [aK h, <- he]; simp
theorem cA.s0 (h : cA w b t) (x : Int) : cA (w.setCell ⟨b, 0, none⟩ (.int .u32 x)) b { t with div := x } := h.put _ _ rfl
theorem cA.s1 (h : cA w b t) (x : Int) : cA (w.setCell ⟨b, 1, none⟩ (.int .u32 x)) b { t with rest := x } := h.put _ _ rfl
theorem cA.s2 (h : cA w b t) (x : Int) : cA (w.setCell ⟨b, 2, none⟩ (.int .u32 x)) b { t with set := x } := h.put _ _ rfl
theorem cA.s3 (h : cA w b t) (x : Int) : cA (w.setCell ⟨b, 3, none⟩ (.int .u64 x)) b { t with sec := x } := h.put _ _ rfl
theorem cA.s4 (h : cA w b t) (x : Int) : cA (w.setCell ⟨b, 4, none⟩ (.int .u32 x)) b { t with al := x } := h.put _ _ rfl
theorem cA.s5 (h : cA w b t) (x : Int) : cA (w.setCell ⟨b, 5, none⟩ (.int .u32 x)) b { t with ah := x } := h.put _ _ rfl
theorem cA.s6 (h : cA w b t) (x : Bool) : cA (w.setCell ⟨b, 6, none⟩ (.bool x)) b { t with en := x } := h.put _ _ rfl
theorem cA.other (h : cA w b t) (k j : Nat) (x : Value) (hne : b ≠ k) : cA (w.setCell ⟨k, j, none⟩ x) b t := aJ h k j x hne
theorem cA.row {old : Array Value} (h : w.heap[b]? = some (.cells old tK (0, 0))) (t : Rk) : cA (w.setRow b (kl t).toArray) b t := cL _ h
theorem cA.elseRow (h : cA w b t) (g : Nat) (cs : Array Value) (hne : b ≠ g) : cA (w.setRow g cs) b t := dE g cs h hne
theorem cA.grown (h : cA w b t) : ∀ w', (∃ p : Regrown, w' = grow (redrawn w p.d) p.os) -> cA w' b t := bZ h
end
section
variable {ops : Array Oper} {rest : List Oper} {o : Oper} {a : Act} {w : World} {Q : Exit -> Act -> World -> Prop}
end
def uT : Rk := ⟨0, 0, 0, 0, 0, 0, false, false⟩
end Go.Proofs.YtealhichdbimlaaGreat.B
