/- A part of the proof of a law of layer 12: ah. -/
import Derived.Test.YtaohacadochldaaGreatZCag
set_option linter.unusedVariables false
set_option linter.unusedSimpArgs false
set_option maxHeartbeats 12800000
set_option maxRecDepth 100000
namespace Go.Proofs.YtaohacadochldaaGreat.B
open Go.Proofs.Tryz
open Go.ChangeShapes Go.WideShapes Go.RowKit Go.Sort
def hv (n : Int) (k : Nat) : Int := n / 2 ^ k
theorem aEX {n : Int} (h : 0 <= n) (k : Nat) : 0 <= hv n k := mU n k h
theorem aOH {n : Int} (h : 0 <= n) (k : Nat) : hv n k <= n := Int.ediv_le_self _ h
theorem aIg (n : Int) (k : Nat) : hv n (k + 1) = hv n k / 2 := by
 unfold hv; rw [Int.pow_succ, Int.ediv_ediv_of_nonneg (Int.le_of_lt (Int.pow_pos (by decide)))]
theorem Bit (n i : Int) (w : World) (h0 : 0 <= n) (h1 : n < 18446744073709551616) (i0 : 0 <= i) (i1 : i < 64) :
 Calls prog 193 #[.int .u64 n, .int .i64 i] w fun e w' => e = .returned (.bool (aO n i.toNat)) /\ w = w' := by
 obtain ⟨m, rfl⟩ := Int.eq_ofNat_of_zero_le i0
 rw [Int.toNat_natCast]
 go_enter func193, ntmps193
 go_wp2
 go_loop [0, 5] (fun v i => ∃ k : Nat, k <= m /\ i = .int .i64 k /\ v = .int .u64 (hv n k)) (fun _ i => m - (intOf i).toNat)
 case atStart => exact ⟨0, by omega, rfl, by simp [hv]⟩
 case round =>
  obtain ⟨k, hk, rfl, rfl⟩ := hrel
  have p1 := aEX h0 k
  have p2 := aOH h0 k
  by_cases hlt : k < m
  . go_wp2
    go_round
    case rel => exact ⟨k + 1, by omega, by go_num, by rw [aIg]⟩
    case measure => simp [intOf]; omega
  . go_wp2
    go_ret
    exact ⟨cU (by rw [show k = m by omega]; rfl), rfl⟩
theorem i25 : (prog.info? 33).map (·.size) = some 32 := by kernel_rfl
section
variable {ops : Array Oper} {rest : List Oper} {o : Oper} {a : Act} {w : World} {Q : Exit -> Act -> World -> Prop}
theorem rT (hgd : o.guard = none) (x : Operand) (ho : o.op = .load 33 x) (g off : Nat) (hx : a.eval x = .pointer (some ⟨g, off, none⟩)) {t : TypeId} {cs : Array Value} {fr : Nat × Nat} (f : Nat -> Bool) (hg : w.heap[g]? = some (.cells cs t fr)) (hp : eM cs off (bl f 32))
 (h : wpList prog ops Q rest (a.put o.dst (.agg (bl f 32).toArray)) w) : wpList prog ops Q (o :: rest) a w :=
 aN hgd _ x ho g off hx _ (bl f 32) hg underlying33 rfl (by rw [bI]; exact i25) hp h
theorem sZ (hgd : o.guard = none) (x y : Operand) (ho : o.op = .store 33 x y) (g off : Nat) (hx : a.eval x = .pointer (some ⟨g, off, none⟩)) (f : Nat -> Bool) (hy : a.eval y = .agg (bl f 32).toArray) {t : TypeId} {cs : Array Value} (hg : w.heap[g]? = some (.cells cs t (0, 0))) (hl : off + 32 <= cs.size)
 (h : wpList prog ops Q rest (a.put o.dst undef) (w.setRow g (bR cs off (bl f 32)))) : wpList prog ops Q (o :: rest) a w :=
 aJ hgd _ x y ho g off hx (bl f 32) hy hg (by rw [bI]; exact i25) (by rw [bI]; exact hl) (rO _ _) h
theorem aI3 {C : World -> Prop} {K : Act -> Prop} (x : Operand) (ho : o.op = .load 33 x) (g off : Nat) (hx : a.eval x = .pointer (some ⟨g, off, none⟩)) {t : TypeId} {cs : Array Value} {fr : Nat × Nat} (f : Nat -> Bool) (hg : ∀ w, C w -> w.heap[g]? = some (.cells cs t fr)) (hp : eM cs off (bl f 32))
 (h : K (a.put o.dst (.agg (bl f 32).toArray))) : o.quiet prog a C K :=
 bD _ x ho g off hx _ (bl f 32) hg underlying33 rfl (by rw [bI]; exact i25) hp h
end
theorem sU {w : World} {b : Nat} {f : Nat -> Bool} {t : TypeId} {fr : Nat × Nat} (h : w.heap[b]? = some (.cells (bl f 32).toArray t fr)) (k : Nat) (hk : k < 32) : w.cell? ⟨b, k, none⟩ = some (.bool (f k)) := by
 rw [cell_of_row w b k _ t fr h]; simpa using rN f 32 k hk
theorem aBT (f : Nat -> Bool) (w : World) :
 Calls prog 87 #[.agg (bl f 32).toArray] w fun e w' => e = .returned (.int .u32 (ob f 32)) /\ Below w.heap.size w w' := by
 go_enter func87, ntmps87
 go_wp2_with fail
 have hB := aD w (.cells (bl f 32).toArray 33)
 have hb : Below w.heap.size w (w.alloc (.cells (bl f 32).toArray 33)) := aE (aH w) _
 generalize (w.alloc (.cells (bl f 32).toArray 33)) = W at *
 have HB := Hd hB
 clear hB
 go_loop [3, 4, 5] (fun out unit i => ∃ (k : Nat) (x y : Int), k <= 32 /\ i = .int .i64 k /\ out = .int .u32 x /\ unit = .int .u32 y /\ Hid (x = ob f k) /\ Hid (y = un k)) (fun _ _ i => 32 - (intOf i).toNat)
 case atStart => exact ⟨0, _, _, by omega, rfl, rfl, rfl, Hd rfl, Hd rfl⟩
 case round =>
  obtain ⟨k, x, y, hk, rfl, rfl, rfl, hx, hy⟩ := hrel
  have u : 0 <= y /\ y < 4294967296 := by rw [hy.out]; exact lI k
  have o : 0 <= x /\ x < 4294967296 := by rw [hx.out]; exact gW f k hk
  obtain ⟨u0, u1⟩ := u
  obtain ⟨o0, o1⟩ := o
  have hu := Hd (aAa k)
  by_cases hlt : k < 32
  . have ho : x + y < 4294967296 := by rw [hx.out, hy.out]; exact aGr f k hlt
    have hc := sU HB.out k hlt
    cases hs : f k
    . have hn := Hd (yM f k hs)
      rw [hs] at hc
      have HS := Hd hs
      clear hs
      go_wp2_with fail
      go_round
      case rel => exact ⟨k + 1, _, _, by omega, by go_num, rfl, rfl, Hd (by rw [hn.out]; exact hx.out), Hd (by rw [hu.out, <- hy.out])⟩
      case measure => simp [intOf]; omega
    . have hn := Hd (uR f k hlt hs)
      rw [hs] at hc
      have HS := Hd hs
      clear hs
      go_wp2_with fail
      go_round
      case rel => exact ⟨k + 1, _, _, by omega, by go_num, rfl, rfl, Hd (by rw [hn.out, <- hx.out, <- hy.out]), Hd (by rw [hu.out, <- hy.out])⟩
      case measure => simp [intOf]; omega
  . go_wp2_with fail
    go_ret
    exact ⟨bJ (by rw [hx.out, show k = 32 by omega]), hb⟩
def vL (f : Nat -> Bool) (k i : Nat) : Bool := decide (i < k) && f i
theorem yY (f : Nat -> Bool) : bl (vL f 0) 32 = bl (fun _ => false) 32 := kF _ _ _ fun i _ => by unfold vL; simp
theorem yX (f : Nat -> Bool) : bl (vL f 32) 32 = bl f 32 := kF _ _ _ fun i hi => by unfold vL; simp [hi]
theorem aE1 (f : Nat -> Bool) (k : Nat) : (bl (vL f k) 32).set k (.bool (f k)) = bl (vL f (k + 1)) 32 := by
 rw [aCN]
 refine kF _ _ _ fun i hi => ?_
 unfold vL
 by_cases e : i = k
 . rw [if_pos e, e, decide_eq_true (by omega)]; simp
 . rw [if_neg e]
   by_cases h : i < k
   . rw [decide_eq_true h, decide_eq_true (by omega)]
   . rw [decide_eq_false h, decide_eq_false (by omega)]
theorem vM {w : World} {b : Nat} {f : Nat -> Bool} {t : TypeId} (k : Nat) (h : w.heap[b]? = some (.cells (bl (vL f k) 32).toArray t (0, 0))) : (w.setCell ⟨b, k, none⟩ (.bool (f k))).heap[b]? = some (.cells (bl (vL f (k + 1)) 32).toArray t (0, 0)) := by
 rw [aR h, gL, aE1]
theorem aAi : (#[.bool false, .bool false, .bool false, .bool false, .bool false, .bool false, .bool false, .bool false, .bool false, .bool false, .bool false, .bool false, .bool false, .bool false, .bool false, .bool false, .bool false, .bool false, .bool false, .bool false, .bool false, .bool false, .bool false, .bool false, .bool false, .bool false, .bool false, .bool false, .bool false, .bool false, .bool false, .bool false] : Array Value) = (bl (fun _ => false) 32).toArray := rfl
theorem aHD (n : Int) (w : World) (n0 : 0 <= n) (n1 : n < 4294967296) :
 Calls prog 119 #[.int .u32 n] w fun e w' => e = .returned (.agg (bl (aO n) 32).toArray) /\ Below w.heap.size w w' := by
 go_enter func119, ntmps119
 go_wp2_with fail
 rw [aAi]
 have h0 := bM w (.cells (bl (fun _ => false) 32).toArray 33) (.cells (bl (fun _ => false) 32).toArray 33)
 have h1 := bU w (.cells (bl (fun _ => false) 32).toArray 33) (.cells (bl (fun _ => false) 32).toArray 33)
 have hb : Below w.heap.size w ((w.alloc (.cells (bl (fun _ => false) 32).toArray 33)).alloc (.cells (bl (fun _ => false) 32).toArray 33)) := aE (aE (aH w) _) _
 generalize ((w.alloc (.cells (bl (fun _ => false) 32).toArray 33)).alloc (.cells (bl (fun _ => false) 32).toArray 33)) = W at *
 have H0 := Hd h0
 have H1 := Hd h1
 clear h0 h1
 go_loopw [4] (fun i wr => ∃ k : Nat, k <= 32 /\ i = .int .i64 k /\ wr.heap[w.heap.size]? = some (.cells (bl (fun _ => false) 32).toArray 33 (0, 0)) /\ wr.heap[w.heap.size + 1]? = some (.cells (bl (vL (aO n) k) 32).toArray 33 (0, 0)) /\ Below w.heap.size w wr) (fun i _ => 32 - (intOf i).toNat)
 case atStart => exact ⟨0, by omega, rfl, H0.out, by rw [yY]; exact H1.out, hb⟩
 case round =>
  clear hb
  obtain ⟨k, hk, rfl, h0, h1, hb⟩ := hrel
  by_cases hlt : k < 32
  . have hc := sU h1 k hlt
    have hf := aK h1 k
    have H2 := Hd (vM k h1)
    have H0 := Hd (aV h0 (w.heap.size + 1) k (.bool (aO n k)) (by omega))
    have hB := hb.setCell (p := ⟨w.heap.size + 1, k, none⟩) (by simp) (.bool (aO n k))
    clear h0 h1
    go_wp2_with (go_at_call 193; refine (Bit _ _ _ (by omega) (by omega) (by omega) (by omega)).mono ?_; rintro e w' ⟨rfl, rfl⟩)
    go_roundw
    case rel => exact ⟨k + 1, by omega, by go_num, H0.out, H2.out, hB⟩
    case measure => simp [intOf]; omega
  . obtain rfl : k = 32 := by omega
    rw [yX] at h1
    go_wp2_with (first | (refine rT rfl (.tmp 3) rfl _ _ rfl _ h1 (aL _) ?_) | (refine sZ rfl (.tmp 2) (.tmp 15) rfl _ _ rfl _ rfl h0 (by simp [bI]) ?_))
    refine bodyPost_ret (v := .agg (bl (aO n) 32).toArray) ?_ rfl ⟨rfl, aB hb _ (Nat.le_refl _)⟩
    exact aS results119 _ _ _ 0 _ (bl (aO n) 32) rfl (aY _ h0) underlying33 rfl (by rw [bI]; exact i25) (by rw [aW _ _ (by simp [bI])]; exact aL _)
theorem aGp (h : Int) (h0 : 0 <= h) (h1 : h < 4294967296) : ob (aO h) 32 = h := by
 obtain ⟨b0, b1⟩ := gW (aO h) 32 (by omega)
 refine jA b0 b1 h0 h1 fun i hi => ?_
 unfold ob
 rw [kE, decide_eq_true hi, Bool.true_and]
theorem aMj (h : Int) (w : World) (h0 : 0 <= h) (h1 : h < 4294967296) :
 Calls prog 87 #[.agg (bl (aO h) 32).toArray] w fun e w' => e = .returned (.int .u32 h) /\ Below w.heap.size w w' := by
 have := aBT (aO h) w; rw [aGp h h0 h1] at this; exact this
structure Bx where
 ti : Int
 D : Nat -> Int
 S : Nat -> Int
 tm : Nat -> Tm
 wd : Wd
 rs : Rs
 rk : Rk
 msk : Int
 es : List (Int × Int)
structure Bx.ok (n c : Nat) (x : Bx) : Prop where
 n0 : 1 <= n
 n8 : n <= 8
 c0 : 1 <= c
 c8 : c <= 8
 t0 : 0 <= x.ti
 t1 : x.ti < 18446744073709551616
 d : okD x.D
 s : okS x.S
 tm : ∀ i, i < c -> (x.tm i).ok
 wd : x.wd.ok
 rs : x.rs.ok
 rk : x.rk.ok
 m0 : 0 <= x.msk
 m1 : x.msk < 4294967296
def Bx.still (x : Bx) : Prop := x.wd.fa = 0 /\ x.rs.qs = false
def fH (n c : Nat) (x : Bx) (i : Nat) : Bool :=
 if i < 8 then decide (i < n) && decide (x.D i <= x.ti) else if i < 16 then decide (i - 8 < c) && ((x.tm (i - 8)).st && (x.tm (i - 8)).iq) else if i = 16 then x.rk.st else if i < 24 then false else decide (i - 24 < n) && (x.S (i - 24) == 1)
def wires (n c : Nat) (x : Bx) : Int := ob (fH n c x) 32
theorem dL (n c : Nat) (x : Bx) : 0 <= wires n c x /\ wires n c x < 4294967296 := gW _ _ (Nat.le_refl _)
theorem aK8 (f : Nat -> Bool) (i : Nat) : aO (ob f 32) i = (decide (i < 32) && f i) := kE f i
theorem kX (n c : Nat) (x : Bx) (i : Nat) (h : i < 32) : aO (wires n c x) i = fH n c x i := by unfold wires; rw [aK8, decide_eq_true h, Bool.true_and]
theorem aFQ (f : Nat -> Bool) (c : Nat) (hc : c <= 8) (i : Nat) (hi : i < 32) : aO (put 0 8 8 (ob f c)) i = (decide (8 <= i) && (decide (i - 8 < c) && f (i - 8))) := by
 unfold put
 rw [if_pos (by decide)]
 show aO ((fK (kH 0 8 8 (ob f c)) 32 : Nat) : Int) i = _
 rw [kE, decide_eq_true hi, Bool.true_and]
 unfold kH
 rw [show (8 : Int).toNat = 8 from rfl, show (0 : Int).toNat = 0 from rfl, Nat.zero_testBit]
 unfold ob
 rw [Int.toNat_natCast, iL]
 by_cases h8 : 8 <= i
 . rw [decide_eq_true h8, Bool.true_and]
   by_cases h16 : i - 8 < 8
   . rw [if_pos ⟨h8, h16⟩]
   . rw [if_neg (fun h => h16 h.2), decide_eq_false (by omega), Bool.false_and]
 . rw [if_neg (fun h => h8 h.1), decide_eq_false h8, Bool.false_and]
theorem aBs (c : Nat) (x : Bx) (hc : c <= 8) (b : Bool) (hb : x.rk.st = b) : put (put 0 8 8 (ob (fun i => (x.tm i).st && (x.tm i).iq) c)) 16 1 (tk b) = wires 0 c x := by
 have h0 := iZ 0 8 8 (ob (fun i => (x.tm i).st && (x.tm i).iq) c) (by decide) (by decide)
 have h1 := iZ _ 16 1 (tk b) h0.1 h0.2
 have h2 := dL 0 c x
 refine jA h1.1 h1.2 h2.1 h2.2 fun i hi => ?_
 have e := mQ (put 0 8 8 (ob (fun i => (x.tm i).st && (x.tm i).iq) c)) 16 b (by decide) h0.1 i hi
 rw [show ((16 : Nat) : Int) = 16 from rfl] at e
 rw [e, kX _ _ _ _ hi, aFQ _ c hc i hi]
 unfold fH
 subst hb
 by_cases h : i = 16
 . subst h; simp
 . rw [if_neg h]
   by_cases a : i < 8
   . rw [if_pos a, decide_eq_false (by omega)]; simp
   . rw [if_neg a, decide_eq_true (show 8 <= i by omega), Bool.true_and]
     by_cases b : i < 16
     . rw [if_pos b]
     . rw [if_neg b, if_neg h, decide_eq_false (by omega)]; simp
theorem aDH (k c : Nat) (x : Bx) (hk : k < 8) (a b : Bool) (ha : decide (x.D k <= x.ti) = a) (hb : (x.S k == 1) = b) : put (put (wires k c x) (k : Int) 1 (tk a)) ((24 + k : Nat) : Int) 1 (tk b) = wires (k + 1) c x := by
 have h := dL k c x
 have h0 := iZ _ (k : Int) 1 (tk a) h.1 h.2
 have h1 := iZ _ ((24 + k : Nat) : Int) 1 (tk b) h0.1 h0.2
 have h2 := dL (k + 1) c x
 refine jA h1.1 h1.2 h2.1 h2.2 fun i hi => ?_
 rw [mQ _ (24 + k) b (by omega) h0.1 i hi, mQ _ k a (by omega) h.1 i hi, kX _ _ _ _ hi, kX _ _ _ _ hi]
 unfold fH
 subst ha hb
 by_cases e : i = 24 + k
 . subst e
   rw [if_pos rfl, if_neg (by omega), if_neg (by omega), if_neg (by omega), if_neg (by omega), show 24 + k - 24 = k by omega, decide_eq_true (Nat.lt_succ_self k), Bool.true_and]
 . rw [if_neg e]
   by_cases f : i = k
   . subst f
     rw [if_pos rfl, if_pos hk, decide_eq_true (Nat.lt_succ_self i), Bool.true_and]
   . rw [if_neg f]
     by_cases a : i < 8
     . rw [if_pos a, if_pos a]
       congr 1
       by_cases g : i < k
       . rw [decide_eq_true g, decide_eq_true (by omega)]
       . rw [decide_eq_false g, decide_eq_false (by omega)]
     . rw [if_neg a, if_neg a]
       by_cases b : i < 16
       . rw [if_pos b, if_pos b]
       . rw [if_neg b, if_neg b]
         by_cases c : i = 16
         . rw [if_pos c, if_pos c]
         . rw [if_neg c, if_neg c]
           by_cases d : i < 24
           . rw [if_pos d, if_pos d]
           . rw [if_neg d, if_neg d]
             congr 1
             by_cases g : i - 24 < k
             . rw [decide_eq_true g, decide_eq_true (by omega)]
             . rw [decide_eq_false g, decide_eq_false (by omega)]
structure Bx.like (c : Nat) (x y : Bx) : Prop where
 ti : x.ti = y.ti
 D : x.D = y.D
 S : x.S = y.S
 tm : ∀ i, i < c -> x.tm i = y.tm i
 wd : x.wd = y.wd
 rs : x.rs = y.rs
 rk : x.rk = y.rk
 msk : x.msk = y.msk
 es : x.es = y.es
theorem Bx.like.refl (c : Nat) (x : Bx) : Bx.like c x x := ⟨rfl, rfl, rfl, fun _ _ => rfl, rfl, rfl, rfl, rfl, rfl⟩
theorem Bx.like.symm {c : Nat} {x y : Bx} (h : Bx.like c x y) : Bx.like c y x := ⟨h.ti.symm, h.D.symm, h.S.symm, fun i hi => (h.tm i hi).symm, h.wd.symm, h.rs.symm, h.rk.symm, h.msk.symm, h.es.symm⟩
theorem Bx.like.trans {c : Nat} {x y z : Bx} (h : Bx.like c x y) (k : Bx.like c y z) : Bx.like c x z := ⟨h.ti.trans k.ti, h.D.trans k.D, h.S.trans k.S, fun i hi => (h.tm i hi).trans (k.tm i hi), h.wd.trans k.wd, h.rs.trans k.rs, h.rk.trans k.rk, h.msk.trans k.msk, h.es.trans k.es⟩
theorem Bx.like.ok {n c : Nat} {x y : Bx} (h : Bx.like c x y) (o : x.ok n c) : y.ok n c :=
 ⟨o.n0, o.n8, o.c0, o.c8, h.ti ▸ o.t0, h.ti ▸ o.t1, h.D ▸ o.d, h.S ▸ o.s, fun i hi => h.tm i hi ▸ o.tm i hi, h.wd ▸ o.wd, h.rs ▸ o.rs, h.rk ▸ o.rk, h.msk ▸ o.m0, h.msk ▸ o.m1⟩
theorem Bx.like.still {c : Nat} {x y : Bx} (h : Bx.like c x y) (o : x.still) : y.still := ⟨h.wd ▸ o.1, h.rs ▸ o.2⟩
theorem Bx.like.fH {n c : Nat} {x y : Bx} (h : Bx.like c x y) (i : Nat) : fH n c x i = fH n c y i := by
 unfold B.fH
 rw [h.D, h.ti, h.S, h.rk]
 by_cases a : i < 8
 . rw [if_pos a, if_pos a]
 . rw [if_neg a, if_neg a]
   by_cases b : i < 16
   . rw [if_pos b, if_pos b]
     by_cases g : i - 8 < c
     . rw [h.tm _ g]
     . rw [decide_eq_false g, Bool.false_and, Bool.false_and]
   . rw [if_neg b, if_neg b]
theorem Bx.like.wires {n c : Nat} {x y : Bx} (h : Bx.like c x y) : wires n c x = wires n c y := aGq _ _ 32 fun i _ => h.fH i
def Bx.on (x : Bx) (k : Int) : Bx := { x with ti := eF x.ti k, tm := fun i => (x.tm i).tick k, rk := x.rk.tick k }
def Bx.later (x : Bx) (N : Int) : Bx := { x.on (x.wd.ran N) with wd := x.wd.tick N }
def Bx.rst (x : Bx) (cause : Int) : Bx := ⟨x.ti, nvD, jB, fun _ => tz, wz, x.rs.ltc cause, x.rk.zero, 0, x.es ++ [(x.ti, cause)]⟩
def Bx.tick (x : Bx) (N : Int) : Bx :=
 if (x.later N).wd.fa = 0 then x.later N else { (x.later N).rst (x.later N).wd.fa with ti := eF (x.later N).ti (N - x.wd.ran N), rk := (x.later N).rk.zero.tick (N - x.wd.ran N) }
theorem gP {t : Wd} (h : t.ok) (hf : t.fa = 0) {N : Int} (n0 : 0 <= N) : 0 <= t.ran N /\ t.ran N <= N := by
 unfold Wd.ran
 rw [if_neg (by simpa using hf)]
 have := h.s1
 split
 . split <;> omega
 . omega
theorem aI6 {t : Wd} (hf : t.fa = 0) {N : Int} (h : (t.tick N).fa = 0) : t.ran N = N := by
 unfold Wd.ran Wd.tick at *
 rw [if_neg (by simpa using hf)]
 split
 . rename_i he
   split
   . rename_i hs
     rw [if_pos ⟨he, hf⟩, if_pos hs] at h
     exact absurd h (show ¬ (2 : Int) = 0 by decide)
   . rfl
 . rfl
theorem kJ {t : Wd} (hf : t.fa = 0) {N : Int} (h : (t.tick N).fa ≠ 0) : (t.tick N).fa = 2 := by
 unfold Wd.tick at *
 split at h
 . rename_i he
   split at h
   . rename_i hs; rw [if_pos he, if_pos hs]
   . exact absurd hf h
 . exact absurd hf h
theorem zT : pY 2 := .inl rfl
theorem xQ {a : Int} (h0 : 0 <= a) (h1 : a < 18446744073709551616) : eF a 0 = a := by unfold eF; split <;> omega
theorem Rk.tick_zero {t : Rk} (h : t.ok) : t.tick 0 = t := by
 have e : t.adv 0 = t := by
  have := h.r0; have := h.r1; have := h.s1
  obtain ⟨d, r, s, sec, al, ah, en, st⟩ := t
  simp only at *
  unfold Rk.adv
  simp only [Int.add_zero]
  rw [Int.ediv_eq_zero_of_lt (by omega) (by omega), Int.emod_eq_of_lt (by omega) (by omega), Int.add_zero, Int.min_eq_left (by unfold sS; omega)]
 unfold Rk.tick Rk.behind
 rw [e]
 cases t.met <;> rfl
theorem Wd.tick_zero {t : Wd} (h : t.ok) : t.tick 0 = t := by
 unfold Wd.tick
 split
 . rename_i he
   have := h.run he.1 he.2
   rw [if_neg (by omega)]
   simp
 . rfl
theorem aJT (N : Int) : tz.tick N = tz := Tm.tick_off rfl N
theorem aJn (N : Int) : wz.tick N = wz := rfl
theorem aHw (N : Int) : wz.ran N = N := rfl
section
variable {n c : Nat} {x : Bx}
theorem Bx.on_ok (h : x.ok n c) {k : Int} (k0 : 0 <= k) (k1 : k < 18446744073709551616) : (x.on k).ok n c :=
 ⟨h.n0, h.n8, h.c0, h.c8, (kM h.t0 h.t1 k0 k1).1, (kM h.t0 h.t1 k0 k1).2, h.d, h.s, fun i hi => Tm.tick_ok (h.tm i hi) k0, h.wd, h.rs, Rk.tick_ok h.rk k0, h.m0, h.m1⟩
theorem Bx.later_ok (h : x.ok n c) (hf : x.wd.fa = 0) {N : Int} (n0 : 0 <= N) (n1 : N < 18446744073709551616) : (x.later N).ok n c := by
 have hb := gP h.wd hf n0
 have o := Bx.on_ok h hb.1 (Int.lt_of_le_of_lt hb.2 n1)
 exact ⟨o.n0, o.n8, o.c0, o.c8, o.t0, o.t1, o.d, o.s, o.tm, Wd.tick_ok h.wd n0, o.rs, o.rk, o.m0, o.m1⟩
theorem Bx.rst_ok (h : x.ok n c) (cause : Int) : (x.rst cause).ok n c :=
 ⟨h.n0, h.n8, h.c0, h.c8, h.t0, h.t1, aCq, aAL, fun _ _ => aD5, aKv, Rs.ltc_ok h.rs cause, Rk.zero_ok h.rk, Int.le_refl _, (by show (0 : Int) < 4294967296; decide)⟩
theorem aCk {t : Rs} {cause : Int} (h : pY cause) : (t.ltc cause).qs = false := by unfold Rs.ltc; rw [if_pos h]; rfl
theorem Bx.rst_still {cause : Int} (hc : pY cause) : (x.rst cause).still := ⟨rfl, aCk hc⟩
theorem Bx.tick_no {N : Int} (h : (x.later N).wd.fa = 0) : x.tick N = x.later N := by unfold Bx.tick; rw [if_pos h]
theorem Bx.tick_yes {N : Int} (h : (x.later N).wd.fa ≠ 0) : x.tick N = { (x.later N).rst (x.later N).wd.fa with ti := eF (x.later N).ti (N - x.wd.ran N), rk := (x.later N).rk.zero.tick (N - x.wd.ran N) } := by unfold Bx.tick; rw [if_neg h]
theorem Bx.tick_ok (h : x.ok n c) (hs : x.still) {N : Int} (n0 : 0 <= N) (n1 : N < 18446744073709551616) : (x.tick N).ok n c /\ (x.tick N).still := by
 have hl := Bx.later_ok h hs.1 n0 n1
 have hb := gP h.wd hs.1 n0
 by_cases hf : (x.later N).wd.fa = 0
 . rw [Bx.tick_no hf]; exact ⟨hl, hf, hs.2⟩
 . rw [Bx.tick_yes hf]
   have o := Bx.rst_ok hl (x.later N).wd.fa
   have a := kM hl.t0 hl.t1 (show 0 <= N - x.wd.ran N by omega) (show N - x.wd.ran N < 18446744073709551616 by omega)
   exact ⟨⟨o.n0, o.n8, o.c0, o.c8, a.1, a.2, o.d, o.s, o.tm, o.wd, o.rs, Rk.tick_ok (Rk.zero_ok hl.rk) (by omega), o.m0, o.m1⟩, rfl, aCk (by
    have e : (x.later N).wd.fa = 2 := kJ hs.1 hf
    rw [e]; exact zT)⟩
theorem Bx.rst_later (x : Bx) (cause N : Int) : (x.rst cause).later N = { x.rst cause with ti := eF x.ti N, rk := x.rk.zero.tick N } := by
 unfold Bx.later Bx.on Bx.rst
 simp only [aHw, aJn, aJT]
theorem Bx.later_zero (h : x.ok n c) (hf : x.wd.fa = 0) : Bx.like c x (x.later 0) := by
 have e : x.wd.ran 0 = 0 := by have := gP h.wd hf (Int.le_refl 0); omega
 refine ⟨?_, rfl, rfl, fun i hi => ?_, ?_, rfl, ?_, rfl, rfl⟩
 . show x.ti = eF x.ti (x.wd.ran 0); rw [e, xQ h.t0 h.t1]
 . show x.tm i = (x.tm i).tick (x.wd.ran 0); rw [e, Tm.tick_zero (h.tm i hi)]
 . show x.wd = x.wd.tick 0; rw [Wd.tick_zero h.wd]
 . show x.rk = x.rk.tick (x.wd.ran 0); rw [e, Rk.tick_zero h.rk]
theorem Bx.tick_zero (h : x.ok n c) (hs : x.still) : Bx.like c x (x.tick 0) := by
 have l := Bx.later_zero h hs.1
 rw [Bx.tick_no (l.wd ▸ hs.1)]; exact l
end
def dl (t : Wd) : List Value := [.bool t.en, .bool t.lk, .int .i64 t.fa, .int .u32 t.cl, .int .u32 t.tot, .int .u64 t.si, .bool t.ar]
abbrev tD : TypeId := 252
def eC (w : World) (b : Nat) (t : Wd) : Prop := w.heap[b]? = some (.cells (dl t).toArray tD (0, 0))
section
variable {w w' : World} {b : Nat} {t : Wd}
theorem eC.lt (h : eC w b t) : b < w.heap.size := lt_of_block h
theorem eC.below (h : eC w b t) (hb : Below w.heap.size w w') : eC w' b t := aC hb h h.lt
theorem eC.off {S : Nat -> Prop} (h : eC w b t) (ho : aF S w w') (hs : ¬ S b) : eC w' b t := ho.at h hs
theorem eC.free (h : eC w b t) (j : Nat) : w.frozen? ⟨b, j, none⟩ = false := aK h j
theorem eC.c0 (h : eC w b t) : w.cell? ⟨b, 0, none⟩ = some (.bool t.en) := by rw [aA h 0]; rfl
theorem eC.c1 (h : eC w b t) : w.cell? ⟨b, 1, none⟩ = some (.bool t.lk) := by rw [aA h 1]; rfl
theorem eC.c2 (h : eC w b t) : w.cell? ⟨b, 2, none⟩ = some (.int .i64 t.fa) := by rw [aA h 2]; rfl
theorem eC.c3 (h : eC w b t) : w.cell? ⟨b, 3, none⟩ = some (.int .u32 t.cl) := by rw [aA h 3]; rfl
theorem eC.c4 (h : eC w b t) : w.cell? ⟨b, 4, none⟩ = some (.int .u32 t.tot) := by rw [aA h 4]; rfl
theorem eC.c5 (h : eC w b t) : w.cell? ⟨b, 5, none⟩ = some (.int .u64 t.si) := by rw [aA h 5]; rfl
theorem eC.c6 (h : eC w b t) : w.cell? ⟨b, 6, none⟩ = some (.bool t.ar) := by rw [aA h 6]; rfl
theorem eC.set (h : eC w b t) (j : Nat) (x : Value) {s : Wd} (he : (dl t).set j x = dl s) : eC (w.setCell ⟨b, j, none⟩ x) b s := by
 unfold eC; rw [aR h, <- he]; simp
theorem eC.s0 (h : eC w b t) (x : Bool) : eC (w.setCell ⟨b, 0, none⟩ (.bool x)) b { t with en := x } := h.set _ _ rfl
theorem eC.s1 (h : eC w b t) (x : Bool) : eC (w.setCell ⟨b, 1, none⟩ (.bool x)) b { t with lk := x } := h.set _ _ rfl
theorem eC.s2 (h : eC w b t) (x : Int) : eC (w.setCell ⟨b, 2, none⟩ (.int .i64 x)) b { t with fa := x } := h.set _ _ rfl
theorem eC.s3 (h : eC w b t) (x : Int) : eC (w.setCell ⟨b, 3, none⟩ (.int .u32 x)) b { t with cl := x } := h.set _ _ rfl
theorem eC.s4 (h : eC w b t) (x : Int) : eC (w.setCell ⟨b, 4, none⟩ (.int .u32 x)) b { t with tot := x } := h.set _ _ rfl
theorem eC.s5 (h : eC w b t) (x : Int) : eC (w.setCell ⟨b, 5, none⟩ (.int .u64 x)) b { t with si := x } := h.set _ _ rfl
theorem eC.s6 (h : eC w b t) (x : Bool) : eC (w.setCell ⟨b, 6, none⟩ (.bool x)) b { t with ar := x } := h.set _ _ rfl
theorem eC.elseRow (h : eC w b t) (g : Nat) (cs : Array Value) (hne : b ≠ g) : eC (w.setRow g cs) b t := eQ g cs h hne
end
theorem aPe (w : World) : Calls prog 100 #[] w fun e w' => e = .returned (.pointer (some ⟨w.heap.size, 0, none⟩)) /\ w' = w.alloc (.cells (dl wz).toArray tD (0, 0)) := by
 go_enter func100, ntmps100
 exact aU
theorem aCR (t : Wd) (p : Nat) (w : World) (a : eC w p t) : Calls prog 109 #[.pointer (some ⟨p, 0, none⟩)] w fun e w' => e = .returned (.int .i64 t.fa) /\ w = w' := by
 have x := a.c2
 go_enter func109, ntmps109
 exact aU
theorem aLT (t : Wd) (p : Nat) (w : World) (a : eC w p t) : Calls prog 164 #[.pointer (some ⟨p, 0, none⟩)] w fun e w' => e = .returned (.int .u64 t.si) /\ w = w' := by
 have x := a.c5
 go_enter func164, ntmps164
 exact aU
theorem nT {P : Prop} (h : P := by
 go_wp2_with fail
 go_ret
 exact ⟨cU (by simp), rfl⟩
 ) : P := h
theorem aAz (t : Wd) (p : Nat) (w : World) (a : eC w p t) : Calls prog 161 #[.pointer (some ⟨p, 0, none⟩)] w fun e w' => e = .returned (.bool t.en) /\ w = w' := by
 have x := a.c0
 go_enter func161, ntmps161
 exact nT
theorem aIT (t : Wd) (p : Nat) (w : World) (a : eC w p t) : Calls prog 162 #[.pointer (some ⟨p, 0, none⟩)] w fun e w' => e = .returned (.bool t.lk) /\ w = w' := by
 have x := a.c1
 go_enter func162, ntmps162
 exact nT
theorem aLN (t : Wd) (p : Nat) (w : World) (a : eC w p t) : Calls prog 163 #[.pointer (some ⟨p, 0, none⟩)] w fun e w' => e = .returned (.bool t.ar) /\ w = w' := by
 have x := a.c6
 go_enter func163, ntmps163
 exact nT
def st3 (t : Wd) : Value := .agg #[.bool t.en, .bool t.lk, .int .i64 t.fa]
def oS (t : Wd) : Obj := .cells #[.bool t.en, .bool t.lk, .int .i64 t.fa] 250 (0, 0)
theorem aKB (t : Wd) (w : World) : Calls prog 208 #[.agg #[.bool t.en, .bool t.lk, .int .i64 t.fa]] w fun e w' => e = .returned (.bool (decide (t.en = true /\ t.fa = 0))) /\ Below w.heap.size w w' := by
 have hb := aE (aH w) (oS t)
 by_cases hf : t.fa = 0
 . have q : (t.fa == 0) = true := by simpa using hf
   obtain ⟨en, hen⟩ : ∃ b, t.en = b := ⟨_, rfl⟩
   rw [hen]
   cases en
   all_goals
    rw [hf]
    have hb := aE (aH w) (.cells #[.bool t.en, .bool t.lk, .int .i64 t.fa] 250 (0, 0))
    rw [hf, hen] at hb
    go_enter func208, ntmps208
    go_wp2_with fail
    go_ret
    exact ⟨cU (by simp), hb⟩
 . have q : (t.fa == 0) = false := by simpa using hf
   have hd : decide (t.en = true /\ t.fa = 0) = false := by simp [hf]
   rw [hd]
   clear hf hd
   obtain ⟨en, hen⟩ : ∃ b, t.en = b := ⟨_, rfl⟩
   unfold oS at hb
   rw [hen] at hb ⊢
   cases en
   all_goals
    go_enter func208, ntmps208
    go_wp2_with fail
    go_ret
    exact ⟨rfl, hb⟩
theorem aN0 (t : Wd) (w : World) : Calls prog 290 #[.agg #[.bool t.en, .bool t.lk, .int .i64 t.fa]] w fun e w' => e = .returned (.bool (decide (t.en = false /\ t.lk = false /\ t.fa = 0))) /\ Below w.heap.size w w' := by
 have hb := aE (aH w) (oS t)
 have hd : decide (t.en = false /\ t.lk = false /\ t.fa = 0) = ((t.en == false) && ((t.lk == false) && (t.fa == 0))) := by cases t.en <;> cases t.lk <;> first | (simp; done) | (simp; rfl)
 rw [hd]
 unfold oS at hb
 clear hd
 cases q : (t.fa == 0)
 all_goals
  obtain ⟨en, hen⟩ : ∃ b, t.en = b := ⟨_, rfl⟩
  obtain ⟨lk, hlk⟩ : ∃ b, t.lk = b := ⟨_, rfl⟩
  rw [hen, hlk] at hb ⊢
  cases en <;> cases lk
  all_goals
   go_enter func290, ntmps290
   go_wp2_with fail
   go_ret
   exact ⟨rfl, hb⟩
theorem aMb : put 0 0 1 1 = 1 := by decide +kernel
theorem aI0 : put 0 1 1 1 = 2 := by decide +kernel
theorem aI1 : put 1 1 1 1 = 3 := by decide +kernel
theorem aFn (t : Wd) (w : World) : Calls prog 207 #[.agg #[.bool t.en, .bool t.lk, .int .i64 t.fa]] w fun e w' => e = .returned (.int .u32 (tk t.en + 2 * tk t.lk)) /\ Below w.heap.size w w' := by
 have hb := aE (aH w) (oS t)
 unfold oS at hb
 obtain ⟨en, hen⟩ : ∃ b, t.en = b := ⟨_, rfl⟩
 obtain ⟨lk, hlk⟩ : ∃ b, t.lk = b := ⟨_, rfl⟩
 have P1 := Hd (fun w => by have := Put 0 0 1 1 w (by omega) (by omega) (by omega) (by omega) (by omega) (by omega); rw [aMb] at this; exact this)
 have P2 := Hd (fun w => by have := Put 0 1 1 1 w (by omega) (by omega) (by omega) (by omega) (by omega) (by omega); rw [aI0] at this; exact this)
 have P3 := Hd (fun w => by have := Put 1 1 1 1 w (by omega) (by omega) (by omega) (by omega) (by omega) (by omega); rw [aI1] at this; exact this)
 rw [hen, hlk] at hb ⊢
 cases en <;> cases lk
 . go_enter func207, ntmps207
   exact bS
 . go_enter func207, ntmps207
   go_wp2_with fail
   refine (P2.out _).mono ?_
   rintro e w' ⟨rfl, rfl⟩
   exact bS
 . go_enter func207, ntmps207
   go_wp2_with fail
   refine (P1.out _).mono ?_
   rintro e w' ⟨rfl, rfl⟩
   exact bS
 . go_enter func207, ntmps207
   go_wp2_with fail
   refine (P1.out _).mono ?_
   rintro e w' ⟨rfl, rfl⟩
   go_wp2_with fail
   refine (P3.out _).mono ?_
   rintro e w' ⟨rfl, rfl⟩
   exact bS
theorem nV {P : Prop} (h : P := by
 refine wp_region_quiet_below (by kernel_rfl) (by kernel_rfl) ?_
 repeat (go_big_quiet_step (fail))
 refine wpQuiet_nil ?_
 intro _ hw'
 obtain ⟨⟨dq, osq⟩, hw''⟩ := hw'
 subst hw''
 go_wp2_with fail
 go_ret
 exact ⟨rfl, trG hb _ _⟩
 ) : P := h
theorem aN1 (t : Wd) (p : Nat) (w : World) (h : t.ok) (a : eC w p t) : Calls prog 165 #[.pointer (some ⟨p, 0, none⟩)] w fun e w' => e = .returned (.int .u64 t.left) /\ Below w.heap.size w w' := by
 have x0 := a.c0
 have x1 := a.c1
 have x2 := a.c2
 have hr := aKB t w
 unfold Wd.left
 by_cases hc : t.en = true /\ t.fa = 0
 . rw [if_pos hc]
   rw [decide_eq_true hc] at hr
   have hrun := h.run hc.1 hc.2
   have s0 := h.s0
   have t1 := h.t1
   have hr := Hd hr
   clear hc h
   go_enter func165, ntmps165
   go_wp2_with fail
   refine (hr.out).mono ?_
   rintro e w1 ⟨rfl, hb⟩
   have a1 := a.below hb
   clear hr x0 x1 x2 a
   have x4 := a1.c4
   have x5 := a1.c5
   go_wp2_with fail
   have hg := bC
   have hl := a1.lt
   exact nV
 . rw [if_neg hc]
   rw [decide_eq_false hc] at hr
   have hr := Hd hr
   clear hc h
   go_enter func165, ntmps165
   go_wp2_with fail
   refine (hr.out).mono ?_
   rintro e w1 ⟨rfl, hb⟩
   exact bS
theorem aBr {o : Int} (h : (o % 4 != 0) = true) : eS o = 11 := by unfold eS; rw [if_pos (by simpa using h)]
theorem aBq {o : Int} (h : (o % 4 != 0) = false) (k : 20 <= o) : eS o = 10 := by unfold eS; rw [if_neg (by simpa using h), if_neg (by omega)]
theorem aD8 {o : Int} (h : (o % 4 != 0) = false) (k : o < 20) : eS o = 0 := by
 unfold eS; have : o % 4 = 0 := by simpa using h
 rw [if_neg (by simpa using h), if_pos (by omega)]
theorem oJ {o : Int} (o0 : 0 <= o) (h : eS o = 0) : o = 0 \/ o = 4 \/ o = 8 \/ o = 12 \/ o = 16 := by
 unfold eS at h
 split at h
 . cases h
 . split at h
   . rename_i h1 h2
     have : o % 4 = 0 := by simpa using h1
     omega
   . cases h
theorem pA (x : Option Addr) (o : Int) (w : World) (o0 : 0 <= o) (o1 : o < 4294967296) (e : Int) (he : (if x = none then 10 else eS o) = e) :
 Calls prog 206 #[.pointer x, .int .u32 o] w fun e' w' => e' = .returned (.int .i64 e) /\ w = w' := by
 cases x with
 | none =>
   rw [if_pos rfl] at he; subst he
   go_enter func206, ntmps206
   go_wp2_with fail
   go_ret
   exact ⟨rfl, rfl⟩
 | some x =>
   rw [if_neg (by simp)] at he
   cases h4 : (o % 4 != 0)
   . by_cases h8 : 20 <= o
     . rw [aBq h4 h8] at he; subst he
       go_enter func206, ntmps206
       go_wp2_with fail
       go_ret
       exact ⟨rfl, rfl⟩
     . rw [aD8 h4 (by omega)] at he; subst he
       go_enter func206, ntmps206
       go_wp2_with fail
       go_ret
       exact ⟨rfl, rfl⟩
   . rw [aBr h4] at he; subst he
     go_enter func206, ntmps206
     go_wp2_with fail
     go_ret
     exact ⟨rfl, rfl⟩
theorem aBK {a : Int} (h0 : 0 <= a) (h1 : a < 4294967296) : lo a = a := by unfold lo; omega
theorem Wd.val_none {t : Wd} {o : Int} (o0 : 0 <= o) (h : eS o ≠ 0) : t.val o = 0 := by
 unfold Wd.val
 rw [if_neg (fun e => h (by rw [e]; rfl)), if_neg (fun e => h (by rw [e]; rfl)), if_neg (fun e => h (by rw [e]; rfl)), if_neg (fun e => h (by rw [e]; rfl))]
theorem qW {P : Prop} (h : P := by
 rintro e w1 ⟨rfl, hb⟩
 go_wp2_with fail
 go_ret2
 exact ⟨rfl, hb⟩
 ) : P := h
theorem aKA (t : Wd) (o : Int) (p : Nat) (w : World) (h : t.ok) (a : eC w p t) (o0 : 0 <= o) (o1 : o < 4294967296) :
 Calls prog 160 #[.pointer (some ⟨p, 0, none⟩), .int .u32 o] w fun e w' => e = .returned (.tuple #[.int .u32 (t.val o), .int .i64 (eS o)]) /\ Below w.heap.size w w' := by
 have x0 := a.c0
 have x1 := a.c1
 have x2 := a.c2
 have x3 := a.c3
 have x4 := a.c4
 have x5 := a.c5
 have s0 := h.s0
 have s1 : t.si < 4294967296 := by have := h.s1; have := h.t1; omega
 have hL := Hd (fun w => by have := Lo t.si w s0 (by omega); rw [aBK s0 s1] at this; exact this)
 have hC := Hd (fun w => aFn t w)
 clear a h
 by_cases he : eS o = 0
 . rcases oJ o0 he with rfl | rfl | rfl | rfl | rfl
   . go_enter func160, ntmps160
     go_wp2_with (go_at_call 206; refine (pA _ _ _ (by omega) (by omega) 0 (by rfl)).mono ?_; rintro e w' ⟨rfl, rfl⟩)
     refine (hC.out _).mono ?_
     exact qW
   all_goals
    go_enter func160, ntmps160
    go_wp2_with (first | (go_at_call 206; refine (pA _ _ _ (by omega) (by omega) 0 (by rfl)).mono ?_; rintro e w' ⟨rfl, rfl⟩) | (go_at_call 55; refine (hL.out _).mono ?_; rintro e w' ⟨rfl, rfl⟩))
    go_ret2
    exact ⟨rfl, aH w⟩
 . rw [Wd.val_none o0 he]
   have hc : (if (some (⟨p, 0, none⟩ : Addr)) = none then 10 else eS o) = eS o := by rw [if_neg (by simp)]
   have hn : (eS o == 0) = false := by simpa using he
   have hn2 : (eS o != 0) = true := by simpa using he
   go_enter func160, ntmps160
   go_wp2_with fail
   refine (pA _ _ _ o0 o1 _ hc).mono ?_
   rintro e w' ⟨rfl, rfl⟩
   go_wp2_with fail
   go_ret2
   exact ⟨rfl, aH w⟩
end Go.Proofs.YtaohacadochldaaGreat.B
