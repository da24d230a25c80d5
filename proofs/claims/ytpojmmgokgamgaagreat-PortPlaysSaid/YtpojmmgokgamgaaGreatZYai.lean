/- A part of the proof of a law of layer 12: ai. -/
import Derived.Test.YtpojmmgokgamgaaGreatZYah
set_option linter.unusedVariables false
set_option linter.unusedSimpArgs false
set_option maxHeartbeats 12800000
set_option maxRecDepth 100000
namespace Go.Proofs.YtpojmmgokgamgaaGreat.B
open Go.Proofs.Tryz
open Go.ChangeShapes Go.WideShapes Go.RowKit Go.Sort
def lS (w : World) (p : Nat) (h m : Int) : Prop := w.heap[p]? = some (.cells #[.int .u32 h, .int .u32 m] 189 (0, 0))
theorem lS.c0 {w : World} {p : Nat} {h m : Int} (a : lS w p h m) : w.cell? ⟨p, 0, none⟩ = some (.int .u32 h) := by
 have := aA a 0; simpa using this
theorem lS.c1 {w : World} {p : Nat} {h m : Int} (a : lS w p h m) : w.cell? ⟨p, 1, none⟩ = some (.int .u32 m) := by
 have := aA a 1; simpa using this
theorem lS.free {w : World} {p : Nat} {h m : Int} (a : lS w p h m) (j : Nat) : w.frozen? ⟨p, j, none⟩ = false := aN a j
theorem lS.lt {w : World} {p : Nat} {h m : Int} (a : lS w p h m) : p < w.heap.size := lt_of_block a
theorem lS.set0 {w : World} {p : Nat} {h m : Int} (a : lS w p h m) (v : Int) : lS (w.setCell ⟨p, 0, none⟩ (.int .u32 v)) p v m := by
 have := aS a 0 (.int .u32 v); simpa [lS] using this
theorem lS.set1 {w : World} {p : Nat} {h m : Int} (a : lS w p h m) (v : Int) : lS (w.setCell ⟨p, 1, none⟩ (.int .u32 v)) p h v := by
 have := aS a 1 (.int .u32 v); simpa [lS] using this
theorem aOn (w : World) : Calls prog 51 #[] w fun e w' => e = .returned (.pointer (some ⟨w.heap.size, 0, none⟩)) /\ w' = w.alloc (.cells #[.int .u32 0, .int .u32 0] 189) := by
 go_enter func51, ntmps51
 exact aR
theorem aO3 (h m i : Int) (b : Bool) (p : Nat) (w : World) (a : lS w p h m) (h0 : 0 <= h) (h1 : h < 4294967296) (i0 : 0 <= i) (i1 : i < 32) :
 Calls prog 118 #[.pointer (some ⟨p, 0, none⟩), .int .i64 i, .bool b] w fun e w' => e = .returned (.bool true) /\ w' = w.setCell ⟨p, 0, none⟩ (.int .u32 (put h i 1 (tk b))) := by
 have c0 := a.c0
 have f0 := a.free 0
 clear a
 cases b
 all_goals
  go_enter func118, ntmps118
  go_wp2_with (go_at_call 116; refine (Put _ _ _ _ _ h0 h1 (by omega) (by omega) (by omega) (by omega)).mono ?_; rintro e w' ⟨rfl, rfl⟩)
  go_ret
  exact ⟨rfl, rfl⟩
theorem aOd (h m v : Int) (p : Nat) (w : World) (a : lS w p h m) :
 Calls prog 115 #[.pointer (some ⟨p, 0, none⟩), .int .u32 v] w fun e w' => e = .returned (.tuple #[]) /\ w' = w.setCell ⟨p, 0, none⟩ (.int .u32 v) := by
 have c0 := a.c0
 have f0 := a.free 0
 clear a
 go_enter func115, ntmps115
 go_wp2_with fail
 go_end0
 exact ⟨rfl, rfl⟩
theorem aLs (h m : Int) (p : Nat) (w : World) (a : lS w p h m) :
 Calls prog 291 #[.pointer (some ⟨p, 0, none⟩)] w fun e w' => e = .returned (.tuple #[]) /\ w' = w.setCell ⟨p, 1, none⟩ (.int .u32 0) := by
 have c1 := a.c1
 have f1 := a.free 1
 clear a
 go_enter func291, ntmps291
 go_wp2_with fail
 go_end0
 exact ⟨rfl, rfl⟩
theorem aNo (h m : Int) (p : Nat) (w : World) (a : lS w p h m) :
 Calls prog 136 #[.pointer (some ⟨p, 0, none⟩)] w fun e w' => e = .returned (.int .u32 h) /\ w = w' := by
 have c0 := a.c0
 clear a
 go_enter func136, ntmps136
 exact aR
theorem aNe (h m : Int) (p : Nat) (w : World) (a : lS w p h m) :
 Calls prog 134 #[.pointer (some ⟨p, 0, none⟩)] w fun e w' => e = .returned (.pointer (some ⟨w.heap.size, 0, none⟩)) /\ w' = w.alloc (.cells #[.int .u32 h, .int .u32 m] 189) := by
 have c0 := a.c0
 have c1 := a.c1
 clear a
 go_enter func134, ntmps134
 exact aR
theorem aM3 (h m : Int) (w : World) :
 Calls prog 294 #[.agg #[.int .u32 h, .int .u32 m]] w fun e w' => e = .returned (.int .u32 (bits BinOp.and IntKind.u32 h m)) /\ Below w.heap.size w w' := by
 go_enter func294, ntmps294
 go_wp2_with fail
 go_ret
 exact ⟨rfl, aE (aI w) _⟩
theorem aKe (h m : Int) (w : World) :
 Calls prog 191 #[.agg #[.int .u32 h, .int .u32 m]] w fun e w' => e = .returned (.agg #[.int .u32 (bits BinOp.andNot IntKind.u32 h m), .int .u32 m]) /\ Below w.heap.size w w' := by
 go_enter func191, ntmps191
 go_wp2_with fail
 refine bodyPost_ret (v := .agg #[.int .u32 (bits BinOp.andNot IntKind.u32 h m), .int .u32 m]) ?_ rfl ?_
 . simp [results, results191, go_sem]
 . exact ⟨rfl, aE (aE (aI w) _) _⟩
theorem sL (x : Option Addr) (o : Int) (w : World) (o0 : 0 <= o) (o1 : o < 4294967296) (e : Int) (he : (if x = none then 10 else if (o % 4 != 0) = true then 11 else if 8 < o then 10 else 0) = e) :
 Calls prog 293 #[.pointer x, .int .u32 o] w fun e' w' => e' = .returned (.int .i64 e) /\ w = w' := by
 cases x with
 | none =>
   rw [if_pos rfl] at he; subst he
   go_enter func293, ntmps293
   go_wp2_with fail
   go_ret
   exact ⟨rfl, rfl⟩
 | some x =>
   rw [if_neg (by simp)] at he
   cases h4 : (o % 4 != 0)
   . rw [h4, if_neg (by simp)] at he
     by_cases h8 : 8 < o
     . rw [if_pos h8] at he; subst he
       go_enter func293, ntmps293
       go_wp2_with fail
       go_ret
       exact ⟨rfl, rfl⟩
     . rw [if_neg h8] at he; subst he
       go_enter func293, ntmps293
       go_wp2_with fail
       go_ret
       exact ⟨rfl, rfl⟩
   . rw [h4, if_pos rfl] at he; subst he
     go_enter func293, ntmps293
     go_wp2_with fail
     go_ret
     exact ⟨rfl, rfl⟩
def gM (o : Int) : Int := if (o % 4 != 0) = true then 11 else if 8 < o then 10 else 0
def aAY (h m o : Int) : Int := if gM o = 0 then (if o = 0 then h else if o = 4 then m else bits BinOp.and IntKind.u32 h m) else 0
theorem vO {o : Int} (o0 : 0 <= o) (h : gM o = 0) : o = 0 \/ o = 4 \/ o = 8 := by
 unfold gM at h
 cases h4 : (o % 4 != 0)
 . rw [h4] at h; simp at h h4; omega
 . rw [h4] at h; simp at h
theorem aOF (h m o : Int) (p : Nat) (w : World) (a : lS w p h m) (o0 : 0 <= o) (o1 : o < 4294967296) :
 Calls prog 290 #[.pointer (some ⟨p, 0, none⟩), .int .u32 o] w fun e w' => e = .returned (.tuple #[.int .u32 (aAY h m o), .int .i64 (gM o)]) /\ Below w.heap.size w w' := by
 have c0 := a.c0
 have c1 := a.c1
 clear a
 by_cases he : gM o = 0
 . rcases vO o0 he with rfl | rfl | rfl
   all_goals
    go_enter func290, ntmps290
    go_wp2_with (first | (go_at_call 293; refine (sL _ _ _ (by omega) (by omega) 0 (by rfl)).mono ?_; rintro e w' ⟨rfl, rfl⟩) | (go_at_call 294; refine (aM3 _ _ _).mono ?_; rintro e w' ⟨rfl, hb⟩))
    go_ret2
    first
    | exact ⟨rfl, aI w⟩
    | exact ⟨rfl, hb⟩
 . have hv : aAY h m o = 0 := by unfold aAY; rw [if_neg he]
   rw [hv]
   have hc : (if (some (⟨p, 0, none⟩ : Addr)) = none then 10 else if (o % 4 != 0) = true then 11 else if 8 < o then 10 else 0) = gM o := by
    rw [if_neg (by simp)]; rfl
   have hn : (gM o == 0) = false := by simpa using he
   have hn2 : (gM o != 0) = true := by simpa using he
   go_enter func290, ntmps290
   go_wp2_with fail
   refine (sL _ _ _ o0 o1 _ hc).mono ?_
   rintro e w' ⟨rfl, rfl⟩
   go_wp2_with fail
   go_ret2
   exact ⟨rfl, aI w⟩
def nQ (o : Int) : Int := if gM o = 0 then (if o = 4 then 0 else 12) else gM o
theorem aFH (h m o v : Int) (p : Nat) (w : World) (a : lS w p h m) (o0 : 0 <= o) (o1 : o < 4294967296) (h4 : o ≠ 4) :
 Calls prog 292 #[.pointer (some ⟨p, 0, none⟩), .int .u32 o, .int .u32 v] w fun e w' => e = .returned (.int .i64 (nQ o)) /\ w = w' := by
 clear a
 have hc : (if (some (⟨p, 0, none⟩ : Addr)) = none then 10 else if (o % 4 != 0) = true then 11 else if 8 < o then 10 else 0) = gM o := by
  rw [if_neg (by simp)]; rfl
 by_cases he : gM o = 0
 . rw [show nQ o = 12 by unfold nQ; rw [if_pos he, if_neg h4]]
   have hn : (o != 4) = true := by simpa using h4
   rw [he] at hc
   go_enter func292, ntmps292
   go_wp2_with fail
   refine (sL _ _ _ o0 o1 _ hc).mono ?_
   rintro e w' ⟨rfl, rfl⟩
   exact aR
 . rw [show nQ o = gM o by unfold nQ; rw [if_neg he]]
   have hn : (gM o == 0) = false := by simpa using he
   have hn2 : (gM o != 0) = true := by simpa using he
   go_enter func292, ntmps292
   go_wp2_with fail
   refine (sL _ _ _ o0 o1 _ hc).mono ?_
   rintro e w' ⟨rfl, rfl⟩
   exact aR
theorem aLB (h m v : Int) (p : Nat) (w : World) (a : lS w p h m) :
 Calls prog 292 #[.pointer (some ⟨p, 0, none⟩), .int .u32 4, .int .u32 v] w fun e w' => e = .returned (.int .i64 0) /\ w' = w.setCell ⟨p, 1, none⟩ (.int .u32 v) := by
 have c1 := a.c1
 have f1 := a.free 1
 clear a
 go_enter func292, ntmps292
 go_wp2_with fail
 refine (sL _ _ _ (by omega) (by omega) 0 (by rfl)).mono ?_
 rintro e w' ⟨rfl, rfl⟩
 exact aR
theorem aOx (h m : Int) (p : Nat) (w : World) (a : lS w p h m) (h0 : 0 <= h) (h1 : h < 4294967296) (m0 : 0 <= m) (m1 : m < 4294967296) :
 Calls prog 137 #[.pointer (some ⟨p, 0, none⟩)] w fun e w' => e = .returned (.bool (aHK h m)) /\ Below w.heap.size w w' := by
 have ho := aGv h m h0 h1 m0 m1
 have c0 := a.c0
 have c1 := a.c1
 have hp := a.lt
 have hg := bI
 have hmm := eW m
 clear a
 cases hq : (h == bits BinOp.andNot IntKind.u32 h m)
 all_goals
  rw [hq] at ho
  have HO := Hd ho
  clear ho
  go_enter func137, ntmps137
  go_wp2_with fail
  refine wp_region_quiet_below (by kernel_rfl) (by kernel_rfl) ?_
  repeat (go_big_quiet_step (first | (go_at_call 191; exact Calls.regrown_of (aKe _ _ _))))
  refine wpQuiet_nil ?_
  intro _ hw'
  obtain ⟨⟨dq, osq⟩, hw''⟩ := hw'
  subst hw''
  go_wp2_with fail
  go_ret
  exact ⟨bX HO.out, trG (aI w) _ _⟩
def hv (n : Int) (k : Nat) : Int := n / 2 ^ k
theorem aED {n : Int} (h : 0 <= n) (k : Nat) : 0 <= hv n k := lW n k h
theorem aNV {n : Int} (h : 0 <= n) (k : Nat) : hv n k <= n := Int.ediv_le_self _ h
theorem aJA (n : Int) (k : Nat) : hv n (k + 1) = hv n k / 2 := by
 unfold hv; rw [Int.pow_succ, Int.ediv_ediv_of_nonneg (Int.le_of_lt (Int.pow_pos (by decide)))]
theorem Bit (n i : Int) (w : World) (h0 : 0 <= n) (h1 : n < 18446744073709551616) (i0 : 0 <= i) (i1 : i < 64) :
 Calls prog 97 #[.int .u64 n, .int .i64 i] w fun e w' => e = .returned (.bool (aO n i.toNat)) /\ w = w' := by
 obtain ⟨m, rfl⟩ := Int.eq_ofNat_of_zero_le i0
 rw [Int.toNat_natCast]
 go_enter func97, ntmps97
 go_wp2
 go_loop [0, 5] (fun v i => ∃ k : Nat, k <= m /\ i = .int .i64 k /\ v = .int .u64 (hv n k)) (fun _ i => m - (intOf i).toNat)
 case atStart => exact ⟨0, by omega, rfl, by simp [hv]⟩
 case round =>
  obtain ⟨k, hk, rfl, rfl⟩ := hrel
  have p1 := aED h0 k
  have p2 := aNV h0 k
  by_cases hlt : k < m
  . go_wp2
    go_round
    case rel => exact ⟨k + 1, by omega, by go_num, by rw [aJA]⟩
    case measure => simp [intOf]; omega
  . go_wp2
    go_ret
    exact ⟨bX (by rw [show k = m by omega]; rfl), rfl⟩
theorem i25 : (prog.info? 44).map (·.size) = some 32 := by kernel_rfl
section
variable {ops : Array Oper} {rest : List Oper} {o : Oper} {a : Act} {w : World} {Q : Exit -> Act -> World -> Prop}
theorem qU (hgd : o.guard = none) (x : Operand) (ho : o.op = .load 44 x) (g off : Nat) (hx : a.eval x = .pointer (some ⟨g, off, none⟩)) {t : TypeId} {cs : Array Value} {fr : Nat × Nat} (f : Nat -> Bool) (hg : w.heap[g]? = some (.cells cs t fr)) (hp : eM cs off (bl f 32))
 (h : wpList prog ops Q rest (a.put o.dst (.agg (bl f 32).toArray)) w) : wpList prog ops Q (o :: rest) a w :=
 aL hgd _ x ho g off hx _ (bl f 32) hg underlying44 rfl (by rw [bF]; exact i25) hp h
theorem rV (hgd : o.guard = none) (x y : Operand) (ho : o.op = .store 44 x y) (g off : Nat) (hx : a.eval x = .pointer (some ⟨g, off, none⟩)) (f : Nat -> Bool) (hy : a.eval y = .agg (bl f 32).toArray) {t : TypeId} {cs : Array Value} (hg : w.heap[g]? = some (.cells cs t (0, 0))) (hl : off + 32 <= cs.size)
 (h : wpList prog ops Q rest (a.put o.dst undef) (w.setRow g (bN cs off (bl f 32)))) : wpList prog ops Q (o :: rest) a w :=
 aH hgd _ x y ho g off hx (bl f 32) hy hg (by rw [bF]; exact i25) (by rw [bF]; exact hl) (qR _ _) h
theorem aHv {C : World -> Prop} {K : Act -> Prop} (x : Operand) (ho : o.op = .load 44 x) (g off : Nat) (hx : a.eval x = .pointer (some ⟨g, off, none⟩)) {t : TypeId} {cs : Array Value} {fr : Nat × Nat} (f : Nat -> Bool) (hg : ∀ w, C w -> w.heap[g]? = some (.cells cs t fr)) (hp : eM cs off (bl f 32))
 (h : K (a.put o.dst (.agg (bl f 32).toArray))) : o.quiet prog a C K :=
 bD _ x ho g off hx _ (bl f 32) hg underlying44 rfl (by rw [bF]; exact i25) hp h
end
theorem rU {w : World} {b : Nat} {f : Nat -> Bool} {t : TypeId} {fr : Nat × Nat} (h : w.heap[b]? = some (.cells (bl f 32).toArray t fr)) (k : Nat) (hk : k < 32) : w.cell? ⟨b, k, none⟩ = some (.bool (f k)) := by
 rw [cell_of_row w b k _ t fr h]; simpa using qW f 32 k hk
theorem aAI (f : Nat -> Bool) (w : World) :
 Calls prog 73 #[.agg (bl f 32).toArray] w fun e w' => e = .returned (.int .u32 (ob f 32)) /\ Below w.heap.size w w' := by
 go_enter func73, ntmps73
 go_wp2_with fail
 have hB := aD w (.cells (bl f 32).toArray 44)
 have hb : Below w.heap.size w (w.alloc (.cells (bl f 32).toArray 44)) := aE (aI w) _
 generalize (w.alloc (.cells (bl f 32).toArray 44)) = W at *
 have HB := Hd hB
 clear hB
 go_loop [3, 4, 5] (fun out unit i => ∃ (k : Nat) (x y : Int), k <= 32 /\ i = .int .i64 k /\ out = .int .u32 x /\ unit = .int .u32 y /\ Hid (x = ob f k) /\ Hid (y = un k)) (fun _ _ i => 32 - (intOf i).toNat)
 case atStart => exact ⟨0, _, _, by omega, rfl, rfl, rfl, Hd rfl, Hd rfl⟩
 case round =>
  obtain ⟨k, x, y, hk, rfl, rfl, rfl, hx, hy⟩ := hrel
  have u : 0 <= y /\ y < 4294967296 := by rw [hy.out]; exact kV k
  have o : 0 <= x /\ x < 4294967296 := by rw [hx.out]; exact gL f k hk
  obtain ⟨u0, u1⟩ := u
  obtain ⟨o0, o1⟩ := o
  have hu := Hd (yI k)
  by_cases hlt : k < 32
  . have ho : x + y < 4294967296 := by rw [hx.out, hy.out]; exact aGV f k hlt
    have hc := rU HB.out k hlt
    cases hs : f k
    . have hn := Hd (xI f k hs)
      rw [hs] at hc
      have HS := Hd hs
      clear hs
      go_wp2_with fail
      go_round
      case rel => exact ⟨k + 1, _, _, by omega, by go_num, rfl, rfl, Hd (by rw [hn.out]; exact hx.out), Hd (by rw [hu.out, <- hy.out])⟩
      case measure => simp [intOf]; omega
    . have hn := Hd (tY f k hlt hs)
      rw [hs] at hc
      have HS := Hd hs
      clear hs
      go_wp2_with fail
      go_round
      case rel => exact ⟨k + 1, _, _, by omega, by go_num, rfl, rfl, Hd (by rw [hn.out, <- hx.out, <- hy.out]), Hd (by rw [hu.out, <- hy.out])⟩
      case measure => simp [intOf]; omega
  . go_wp2_with fail
    go_ret
    exact ⟨bH (by rw [hx.out, show k = 32 by omega]), hb⟩
def tO (f : Nat -> Bool) (k i : Nat) : Bool := decide (i < k) && f i
theorem vF (f : Nat -> Bool) : bl (tO f 0) 32 = bl (fun _ => false) 32 := jV _ _ _ fun i _ => by unfold tO; simp
theorem wK (f : Nat -> Bool) : bl (tO f 32) 32 = bl f 32 := jV _ _ _ fun i hi => by unfold tO; simp [hi]
theorem aDh (f : Nat -> Bool) (k : Nat) : (bl (tO f k) 32).set k (.bool (f k)) = bl (tO f (k + 1)) 32 := by
 rw [aBP]
 refine jV _ _ _ fun i hi => ?_
 unfold tO
 by_cases e : i = k
 . rw [if_pos e, e, decide_eq_true (by omega)]; simp
 . rw [if_neg e]
   by_cases h : i < k
   . rw [decide_eq_true h, decide_eq_true (by omega)]
   . rw [decide_eq_false h, decide_eq_false (by omega)]
theorem tP {w : World} {b : Nat} {f : Nat -> Bool} {t : TypeId} (k : Nat) (h : w.heap[b]? = some (.cells (bl (tO f k) 32).toArray t (0, 0))) : (w.setCell ⟨b, k, none⟩ (.bool (f k))).heap[b]? = some (.cells (bl (tO f (k + 1)) 32).toArray t (0, 0)) := by
 rw [aS h, fT, aDh]
theorem zN : (#[.bool false, .bool false, .bool false, .bool false, .bool false, .bool false, .bool false, .bool false, .bool false, .bool false, .bool false, .bool false, .bool false, .bool false, .bool false, .bool false, .bool false, .bool false, .bool false, .bool false, .bool false, .bool false, .bool false, .bool false, .bool false, .bool false, .bool false, .bool false, .bool false, .bool false, .bool false, .bool false] : Array Value) = (bl (fun _ => false) 32).toArray := rfl
theorem aFK (n : Int) (w : World) (n0 : 0 <= n) (n1 : n < 4294967296) :
 Calls prog 56 #[.int .u32 n] w fun e w' => e = .returned (.agg (bl (aO n) 32).toArray) /\ Below w.heap.size w w' := by
 go_enter func56, ntmps56
 go_wp2_with fail
 rw [zN]
 have h0 := bG w (.cells (bl (fun _ => false) 32).toArray 44) (.cells (bl (fun _ => false) 32).toArray 44)
 have h1 := bL w (.cells (bl (fun _ => false) 32).toArray 44) (.cells (bl (fun _ => false) 32).toArray 44)
 have hb : Below w.heap.size w ((w.alloc (.cells (bl (fun _ => false) 32).toArray 44)).alloc (.cells (bl (fun _ => false) 32).toArray 44)) := aE (aE (aI w) _) _
 generalize ((w.alloc (.cells (bl (fun _ => false) 32).toArray 44)).alloc (.cells (bl (fun _ => false) 32).toArray 44)) = W at *
 have H0 := Hd h0
 have H1 := Hd h1
 clear h0 h1
 go_loopw [4] (fun i wr => ∃ k : Nat, k <= 32 /\ i = .int .i64 k /\ wr.heap[w.heap.size]? = some (.cells (bl (fun _ => false) 32).toArray 44 (0, 0)) /\ wr.heap[w.heap.size + 1]? = some (.cells (bl (tO (aO n) k) 32).toArray 44 (0, 0)) /\ Below w.heap.size w wr) (fun i _ => 32 - (intOf i).toNat)
 case atStart => exact ⟨0, by omega, rfl, H0.out, by rw [vF]; exact H1.out, hb⟩
 case round =>
  clear hb
  obtain ⟨k, hk, rfl, h0, h1, hb⟩ := hrel
  by_cases hlt : k < 32
  . have hc := rU h1 k hlt
    have hf := aN h1 k
    have H2 := Hd (tP k h1)
    have H0 := Hd (aW h0 (w.heap.size + 1) k (.bool (aO n k)) (by omega))
    have hB := hb.setCell (p := ⟨w.heap.size + 1, k, none⟩) (by simp) (.bool (aO n k))
    clear h0 h1
    go_wp2_with (go_at_call 97; refine (Bit _ _ _ (by omega) (by omega) (by omega) (by omega)).mono ?_; rintro e w' ⟨rfl, rfl⟩)
    go_roundw
    case rel => exact ⟨k + 1, by omega, by go_num, H0.out, H2.out, hB⟩
    case measure => simp [intOf]; omega
  . obtain rfl : k = 32 := by omega
    rw [wK] at h1
    go_wp2_with (first | (refine qU rfl (.tmp 3) rfl _ _ rfl _ h1 (aM _) ?_) | (refine rV rfl (.tmp 2) (.tmp 15) rfl _ _ rfl _ rfl h0 (by simp [bF]) ?_))
    refine bodyPost_ret (v := .agg (bl (aO n) 32).toArray) ?_ rfl ⟨rfl, aB hb _ (Nat.le_refl _)⟩
    exact aU results56 _ _ _ 0 _ (bl (aO n) 32) rfl (aT _ h0) underlying44 rfl (by rw [bF]; exact i25) (by rw [aV _ _ (by simp [bF])]; exact aM _)
theorem aEp (h : Int) (h0 : 0 <= h) (h1 : h < 4294967296) : ob (aO h) 32 = h := by
 obtain ⟨b0, b1⟩ := gL (aO h) 32 (by omega)
 refine iG b0 b1 h0 h1 fun i hi => ?_
 unfold ob
 rw [jT, decide_eq_true hi, Bool.true_and]
theorem aKy (h : Int) (w : World) (h0 : 0 <= h) (h1 : h < 4294967296) :
 Calls prog 73 #[.agg (bl (aO h) 32).toArray] w fun e w' => e = .returned (.int .u32 h) /\ Below w.heap.size w w' := by
 have := aAI (aO h) w; rw [aEp h h0 h1] at this; exact this
structure Bx where
 ti : Int
 D : Nat -> Int
 S : Nat -> Int
 tm : Nat -> Tm
 wd : Wd
 rs : Rs
 rk : Rk
 msk : Int
 es : List (Int × Int)
structure Bx.ok (n c : Nat) (x : Bx) : Prop where
 n0 : 1 <= n
 n8 : n <= 8
 c0 : 1 <= c
 c8 : c <= 8
 t0 : 0 <= x.ti
 t1 : x.ti < 18446744073709551616
 d : xZ x.D
 s : okS x.S
 tm : ∀ i, i < c -> (x.tm i).ok
 wd : x.wd.ok
 rs : x.rs.ok
 rk : x.rk.ok
 m0 : 0 <= x.msk
 m1 : x.msk < 4294967296
def Bx.still (x : Bx) : Prop := x.wd.fa = 0 /\ x.rs.qs = false
def fH (n c : Nat) (x : Bx) (i : Nat) : Bool :=
 if i < 8 then decide (i < n) && decide (x.D i <= x.ti) else if i < 16 then decide (i - 8 < c) && ((x.tm (i - 8)).st && (x.tm (i - 8)).iq) else if i = 16 then x.rk.st else if i < 24 then false else decide (i - 24 < n) && (x.S (i - 24) == 1)
def wires (n c : Nat) (x : Bx) : Int := ob (fH n c x) 32
theorem dE (n c : Nat) (x : Bx) : 0 <= wires n c x /\ wires n c x < 4294967296 := gL _ _ (Nat.le_refl _)
theorem aKC (f : Nat -> Bool) (i : Nat) : aO (ob f 32) i = (decide (i < 32) && f i) := jT f i
theorem kR (n c : Nat) (x : Bx) (i : Nat) (h : i < 32) : aO (wires n c x) i = fH n c x i := by unfold wires; rw [aKC, decide_eq_true h, Bool.true_and]
theorem aFZ (f : Nat -> Bool) (c : Nat) (hc : c <= 8) (i : Nat) (hi : i < 32) : aO (put 0 8 8 (ob f c)) i = (decide (8 <= i) && (decide (i - 8 < c) && f (i - 8))) := by
 unfold put
 rw [if_pos (by decide)]
 show aO ((fF (jR 0 8 8 (ob f c)) 32 : Nat) : Int) i = _
 rw [jT, decide_eq_true hi, Bool.true_and]
 unfold jR
 rw [show (8 : Int).toNat = 8 from rfl, show (0 : Int).toNat = 0 from rfl, Nat.zero_testBit]
 unfold ob
 rw [Int.toNat_natCast, gQ]
 by_cases h8 : 8 <= i
 . rw [decide_eq_true h8, Bool.true_and]
   by_cases h16 : i - 8 < 8
   . rw [if_pos ⟨h8, h16⟩]
   . rw [if_neg (fun h => h16 h.2), decide_eq_false (by omega), Bool.false_and]
 . rw [if_neg (fun h => h8 h.1), decide_eq_false h8, Bool.false_and]
theorem aA0 (c : Nat) (x : Bx) (hc : c <= 8) (b : Bool) (hb : x.rk.st = b) : put (put 0 8 8 (ob (fun i => (x.tm i).st && (x.tm i).iq) c)) 16 1 (tk b) = wires 0 c x := by
 have h0 := iF 0 8 8 (ob (fun i => (x.tm i).st && (x.tm i).iq) c) (by decide) (by decide)
 have h1 := iF _ 16 1 (tk b) h0.1 h0.2
 have h2 := dE 0 c x
 refine iG h1.1 h1.2 h2.1 h2.2 fun i hi => ?_
 have e := mK (put 0 8 8 (ob (fun i => (x.tm i).st && (x.tm i).iq) c)) 16 b (by decide) h0.1 i hi
 rw [show ((16 : Nat) : Int) = 16 from rfl] at e
 rw [e, kR _ _ _ _ hi, aFZ _ c hc i hi]
 unfold fH
 subst hb
 by_cases h : i = 16
 . subst h; simp
 . rw [if_neg h]
   by_cases a : i < 8
   . rw [if_pos a, decide_eq_false (by omega)]; simp
   . rw [if_neg a, decide_eq_true (show 8 <= i by omega), Bool.true_and]
     by_cases b : i < 16
     . rw [if_pos b]
     . rw [if_neg b, if_neg h, decide_eq_false (by omega)]; simp
theorem aB2 (k c : Nat) (x : Bx) (hk : k < 8) (a b : Bool) (ha : decide (x.D k <= x.ti) = a) (hb : (x.S k == 1) = b) : put (put (wires k c x) (k : Int) 1 (tk a)) ((24 + k : Nat) : Int) 1 (tk b) = wires (k + 1) c x := by
 have h := dE k c x
 have h0 := iF _ (k : Int) 1 (tk a) h.1 h.2
 have h1 := iF _ ((24 + k : Nat) : Int) 1 (tk b) h0.1 h0.2
 have h2 := dE (k + 1) c x
 refine iG h1.1 h1.2 h2.1 h2.2 fun i hi => ?_
 rw [mK _ (24 + k) b (by omega) h0.1 i hi, mK _ k a (by omega) h.1 i hi, kR _ _ _ _ hi, kR _ _ _ _ hi]
 unfold fH
 subst ha hb
 by_cases e : i = 24 + k
 . subst e
   rw [if_pos rfl, if_neg (by omega), if_neg (by omega), if_neg (by omega), if_neg (by omega), show 24 + k - 24 = k by omega, decide_eq_true (Nat.lt_succ_self k), Bool.true_and]
 . rw [if_neg e]
   by_cases f : i = k
   . subst f
     rw [if_pos rfl, if_pos hk, decide_eq_true (Nat.lt_succ_self i), Bool.true_and]
   . rw [if_neg f]
     by_cases a : i < 8
     . rw [if_pos a, if_pos a]
       congr 1
       by_cases g : i < k
       . rw [decide_eq_true g, decide_eq_true (by omega)]
       . rw [decide_eq_false g, decide_eq_false (by omega)]
     . rw [if_neg a, if_neg a]
       by_cases b : i < 16
       . rw [if_pos b, if_pos b]
       . rw [if_neg b, if_neg b]
         by_cases c : i = 16
         . rw [if_pos c, if_pos c]
         . rw [if_neg c, if_neg c]
           by_cases d : i < 24
           . rw [if_pos d, if_pos d]
           . rw [if_neg d, if_neg d]
             congr 1
             by_cases g : i - 24 < k
             . rw [decide_eq_true g, decide_eq_true (by omega)]
             . rw [decide_eq_false g, decide_eq_false (by omega)]
structure Bx.like (c : Nat) (x y : Bx) : Prop where
 ti : x.ti = y.ti
 D : x.D = y.D
 S : x.S = y.S
 tm : ∀ i, i < c -> x.tm i = y.tm i
 wd : x.wd = y.wd
 rs : x.rs = y.rs
 rk : x.rk = y.rk
 msk : x.msk = y.msk
 es : x.es = y.es
theorem Bx.like.symm {c : Nat} {x y : Bx} (h : Bx.like c x y) : Bx.like c y x := ⟨h.ti.symm, h.D.symm, h.S.symm, fun i hi => (h.tm i hi).symm, h.wd.symm, h.rs.symm, h.rk.symm, h.msk.symm, h.es.symm⟩
theorem Bx.like.ok {n c : Nat} {x y : Bx} (h : Bx.like c x y) (o : x.ok n c) : y.ok n c :=
 ⟨o.n0, o.n8, o.c0, o.c8, h.ti ▸ o.t0, h.ti ▸ o.t1, h.D ▸ o.d, h.S ▸ o.s, fun i hi => h.tm i hi ▸ o.tm i hi, h.wd ▸ o.wd, h.rs ▸ o.rs, h.rk ▸ o.rk, h.msk ▸ o.m0, h.msk ▸ o.m1⟩
theorem Bx.like.still {c : Nat} {x y : Bx} (h : Bx.like c x y) (o : x.still) : y.still := ⟨h.wd ▸ o.1, h.rs ▸ o.2⟩
theorem Bx.like.fH {n c : Nat} {x y : Bx} (h : Bx.like c x y) (i : Nat) : fH n c x i = fH n c y i := by
 unfold B.fH
 rw [h.D, h.ti, h.S, h.rk]
 by_cases a : i < 8
 . rw [if_pos a, if_pos a]
 . rw [if_neg a, if_neg a]
   by_cases b : i < 16
   . rw [if_pos b, if_pos b]
     by_cases g : i - 8 < c
     . rw [h.tm _ g]
     . rw [decide_eq_false g, Bool.false_and, Bool.false_and]
   . rw [if_neg b, if_neg b]
theorem Bx.like.wires {n c : Nat} {x y : Bx} (h : Bx.like c x y) : wires n c x = wires n c y := aFv _ _ 32 fun i _ => h.fH i
def Bx.on (x : Bx) (k : Int) : Bx := { x with ti := eC x.ti k, tm := fun i => (x.tm i).tick k, rk := x.rk.tick k }
def Bx.later (x : Bx) (N : Int) : Bx := { x.on (x.wd.ran N) with wd := x.wd.tick N }
def Bx.rst (x : Bx) (cause : Int) : Bx := ⟨x.ti, nvD, iH, fun _ => tz, wz, x.rs.ltc cause, x.rk.zero, 0, x.es ++ [(x.ti, cause)]⟩
def Bx.tick (x : Bx) (N : Int) : Bx :=
 if (x.later N).wd.fa = 0 then x.later N else { (x.later N).rst (x.later N).wd.fa with ti := eC (x.later N).ti (N - x.wd.ran N), rk := (x.later N).rk.zero.tick (N - x.wd.ran N) }
theorem fX {t : Wd} (h : t.ok) (hf : t.fa = 0) {N : Int} (n0 : 0 <= N) : 0 <= t.ran N /\ t.ran N <= N := by
 unfold Wd.ran
 rw [if_neg (by simpa using hf)]
 have := h.s1
 split
 . split <;> omega
 . omega
theorem aI9 {t : Wd} (hf : t.fa = 0) {N : Int} (h : (t.tick N).fa = 0) : t.ran N = N := by
 unfold Wd.ran Wd.tick at *
 rw [if_neg (by simpa using hf)]
 split
 . rename_i he
   split
   . rename_i hs
     rw [if_pos ⟨he, hf⟩, if_pos hs] at h
     exact absurd h (show ¬ (2 : Int) = 0 by decide)
   . rfl
 . rfl
theorem jX {t : Wd} (hf : t.fa = 0) {N : Int} (h : (t.tick N).fa ≠ 0) : (t.tick N).fa = 2 := by
 unfold Wd.tick at *
 split at h
 . rename_i he
   split at h
   . rename_i hs; rw [if_pos he, if_pos hs]
   . exact absurd hf h
 . exact absurd hf h
theorem zI : pA 2 := .inl rfl
theorem uY {a : Int} (h0 : 0 <= a) (h1 : a < 18446744073709551616) : eC a 0 = a := by unfold eC; split <;> omega
theorem Rk.tick_zero {t : Rk} (h : t.ok) : t.tick 0 = t := by
 have e : t.adv 0 = t := by
  have := h.r0; have := h.r1; have := h.s1
  obtain ⟨d, r, s, sec, al, ah, en, st⟩ := t
  simp only at *
  unfold Rk.adv
  simp only [Int.add_zero]
  rw [Int.ediv_eq_zero_of_lt (by omega) (by omega), Int.emod_eq_of_lt (by omega) (by omega), Int.add_zero, Int.min_eq_left (by unfold rS; omega)]
 unfold Rk.tick Rk.behind
 rw [e]
 cases t.met <;> rfl
theorem Wd.tick_zero {t : Wd} (h : t.ok) : t.tick 0 = t := by
 unfold Wd.tick
 split
 . rename_i he
   have := h.run he.1 he.2
   rw [if_neg (by omega)]
   simp
 . rfl
theorem aI8 (N : Int) : tz.tick N = tz := Tm.tick_off rfl N
theorem aIw (N : Int) : wz.tick N = wz := rfl
theorem aEi (N : Int) : wz.ran N = N := rfl
section
variable {n c : Nat} {x : Bx}
theorem Bx.on_ok (h : x.ok n c) {k : Int} (k0 : 0 <= k) (k1 : k < 18446744073709551616) : (x.on k).ok n c :=
 ⟨h.n0, h.n8, h.c0, h.c8, (kE h.t0 h.t1 k0 k1).1, (kE h.t0 h.t1 k0 k1).2, h.d, h.s, fun i hi => Tm.tick_ok (h.tm i hi) k0, h.wd, h.rs, Rk.tick_ok h.rk k0, h.m0, h.m1⟩
theorem Bx.later_ok (h : x.ok n c) (hf : x.wd.fa = 0) {N : Int} (n0 : 0 <= N) (n1 : N < 18446744073709551616) : (x.later N).ok n c := by
 have hb := fX h.wd hf n0
 have o := Bx.on_ok h hb.1 (Int.lt_of_le_of_lt hb.2 n1)
 exact ⟨o.n0, o.n8, o.c0, o.c8, o.t0, o.t1, o.d, o.s, o.tm, Wd.tick_ok h.wd n0, o.rs, o.rk, o.m0, o.m1⟩
theorem Bx.rst_ok (h : x.ok n c) (cause : Int) : (x.rst cause).ok n c :=
 ⟨h.n0, h.n8, h.c0, h.c8, h.t0, h.t1, aCV, zF, fun _ _ => aC9, aJR, Rs.ltc_ok h.rs cause, Rk.zero_ok h.rk, Int.le_refl _, (by show (0 : Int) < 4294967296; decide)⟩
theorem aCg {t : Rs} {cause : Int} (h : pA cause) : (t.ltc cause).qs = false := by unfold Rs.ltc; rw [if_pos h]; rfl
theorem Bx.rst_still {cause : Int} (hc : pA cause) : (x.rst cause).still := ⟨rfl, aCg hc⟩
theorem Bx.tick_no {N : Int} (h : (x.later N).wd.fa = 0) : x.tick N = x.later N := by unfold Bx.tick; rw [if_pos h]
theorem Bx.tick_yes {N : Int} (h : (x.later N).wd.fa ≠ 0) : x.tick N = { (x.later N).rst (x.later N).wd.fa with ti := eC (x.later N).ti (N - x.wd.ran N), rk := (x.later N).rk.zero.tick (N - x.wd.ran N) } := by unfold Bx.tick; rw [if_neg h]
theorem Bx.tick_ok (h : x.ok n c) (hs : x.still) {N : Int} (n0 : 0 <= N) (n1 : N < 18446744073709551616) : (x.tick N).ok n c /\ (x.tick N).still := by
 have hl := Bx.later_ok h hs.1 n0 n1
 have hb := fX h.wd hs.1 n0
 by_cases hf : (x.later N).wd.fa = 0
 . rw [Bx.tick_no hf]; exact ⟨hl, hf, hs.2⟩
 . rw [Bx.tick_yes hf]
   have o := Bx.rst_ok hl (x.later N).wd.fa
   have a := kE hl.t0 hl.t1 (show 0 <= N - x.wd.ran N by omega) (show N - x.wd.ran N < 18446744073709551616 by omega)
   exact ⟨⟨o.n0, o.n8, o.c0, o.c8, a.1, a.2, o.d, o.s, o.tm, o.wd, o.rs, Rk.tick_ok (Rk.zero_ok hl.rk) (by omega), o.m0, o.m1⟩, rfl, aCg (by
    have e : (x.later N).wd.fa = 2 := jX hs.1 hf
    rw [e]; exact zI)⟩
theorem Bx.rst_later (x : Bx) (cause N : Int) : (x.rst cause).later N = { x.rst cause with ti := eC x.ti N, rk := x.rk.zero.tick N } := by
 unfold Bx.later Bx.on Bx.rst
 simp only [aEi, aIw, aI8]
theorem Bx.later_zero (h : x.ok n c) (hf : x.wd.fa = 0) : Bx.like c x (x.later 0) := by
 have e : x.wd.ran 0 = 0 := by have := fX h.wd hf (Int.le_refl 0); omega
 refine ⟨?_, rfl, rfl, fun i hi => ?_, ?_, rfl, ?_, rfl, rfl⟩
 . show x.ti = eC x.ti (x.wd.ran 0); rw [e, uY h.t0 h.t1]
 . show x.tm i = (x.tm i).tick (x.wd.ran 0); rw [e, Tm.tick_zero (h.tm i hi)]
 . show x.wd = x.wd.tick 0; rw [Wd.tick_zero h.wd]
 . show x.rk = x.rk.tick (x.wd.ran 0); rw [e, Rk.tick_zero h.rk]
theorem Bx.tick_zero (h : x.ok n c) (hs : x.still) : Bx.like c x (x.tick 0) := by
 have l := Bx.later_zero h hs.1
 rw [Bx.tick_no (l.wd ▸ hs.1)]; exact l
end
end Go.Proofs.YtpojmmgokgamgaaGreat.B
